/-
  WalkRights: what may be read only is not written nor executed; of a page all addresses come to one frame, by as many reads: for every input true, and the input reads as it did; no condition.
-/
import Derived.Test.YtpfeibhafchfkaaWkPagesLaw
namespace Go.Proofs.Ytpfeibhafchfkaa
open Go.ChangeShapes Go.WideShapes Go.ChangeAt Go.RowKit Go.Deep
namespace Wk
open Ph En
theorem mask_page (a : Nat) (ha : a < 4294967296) : a &&& 4294967040 = a / 256 * 256 := by
  apply Nat.eq_of_testBit_eq
  intro i
  have e1 : (4294967040 : Nat) = (2 ^ 24 - 1) <<< 8 := by decide
  have e2 : a / 256 * 256 = (a >>> 8) <<< 8 := by rw [Nat.shiftLeft_eq, Nat.shiftRight_eq_div_pow]
  rw [e1, e2, Nat.testBit_and, Nat.testBit_shiftLeft, Nat.testBit_shiftLeft, Nat.testBit_two_pow_sub_one, Nat.testBit_shiftRight]
  by_cases h8 : i ≥ 8
  · rw [show 8 + (i - 8) = i by omega]
    by_cases h24 : i - 8 < 24
    · simp [h8, h24]
    · have : a.testBit i = false := Nat.testBit_lt_two_pow (Nat.lt_of_lt_of_le ha (Nat.pow_le_pow_right (n := 2) (by decide) (show 32 ≤ i by omega)))
      simp [this]
  · simp [h8]
theorem page_bits (a o : Int) (a0 : 0 ≤ a) (a1 : a < 4294967296) (o0 : 0 ≤ o) (o1 : o < 256) : bits .or .u32 (bits .andNot .u32 a 255) o = a / 256 * 256 + o := by
  obtain ⟨A, rfl⟩ := Int.eq_ofNat_of_zero_le a0
  obtain ⟨O, rfl⟩ := Int.eq_ofNat_of_zero_le o0
  have h := u32_andNot_nat A 255 (by omega) (by decide)
  rw [show ((255 : Nat) : Int) = 255 from rfl] at h
  rw [h, show 4294967295 - 255 = 4294967040 from rfl, mask_page A (by omega), u32_or_nat _ _ (by omega) (by omega), nat_join 8 (A / 256 * 256) O (Nat.mul_mod_left _ _) (by omega)]
  omega
/-- A hit with a fault. -/
def ht (k r : Int) : Hit := ⟨k, r, 0, false, false, false⟩
theorem alw0 (V W X : Bool) : alw V W X 0 = V := by cases V <;> rfl
theorem alw1 (V W X : Bool) : alw V W X 1 = (V && W) := by cases V <;> cases W <;> cases X <;> rfl
theorem alw2 (V W X : Bool) : alw V W X 2 = (V && X) := by cases V <;> cases W <;> cases X <;> rfl
theorem hits (n : Nat) (t : Tell) :
    (∃ k kb kc r, k ≠ 0 ∧ hitOf n t 0 = ht k r ∧ hitOf n t 1 = ht kb r ∧ hitOf n t 2 = ht kc r ∧ (kb = k ∨ (kb = 4 ∧ k = 5))) ∨
    (∃ (r F : Int) (W X B : Bool), F < (n : Int) ∧ hitOf n t 0 = ⟨0, r, F, W, X, B⟩ ∧ hitOf n t 1 = (if W = true then ⟨0, r, F, W, X, B⟩ else ht 4 r) ∧ hitOf n t 2 = (if X = true then ⟨0, r, F, W, X, B⟩ else ht 4 r)) := by
  obtain ⟨⟨V, W, X, B, F⟩, r, f⟩ := t
  by_cases hf : f = 0
  · subst hf
    have no : ∀ acc, alw V W X acc = false → hitOf n ⟨⟨V, W, X, B, F⟩, r, 0⟩ acc = ht 4 r := fun acc h => by
      rw [hit_check (by rw [check_no h]; decide), check_no h]; rfl
    have bus : ∀ acc, alw V W X acc = true → inM n F = false → hitOf n ⟨⟨V, W, X, B, F⟩, r, 0⟩ acc = ht 5 r := fun acc h hk => by
      rw [hit_check (by rw [check_bus h hk]; decide), check_bus h hk]; rfl
    have ok : ∀ acc, alw V W X acc = true → inM n F = true → hitOf n ⟨⟨V, W, X, B, F⟩, r, 0⟩ acc = ⟨0, r, F, W, X, B⟩ := fun acc h hk => hit_ok (check_ok h hk)
    cases hV : V
    · subst hV
      exact .inl ⟨4, 4, 4, r, by decide, no 0 (by rw [alw0]), no 1 (by rw [alw1]; rfl), no 2 (by rw [alw2]; rfl), .inl rfl⟩
    · subst hV
      cases hk : inM n F
      · left
        cases hW : W <;> cases hX : X <;> subst hW hX
        · exact ⟨5, 4, 4, r, by decide, bus 0 rfl hk, no 1 rfl, no 2 rfl, .inr ⟨rfl, rfl⟩⟩
        · exact ⟨5, 4, 5, r, by decide, bus 0 rfl hk, no 1 rfl, bus 2 rfl hk, .inr ⟨rfl, rfl⟩⟩
        · exact ⟨5, 5, 4, r, by decide, bus 0 rfl hk, bus 1 rfl hk, no 2 rfl, .inl rfl⟩
        · exact ⟨5, 5, 5, r, by decide, bus 0 rfl hk, bus 1 rfl hk, bus 2 rfl hk, .inl rfl⟩
      · right
        refine ⟨r, F, W, X, B, (inM_true hk).2, ok 0 rfl hk, ?_, ?_⟩
        · cases hW : W <;> subst hW
          · exact no 1 rfl
          · exact ok 1 rfl hk
        · cases hX : X <;> subst hX
          · exact no 2 (by cases W <;> rfl)
          · exact ok 2 (by cases W <;> rfl) hk
  · exact .inl ⟨f, f, f, r, hf, hit_fault hf, hit_fault hf, hit_fault hf, .inl rfl⟩
end Wk
namespace walkRights
open Ph En Wk
set_option maxRecDepth 100000 in
set_option maxHeartbeats 4000000 in
theorem walk (nf : Int) (pa : Option Addr) (len cap : Nat) (x : Puts) (root a o : Int) (w : World) (hl : len ≤ maxLen) (hx : PutsIn w.heap.size w pa len x) (a0 : 0 ≤ a) (a1 : a < 4294967296) (o0 : 0 ≤ o) (o1 : o < 256) :
    Calls Try.prog 5 #[.int .i64 nf, .slice pa len cap, .int .i64 root, .int .u32 a, .int .u8 o] w fun e w' => e = .returned (.bool true) ∧ Only [] w w' := by
  have HX := Lib.hid hx
  clear hx
  go_enter Try.func5, Try.ntmps5
  go_wp2_with fail
  refine (alive_any _).mono ?_
  rintro e w0 ⟨rfl, O0⟩
  go_wp2_with fail
  refine (Wk.great_any nf pa len cap w0 hl).mono ?_
  rintro e w' ⟨rfl, rfl⟩
  cases hg : gr nf len
  case true =>
    clear hg
    go_wp2
    go_ret
    exact ⟨rfl, O0⟩
  obtain ⟨g1, g2, h100⟩ := gr_false hg
  obtain ⟨n, rfl⟩ := Int.eq_ofNat_of_zero_le (show 0 ≤ nf by omega)
  have n1 : 1 ≤ n := by omega
  have n2 : n ≤ 100 := by omega
  clear hg g1 g2
  go_wp2_with fail
  refine (Wk.both_any n pa len cap x w0 n1 n2 h100 ((HX.out.kept O0 (by simp)).mono O0.size)).mono ?_
  rintro e w1 ⟨m, F, c, r, G, rfl, hB, hO, hm, hF, hr, hG⟩
  have M1 := Lib.hid hB.mem
  have O1 := Lib.hid (O0.next hO (by simp))
  clear hB hO hm hF hr hG O0
  generalize zOf n x len = z at *
  obtain ⟨t, ht⟩ : ∃ t, tellS n z root a = t := ⟨_, rfl⟩
  have HA := Lib.hid (show walkS n z root a 0 = hitOf n t 0 by unfold walkS; rw [ht])
  have HB := Lib.hid (show walkS n z root a 1 = hitOf n t 1 by unfold walkS; rw [ht])
  have HC := Lib.hid (show walkS n z root a 2 = hitOf n t 2 by unfold walkS; rw [ht])
  have HD := Lib.hid (show walkS n z root (a / 256 * 256 + o) 0 = hitOf n t 0 by unfold walkS; rw [tellS_congr (show (a / 256 * 256 + o) / 256 = a / 256 by omega), ht])
  clear ht
  obtain ⟨⟨fA, rA, FA, WA, XA, BA⟩, hA⟩ : ∃ h, hitOf n t 0 = h := ⟨_, rfl⟩
  obtain ⟨⟨fB, rB, FB, WB, XB, BB⟩, hB⟩ : ∃ h, hitOf n t 1 = h := ⟨_, rfl⟩
  obtain ⟨⟨fC, rC, FC, WC, XC, BC⟩, hC⟩ : ∃ h, hitOf n t 2 = h := ⟨_, rfl⟩
  rw [hA] at HA HD
  rw [hB] at HB
  rw [hC] at HC
  have KA := Lib.hid hA
  have KB := Lib.hid hB
  have KC := Lib.hid hC
  clear hA hB hC
  go_wp2_with fail
  refine (walk_any m F n c z root a 0 w1 M1.out a0 a1).mono ?_
  rintro e w2 ⟨rfl, b2⟩
  rw [HA.out]
  simp only [Hit.val]
  have M2 := Lib.hid (M1.out.kept (Only.of b2 []) (by simp) (by simp))
  have O2 := Lib.hid (O1.out.next (Only.of b2 []) (by simp))
  clear M1 O1 b2
  go_wp2_with fail
  have ha := Only.alloc [] w2 (.cells #[.int .i64 fA, .int .i64 rA, .int .i64 FA, .bool WA, .bool XA, .bool BA] 34)
  have S3 := Lib.hid (six_new w2 fA rA FA WA XA BA 34)
  have M3 := Lib.hid (M2.out.kept ha (by simp) (by simp))
  have O3 := Lib.hid (O2.out.next ha (by simp))
  clear M2 O2 ha
  generalize w2.alloc (.cells #[.int .i64 fA, .int .i64 rA, .int .i64 FA, .bool WA, .bool XA, .bool BA] 34) = w3 at *
  refine (walk_any m F n c z root a 1 w3 M3.out a0 a1).mono ?_
  rintro e w4 ⟨rfl, b4⟩
  rw [HB.out]
  simp only [Hit.val]
  have S4 := Lib.hid (S3.out.kept' b4)
  have M4 := Lib.hid (M3.out.kept (Only.of b4 []) (by simp) (by simp))
  have O4 := Lib.hid (O3.out.next (Only.of b4 []) (by simp))
  clear M3 O3 S3 b4
  go_wp2_with fail
  have ha := Only.alloc [] w4 (.cells #[.int .i64 fB, .int .i64 rB, .int .i64 FB, .bool WB, .bool XB, .bool BB] 34)
  have S5 := Lib.hid (S4.out.keptO ha)
  have T5 := Lib.hid (six_new w4 fB rB FB WB XB BB 34)
  have M5 := Lib.hid (M4.out.kept ha (by simp) (by simp))
  have O5 := Lib.hid (O4.out.next ha (by simp))
  clear M4 O4 S4 ha
  generalize w4.alloc (.cells #[.int .i64 fB, .int .i64 rB, .int .i64 FB, .bool WB, .bool XB, .bool BB] 34) = w5 at *
  refine (walk_any m F n c z root a 2 w5 M5.out a0 a1).mono ?_
  rintro e w6 ⟨rfl, b6⟩
  rw [HC.out]
  simp only [Hit.val]
  have S6 := Lib.hid (S5.out.kept' b6)
  have T6 := Lib.hid (T5.out.kept' b6)
  have M6 := Lib.hid (M5.out.kept (Only.of b6 []) (by simp) (by simp))
  have O6 := Lib.hid (O5.out.next (Only.of b6 []) (by simp))
  clear M5 O5 S5 T5 b6
  go_wp2_with fail
  have ha := Only.alloc [] w6 (.cells #[.int .i64 fC, .int .i64 rC, .int .i64 FC, .bool WC, .bool XC, .bool BC] 34)
  have S7 := Lib.hid (S6.out.keptO ha)
  have T7 := Lib.hid (T6.out.keptO ha)
  have U7 := Lib.hid (six_new w6 fC rC FC WC XC BC 34)
  have M7 := Lib.hid (M6.out.kept ha (by simp) (by simp))
  have O7 := Lib.hid (O6.out.next ha (by simp))
  clear M6 O6 S6 T6 ha
  generalize w6.alloc (.cells #[.int .i64 fC, .int .i64 rC, .int .i64 FC, .bool WC, .bool XC, .bool BC] 34) = w7 at *
  refine (walk_at m F n c z root (a / 256 * 256 + o) _ 0 w7 M7.out (page_bits a o a0 a1 o0 o1) (by omega) (by omega)).mono ?_
  rintro e w8 ⟨rfl, b8⟩
  rw [HD.out]
  simp only [Hit.val]
  have S8 := Lib.hid (S7.out.kept' b8)
  have T8 := Lib.hid (T7.out.kept' b8)
  have U8 := Lib.hid (U7.out.kept' b8)
  have O8 := Lib.hid (O7.out.next (Only.of b8 []) (by simp))
  have e1 : w2.heap.size < w8.heap.size := block_lt_of_cell S8.out.c0
  have e2 : w4.heap.size < w8.heap.size := block_lt_of_cell T8.out.c0
  have e3 : w6.heap.size < w8.heap.size := block_lt_of_cell U8.out.c0
  clear M7 O7 S7 T7 U7 b8 HA HB HC HD HX
  obtain ⟨s0, s1, s2, s3, s4, s5⟩ := S8.out
  obtain ⟨t0, t1, t2, t3, t4, t5⟩ := T8.out
  obtain ⟨u0, u1, u2, u3, u4, u5⟩ := U8.out
  have q := fun w => eqHit fA rA FA WA XA BA w
  clear S8 T8 U8
  rcases hits n t with ⟨k, kb, kc, rr, hk, h0, h1, h2, h3⟩ | ⟨rr, FF, W, X, B, hF, h0, h1, h2⟩
  · rw [KA.out] at h0
    rw [KB.out] at h1
    rw [KC.out] at h2
    injection h0 with z1 z2 z3 z4 z5 z6
    injection h1 with y1 y2 y3 y4 y5 y6
    injection h2 with x1 x2 x3 x4 x5 x6
    subst z1 z2 z3 z4 z5 z6 y1 y2 y3 y4 y5 y6 x1 x2 x3 x4 x5 x6
    clear KA KB KC
    rcases h3 with rfl | ⟨rfl, rfl⟩
    · have dk : (fB != 0) = true := by simpa using hk
      have dk' : (fB == 0) = false := by simpa using hk
      clear hk
      go_wp2
      go_ret
      exact ⟨rfl, O8.out.next (Only.alloc [] _ _) (by simp)⟩
    · clear hk
      go_wp2
      go_ret
      exact ⟨rfl, O8.out.next (Only.alloc [] _ _) (by simp)⟩
  · rw [KA.out] at h0
    rw [KB.out] at h1
    rw [KC.out] at h2
    have dF : decide (FF < (n : Int)) = true := by simpa using hF
    injection h0 with z1 z2 z3 z4 z5 z6
    subst z1 z2 z3 z4 z5 z6
    cases WA <;> cases XA
    all_goals
      simp only [if_true, Bool.false_eq_true, if_false] at h1 h2
      injection h1 with y1 y2 y3 y4 y5 y6
      injection h2 with x1 x2 x3 x4 x5 x6
      subst y1 y2 y3 y4 y5 y6 x1 x2 x3 x4 x5 x6
      clear KA KB KC
      go_wp2
      go_ret
      exact ⟨rfl, O8.out.next (Only.alloc [] _ _) (by simp)⟩
set_option maxRecDepth 100000 in
theorem lifted (os : Os) (started : os.Started) (H : Type) (enc : TypeId × Value → H) :
    ReturnsInHanded {} Try.checked os 5 .any (Rows.walkRightsSpec.pre6 enc Try.prog Try.f5 Rows.walkRightsRow.domain false) (Rows.walkRightsSpec.post enc Try.prog Try.f5 false true false false) := by
  refine returnsInHanded_of_change_sized (C := Try.checked) own started (by kernel_rfl) Try.func5
    (ChangeSpec.witness6 (enc := enc) (C := Try.checked) false ⟨#[], #[.int .i64 0, .slice none 0 0, .int .i64 0, .int .u32 0, .int .u8 0], []⟩ 8 (by kernel_rfl) (by kernel_rfl) (by kernel_rfl) (by kernel_rfl)) ?_
  intro W base args ds gs before hval0 hW hcnd hZ0 _
  have hval : ∀ (j : Nat) t v, Try.f5.params[j]? = some t → args[j]? = some v → Value.okWide Try.prog W .any base t v := hval0
  have hZ : ∀ n ∈ DataW.weightsEach Try.prog (Try.f5.params.toList ++ []) (ds ++ gs), n ≤ reachBytes := fun n hn => of_decide_eq_true (List.all_eq_true.1 hZ0 n hn)
  have hW' := hW
  obtain ⟨p, q, hA0, hV, rfl, hfz, hnd⟩ := hW
  have hA : DataW.TrodAll enc Try.prog W 0 (fun _ => true) true Try.f5.params.toList args.toList ds p := hA0
  rw [Try.params5] at hA hval hZ
  obtain ⟨v0, vs0, d0, ds0, p0, q0, hargs, rfl, rfl, h0, r0⟩ := trodAll_cons hA
  obtain ⟨v1, vs1, d1, ds1, p1, q1, rfl, rfl, rfl, h1, r1⟩ := trodAll_cons r0
  obtain ⟨v2, vs2, d2, ds2, p2, q2, rfl, rfl, rfl, h2, r2⟩ := trodAll_cons r1
  obtain ⟨v3, vs3, d3, ds3, p3, q3, rfl, rfl, rfl, h3, r3⟩ := trodAll_cons r2
  obtain ⟨v4, vs4, d4, ds4, p4, q4, rfl, rfl, rfl, h4, r4⟩ := trodAll_cons r3
  obtain ⟨rfl, rfl, rfl⟩ := trodAll_nil r4
  obtain rfl : args = #[v0, v1, v2, v3, v4] := by cases args; simp_all
  obtain ⟨rfl, rfl⟩ := trodVars_none hV
  obtain ⟨x0, rfl, rfl, rfl, w0⟩ := open_int Try.underlying3 (hval 0 3 v0 rfl rfl) h0
  have k1 := h1
  have hz1 : ∀ n ∈ d1.weights Try.prog 22, n ≤ reachBytes := fun n hn => hZ n (by simp only [List.append_nil, DataW.weightsEach, List.mem_append]; exact Or.inr (Or.inl hn))
  obtain ⟨a1, n1, c1, y1, rfl, m1, lt1, z1⟩ := puts_open (hval 1 22 v1 rfl rfl) h1 hz1
  obtain ⟨x2, rfl, rfl, rfl, w2⟩ := open_int Try.underlying3 (hval 2 3 v2 rfl rfl) h2
  obtain ⟨x3, rfl, rfl, rfl, w3⟩ := open_int Try.underlying36 (hval 3 36 v3 rfl rfl) h3
  obtain ⟨x4, rfl, rfl, rfl, w4⟩ := open_int Try.underlying5 (hval 4 5 v4 rfl rfl) h4
  clear hA0 hval0 hZ0
  refine (walk x0 a1 n1 c1 y1 x2 x3 x4 W m1 z1 (bounds_u32 w3).1 (by have := (bounds_u32 w3).2; omega) (bounds_u8 w4).1 (by have := (bounds_u8 w4).2; omega)).mono fun e W' ⟨he, ho⟩ => ?_
  subst he
  have bel : Below W.heap.size W W' := ho.below (Nat.le_refl _) (by simp)
  exact ⟨_, rfl, _, _, _, [], _, [], hW', trodAll_mk1 (shut_bool Try.underlying4 _), (trodAll_cons_mk (shut_int Try.underlying3 w0) (trodAll_cons_mk (Below.trod laidOut (by kernel_rfl) (of_decide_eq_true (by kernel_rfl)) k1 bel lt1) (trodAll_cons_mk (shut_int Try.underlying3 w2) (trodAll_cons_mk (shut_int Try.underlying36 w3) (trodAll_cons_mk (shut_int Try.underlying5 w4) trodAll_mk0))))), rfl, bel.frame _, fun h => by cases h⟩
theorem over : Rows.walkRightsRow.holds Try.pinned (OpenSpec.ofChange Rows.walkRightsSpec) :=
  OpenClaim.holds_of_wide 5 Try.f5 rfl rfl rfl rfl rfl rfl rfl ⟨rfl, rfl, rfl, rfl, rfl⟩ rfl rfl rfl rfl rfl (by kernel_rfl) Try.func5 (by kernel_rfl)
    (of_decide_eq_true (by kernel_rfl)) (by unfold Func.isWrapper; first | (rw [if_pos (by decide +kernel)]; kernel_rfl) | (rw [if_neg (by decide +kernel)]; exact ⟨rfl, rfl⟩))
    (fun os started H enc _ => lifted os started H enc)
end walkRights
/-- The statement. -/
theorem walkRights_holds : Rows.WalkRightsSaid := walkRights.over
#print axioms walkRights_holds
end Go.Proofs.Ytpfeibhafchfkaa
