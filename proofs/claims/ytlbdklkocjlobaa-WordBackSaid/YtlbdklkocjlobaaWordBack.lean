/-
  PROVED HERE: whatever w, v, at, n and m are, warderlaw01.WordBack answers true (what is put into a field is told by it, the others are as they were, bytes come back as words), and each argument reads behind the call as it read before. Conditions: none.
-/
import Derived.Test.YtlbdklkocjlobaaRows
import Derived.Test.YtlbdklkocjlobaaAlive
import Derived.WalkKit
import Derived.ProofKit
import Derived.OpenShut
import Derived.ChangeOld
import Derived.Below
namespace Go.Proofs.Ytlbdklkocjlobaa.wordBack
open Go.ChangeShapes Go.WideShapes Go.ChangeAt Go.RowKit Nt

theorem own : ownKnob Try.prog.godebug = none := by kernel_rfl

/-! ### Plain facts on bits -/
theorem told (w a n v : Nat) : fieldN (putN w a n v) a n = fieldN v 0 n := by
  apply Nat.eq_of_testBit_eq
  intro i
  unfold fieldN
  simp only [Nat.testBit_mod_two_pow, Nat.testBit_div_two_pow, putN_test]
  by_cases h : i < n
  · have h1 : ¬ i + a < a := by omega
    have h2 : i + a < a + n := by omega
    simp [h, h1, h2]
  · simp [h]
theorem back (w a n v : Nat) : putN (putN w a n v) a n (fieldN w a n) = w := by
  apply Nat.eq_of_testBit_eq
  intro i
  rw [putN_test]
  by_cases h1 : i < a
  · rw [if_pos h1, putN_test, if_pos h1]
  · rw [if_neg h1]
    by_cases h2 : i < a + n
    · rw [if_pos h2]
      unfold fieldN
      rw [Nat.testBit_mod_two_pow, Nat.testBit_div_two_pow, Nat.sub_add_cancel (by omega)]
      have h3 : i - a < n := by omega
      simp [h3]
    · rw [if_neg h2, putN_test, if_neg h1, if_neg h2]
theorem signed (v m : Nat) (h1 : 1 ≤ m) (h2 : m ≤ 32) : fieldN (extN v m) 0 m = fieldN v 0 m := by
  apply Nat.eq_of_testBit_eq
  intro i
  unfold fieldN
  simp only [Nat.testBit_mod_two_pow, Nat.testBit_div_two_pow, Nat.add_zero]
  by_cases h : i < m
  · rw [extN_test v m i h1 h2 (by omega), Nat.min_eq_left (by omega)]
  · simp [h]
theorem putI_range (w a n v : Int) (h : Fits a n) (w0 : 0 ≤ w) (w1 : w < 4294967296) : 0 ≤ putI w a n v ∧ putI w a n v < 4294967296 := by
  unfold putI
  rw [if_pos h]
  obtain ⟨g1, g2, g3, g4⟩ := h
  have := putN_lt w.toNat a.toNat n.toNat v.toNat (by omega) (by omega)
  omega
theorem fieldI_range (w a n : Int) : 0 ≤ fieldI w a n ∧ fieldI w a n < 4294967296 := by
  unfold fieldI
  by_cases h : Fits a n
  · rw [if_pos h]
    obtain ⟨g1, g2, g3, g4⟩ := h
    have := fieldN_lt w.toNat a.toNat n.toNat (by omega)
    omega
  · rw [if_neg h]
    decide
theorem told_i (w a n v : Int) (h : Fits a n) : fieldI (putI w a n v) a n = fieldI v 0 n := by
  have h0 : Fits 0 n := by obtain ⟨g1, g2, g3, g4⟩ := h; exact ⟨g1, g2, by omega, by omega⟩
  unfold fieldI putI
  rw [if_pos h, if_pos h, if_pos h0, Int.toNat_natCast, told]
  rfl
theorem back_i (w a n v : Int) (h : Fits a n) (w0 : 0 ≤ w) : putI (putI w a n v) a n (fieldI w a n) = w := by
  unfold fieldI putI
  rw [if_pos h, if_pos h, if_pos h, Int.toNat_natCast, Int.toNat_natCast, back]
  omega
theorem signed_i (v m : Int) (h : Fits 0 m) : fieldI (extI v m) 0 m = fieldI v 0 m := by
  unfold fieldI extI
  rw [if_pos h, if_pos h, if_pos h, Int.toNat_natCast]
  obtain ⟨g1, g2, g3, g4⟩ := h
  rw [show (0 : Int).toNat = 0 from rfl, signed v.toNat m.toNat (by omega) (by omega)]

/-! ### The calls -/
theorem field_told (w a n v : Int) (W : World) (h : Fits a n) (w0 : 0 ≤ w) (w1 : w < 4294967296) :
    Calls Try.prog 10 #[.int .u32 (putI w a n v), .int .i64 a, .int .i64 n] W fun e w' => e = .returned (.int .u32 (fieldI v 0 n)) ∧ ∃ k, w' = W.drewN k := by
  have r := putI_range w a n v h w0 w1
  have c := field_any (putI w a n v) a n W r.1 r.2
  rw [told_i w a n v h] at c
  exact c
theorem put_back (w a n v : Int) (W : World) (h : Fits a n) (w0 : 0 ≤ w) (w1 : w < 4294967296) :
    Calls Try.prog 12 #[.int .u32 (putI w a n v), .int .i64 a, .int .i64 n, .int .u32 (fieldI w a n)] W fun e w' => e = .returned (.int .u32 w) ∧ W = w' := by
  have r := putI_range w a n v h w0 w1
  have c := put_any (putI w a n v) a n (fieldI w a n) W r.1 r.2 (fieldI_range w a n).1
  rw [back_i w a n v h w0] at c
  exact c
theorem field_signed (v m : Int) (W : World) (h : Fits 0 m) :
    Calls Try.prog 10 #[.int .u32 (extI v m), .int .i64 0, .int .i64 m] W fun e w' => e = .returned (.int .u32 (fieldI v 0 m)) ∧ ∃ k, w' = W.drewN k := by
  have r : 0 ≤ extI v m ∧ extI v m < 4294967296 := by
    unfold extI
    rw [if_pos h]
    obtain ⟨g1, g2, g3, g4⟩ := h
    have := extN_lt v.toNat m.toNat (by omega)
    omega
  have c := field_any (extI v m) 0 m W r.1 r.2
  rw [signed_i v m h] at c
  exact c
def three (a b c : Int) : Nat → Int
  | 0 => a
  | 1 => b
  | _ => c
theorem bytes_three (b : Nat) (x y z : Int) (w : World) (hb : b < w.heap.size) (h0 : w.cell? ⟨b, 0, none⟩ = some (.int .u32 x)) (h1 : w.cell? ⟨b, 1, none⟩ = some (.int .u32 y)) (h2 : w.cell? ⟨b, 2, none⟩ = some (.int .u32 z))
    (k0 : 0 ≤ x ∧ x < 4294967296) (k1 : 0 ≤ y ∧ y < 4294967296) (k2 : 0 ≤ z ∧ z < 4294967296) :
    Calls Try.prog 22 #[.slice (some ⟨b, 0, none⟩) 3 3] w fun e w' => e = .returned (.slice (some ⟨w.heap.size, 0, none⟩) 12 12) ∧
      w'.rowIs w.heap.size 5 12 (fun j => .int .u8 (byteOf (three x y z) j)) ∧ Below w.heap.size w w' :=
  bytes_any b 0 3 3 (three x y z) w (by decide)
    (fun j hj => by
      match j, hj with
      | 0, _ => exact k0
      | 1, _ => exact k1
      | 2, _ => exact k2) hb
    (fun j hj => by
      rw [Nat.zero_add]
      match j, hj with
      | 0, _ => exact h0
      | 1, _ => exact h1
      | 2, _ => exact h2)
theorem ret_ok {a b : Int} {c : Bool} (h : a = b) : Ending.returned (.tuple #[.int .u32 a, .bool c]) = .returned (.tuple #[.int .u32 b, .bool c]) := by rw [h]
theorem get_three (b : Nat) (x y z : Int) (w : World) (k : 0 ≤ z ∧ z < 4294967296) (h : w.rowIs b 5 12 (fun j => .int .u8 (byteOf (three x y z) j))) :
    Calls Try.prog 16 #[.slice (some ⟨b, 0, none⟩) 12 12, .int .i64 8] w fun e w' => e = .returned (.tuple #[.int .u32 z, .bool true]) ∧ ∃ k, w' = w.drewN k :=
  (get_yes b 0 12 12 8 (z % 256) (z / 256 % 256) (z / 65536 % 256) (z / 16777216) w (by decide) (by decide) (by decide) ⟨by omega, by omega⟩ ⟨by omega, by omega⟩ ⟨by omega, by omega⟩ ⟨by omega, by omega⟩
    (h.cell (i := 8) (by decide)) (h.cell (i := 9) (by decide)) (h.cell (i := 10) (by decide)) (h.cell (i := 11) (by decide))).mono fun _ _ ⟨he, hb⟩ =>
      ⟨he.trans (ret_ok (by unfold word4; omega)), hb⟩

/-! ### The walk -/
theorem walk_no (a0 a1 a2 a3 a4 : Int) (w : World) (h : ¬ Fits a2 a3)
    (D : (decide (a3 < 1) = true) ∨ (decide (a3 < 1) = false ∧ decide (32 < a3) = true) ∨ (decide (a3 < 1) = false ∧ decide (32 < a3) = false ∧ decide (a2 < 0) = true) ∨ (decide (a3 < 1) = false ∧ decide (32 < a3) = false ∧ decide (a2 < 0) = false ∧ decide (32 - a3 < a2) = true ∧ 1 ≤ a3 ∧ a3 ≤ 32)) :
    Calls Try.prog 6 #[.int .u32 a0, .int .u32 a1, .int .i64 a2, .int .i64 a3, .int .i64 a4] w fun e w' => e = .returned (.bool true) ∧ Below w.heap.size w w' := by
  rcases D with d1 | ⟨d1, d2⟩ | ⟨d1, d2, d3⟩ | ⟨d1, d2, d3, d4, d5, d6⟩
  all_goals
    go_enter Try.func6, Try.ntmps6
    go_wp2_with fail
    refine (alive_any _).mono ?_
    rintro e wa ⟨rfl, ba⟩
    have BA := Lib.hid ba
    clear ba
    go_wp2_with fail
    refine (put_no _ _ _ _ _ h).mono ?_
    rintro e wb ⟨rfl, rfl⟩
    go_wp2
    go_ret
    exact ⟨rfl, BA.out⟩
theorem walk_yes (a0 a1 a2 a3 a4 : Int) (w : World) (p0 : 0 ≤ a0) (p1 : a0 < 4294967296) (q0 : 0 ≤ a1) (q1 : a1 < 4294967296) (h : Fits a2 a3)
    (D : (decide (a4 < 1) = true) ∨ (decide (a4 < 1) = false ∧ decide (32 < a4) = true) ∨ (decide (a4 < 1) = false ∧ decide (32 < a4) = false ∧ Hid (Fits 0 a4))) :
    Calls Try.prog 6 #[.int .u32 a0, .int .u32 a1, .int .i64 a2, .int .i64 a3, .int .i64 a4] w fun e w' => e = .returned (.bool true) ∧ Below w.heap.size w w' := by
  have hx := putI_range a0 a2 a3 a1 h p0 p1
  have HF := Lib.hid h
  obtain ⟨g1, g2, g3, g4⟩ := h
  have d1 : decide (a3 < 1) = false := by simp; omega
  have d2 : decide (32 < a3) = false := by simp; omega
  have d3 : decide (a2 < 0) = false := by simp; omega
  have d4 : decide (32 - a3 < a2) = false := by simp; omega
  rcases D with m1 | ⟨m1, m2⟩ | ⟨m1, m2, HM⟩
  all_goals
    go_enter Try.func6, Try.ntmps6
    go_wp2_with fail
    refine (alive_any _).mono ?_
    rintro e wa ⟨rfl, ba⟩
    have BA := Lib.hid ba
    clear ba
    go_wp2_with fail
    refine (put_any _ _ _ _ _ p0 p1 q0).mono ?_
    rintro e wb ⟨rfl, rfl⟩
    go_wp2_with fail
    refine (bytes_three _ _ _ _ _ (by simp) (by simp) (by simp) (by simp) ⟨p0, p1⟩ ⟨q0, q1⟩ hx).mono ?_
    rintro e wb ⟨rfl, rb, bb⟩
    have BB := Lib.hid ((BA.out.alloc BA.out.size _).trans (bb.mono (by have := BA.out.size; simp; omega)))
    have zb : (wa.alloc (.cells #[.int .u32 a0, .int .u32 a1, .int .u32 (putI a0 a2 a3 a1)] 22)).heap.size = wa.heap.size + 1 := by simp
    rw [zb] at rb
    have RB := Lib.hid rb
    clear bb rb BA zb
    go_wp2_with fail
    refine (get_three _ _ _ _ _ hx RB.out).mono ?_
    rintro e wc ⟨rfl, kc, rfl⟩
    clear RB
    go_wp2_with fail
    refine (field_told _ _ _ _ _ HF.out p0 p1).mono ?_
    rintro e wc ⟨rfl, kd, rfl⟩
    go_wp2_with fail
    refine (field_any _ _ _ _ q0 q1).mono ?_
    rintro e wc ⟨rfl, ke, rfl⟩
    go_wp2_with fail
    refine (field_any _ _ _ _ p0 p1).mono ?_
    rintro e wc ⟨rfl, kf, rfl⟩
    go_wp2_with fail
    refine (put_back _ _ _ _ _ HF.out p0 p1).mono ?_
    rintro e wc ⟨rfl, rfl⟩
  · go_wp2
    go_ret
    exact ⟨rfl, below_drewN BB.out _⟩
  · go_wp2
    go_ret
    exact ⟨rfl, below_drewN BB.out _⟩
  · go_wp2_with fail
    refine (ext_any _ _ _ q0).mono ?_
    rintro e wc ⟨rfl, rfl⟩
    go_wp2_with fail
    refine (field_signed _ _ _ HM.out).mono ?_
    rintro e wc ⟨rfl, kg, rfl⟩
    go_wp2_with fail
    refine (field_any _ _ _ _ q0 q1).mono ?_
    rintro e wc ⟨rfl, kh, rfl⟩
    go_wp2
    go_ret
    exact ⟨rfl, below_drewN BB.out _⟩
theorem walk (a0 a1 a2 a3 a4 : Int) (w0 : (Lit.int .u32 a0).wf = true) (w1 : (Lit.int .u32 a1).wf = true) (w : World) :
    Calls Try.prog 6 #[.int .u32 a0, .int .u32 a1, .int .i64 a2, .int .i64 a3, .int .i64 a4] w fun e w' => e = .returned (.bool true) ∧ Below w.heap.size w w' := by
  obtain ⟨p0, p1⟩ := bounds_u32 w0
  obtain ⟨q0, q1⟩ := bounds_u32 w1
  by_cases h : Fits a2 a3
  · refine walk_yes a0 a1 a2 a3 a4 w p0 (by omega) q0 (by omega) h ?_
    simp only [decide_eq_true_eq, decide_eq_false_iff_not]
    by_cases m1 : a4 < 1
    · exact Or.inl m1
    · by_cases m2 : 32 < a4
      · exact Or.inr (Or.inl ⟨m1, m2⟩)
      · exact Or.inr (Or.inr ⟨m1, m2, Lib.hid ⟨by omega, by omega, by omega, by omega⟩⟩)
  · refine walk_no a0 a1 a2 a3 a4 w h ?_
    unfold Fits at h
    simp only [decide_eq_true_eq, decide_eq_false_iff_not]
    omega

set_option maxRecDepth 100000 in
theorem lifted (os : Os) (started : os.Started) (H : Type) (enc : TypeId × Value → H) :
    ReturnsInHanded {} Try.checked os 6 .any (Rows.wordBackSpec.pre6 enc Try.prog Try.f6 Rows.wordBackRow.domain false) (Rows.wordBackSpec.post enc Try.prog Try.f6 false true false false) := by
  refine returnsInHanded_of_change (C := Try.checked) own started (by kernel_rfl) Try.func6
    (ChangeSpec.witness6 (enc := enc) (C := Try.checked) false ⟨#[], #[.int .u32 0, .int .u32 0, .int .i64 0, .int .i64 0, .int .i64 0], []⟩ 8 (by kernel_rfl) (by kernel_rfl) (by kernel_rfl) (by kernel_rfl)) ?_
  intro W base args ds gs before hval0 hW hcnd _
  have hval : ∀ (j : Nat) t v, Try.f6.params[j]? = some t → args[j]? = some v → Value.okWide Try.prog W .any base t v := hval0
  have hW' := hW
  obtain ⟨p, q, hA0, hV, rfl, hfz, hnd⟩ := hW
  have hA : DataW.TrodAll enc Try.prog W 0 (fun _ => true) true Try.f6.params.toList args.toList ds p := hA0
  rw [Try.params6] at hA hval
  obtain ⟨v0, vs0, d0, ds0, p0, q0, hargs, rfl, rfl, h0, r0⟩ := trodAll_cons hA
  obtain ⟨v1, vs1, d1, ds1, p1, q1, rfl, rfl, rfl, h1, r1⟩ := trodAll_cons r0
  obtain ⟨v2, vs2, d2, ds2, p2, q2, rfl, rfl, rfl, h2, r2⟩ := trodAll_cons r1
  obtain ⟨v3, vs3, d3, ds3, p3, q3, rfl, rfl, rfl, h3, r3⟩ := trodAll_cons r2
  obtain ⟨v4, vs4, d4, ds4, p4, q4, rfl, rfl, rfl, h4, r4⟩ := trodAll_cons r3
  obtain ⟨rfl, rfl, rfl⟩ := trodAll_nil r4
  obtain rfl : args = #[v0, v1, v2, v3, v4] := by cases args; simp_all
  obtain ⟨rfl, rfl⟩ := trodVars_none hV
  obtain ⟨a0, rfl, rfl, rfl, w0⟩ := open_int Try.underlying22 (hval 0 22 v0 rfl rfl) h0
  obtain ⟨a1, rfl, rfl, rfl, w1⟩ := open_int Try.underlying22 (hval 1 22 v1 rfl rfl) h1
  obtain ⟨a2, rfl, rfl, rfl, w2⟩ := open_int Try.underlying3 (hval 2 3 v2 rfl rfl) h2
  obtain ⟨a3, rfl, rfl, rfl, w3⟩ := open_int Try.underlying3 (hval 3 3 v3 rfl rfl) h3
  obtain ⟨a4, rfl, rfl, rfl, w4⟩ := open_int Try.underlying3 (hval 4 3 v4 rfl rfl) h4
  clear hA0 hval0
  simp only [List.append_nil] at hW'
  refine (walk a0 a1 a2 a3 a4 w0 w1 W).mono fun e W' ⟨he, bel⟩ => ?_
  subst he
  exact ⟨_, rfl, _, _, _, [], [], [], hW', trodAll_mk1 (shut_bool Try.underlying4 _), (trodAll_cons_mk (shut_int Try.underlying22 w0) (trodAll_cons_mk (shut_int Try.underlying22 w1) (trodAll_cons_mk (shut_int Try.underlying3 w2) (trodAll_cons_mk (shut_int Try.underlying3 w3) (trodAll_cons_mk (shut_int Try.underlying3 w4) trodAll_mk0))))), rfl, bel.frame _, fun h => by cases h⟩

theorem over : Rows.wordBackRow.holds Try.pinned (OpenSpec.ofChange Rows.wordBackSpec) :=
  OpenClaim.holds_of_wide 6 Try.f6 rfl rfl rfl rfl rfl rfl rfl ⟨rfl, rfl, rfl, rfl, rfl⟩ rfl rfl rfl rfl rfl (by kernel_rfl) Try.func6 (by kernel_rfl)
    (of_decide_eq_true (by kernel_rfl)) (by unfold Func.isWrapper; first | (rw [if_pos (by decide +kernel)]; kernel_rfl) | (rw [if_neg (by decide +kernel)]; exact ⟨rfl, rfl⟩))
    (fun os started H enc _ => lifted os started H enc)
end Go.Proofs.Ytlbdklkocjlobaa.wordBack
namespace Go.Proofs.Ytlbdklkocjlobaa
/-- The statement. -/
theorem wordBack_holds : Rows.WordBackSaid := wordBack.over
#print axioms wordBack_holds
end Go.Proofs.Ytlbdklkocjlobaa
