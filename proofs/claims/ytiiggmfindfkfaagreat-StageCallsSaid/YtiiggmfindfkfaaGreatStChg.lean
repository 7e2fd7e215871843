/-
  What stage's change and take do. Conditions: that a space lies there, and that each argument is of its Go type.
-/
import Derived.Test.YtiiggmfindfkfaaGreatStOps
import Derived.Test.YtiiggmfindfkfaaGreatStRep
namespace Go.Proofs.YtiiggmfindfkfaaGreat
open Go.RowKit Nt
namespace St
open Ph En Wk
theorem fieldV (V W X B : Bool) (f : Int) (w : World) : (Instr.field 62 (.agg #[.bool V, .bool W, .bool X, .bool B, .int .i64 f]) 0).run Tryz.prog w = .ok (.bool V) w := by kernel_rfl
theorem fieldB (V W X B : Bool) (f : Int) (w : World) : (Instr.field 62 (.agg #[.bool V, .bool W, .bool X, .bool B, .int .i64 f]) 3).run Tryz.prog w = .ok (.bool B) w := by kernel_rfl
theorem fieldF (V W X B : Bool) (f : Int) (w : World) : (Instr.field 62 (.agg #[.bool V, .bool W, .bool X, .bool B, .int .i64 f]) 4).run Tryz.prog w = .ok (.int .i64 f) w := by kernel_rfl
variable {L : Loc} {v : Value} {x : Pl}
set_option maxRecDepth 100000 in
set_option maxHeartbeats 1000000 in
theorem change_any (a : Nat) (V W X B : Bool) (f y : Int) (w : World) (hS : St L w v x) (ha : hwA L.n a = true) (hl : x.log.length ≤ 900) (hy : encN V W X B f = y) :
    Calls Tryz.prog 58 #[.pointer (some ⟨L.s, 0, none⟩), .int .u32 a, .agg #[.bool V, .bool W, .bool X, .bool B, .int .i64 f]] w (Fin L v w (.tuple #[]) (x.chg L.n L.vm a y)) := by
  have a4 : a < 4294967296 := by have := hS.mem.few; unfold hwA at ha; simp at ha; omega
  have hw32 : W32 y := by
    rw [← hy]
    unfold encN
    split
    · exact w32_lw _ _ _ _ _
    · exact w32_0
  have HQ := Lib.hid (show W32 (rdw L.n x.z a) from rdw_lt (fun j hj => hS.mem.row.b8 j hj) a)
  have HA := Lib.hid ha
  have HY := Lib.hid hy
  have HW := Lib.hid hw32
  have S1 := Lib.hid (hS.alloc (.cells #[.bool V, .bool W, .bool X, .bool B, .int .i64 f] 62))
  have H0 := Lib.hid (five_new w V W X B f 62)
  have O1 := Lib.hid (Only.alloc L.S w (.cells #[.bool V, .bool W, .bool X, .bool B, .int .i64 f] 62))
  have c0 := S1.out.c0
  have fv := fieldV
  clear hS ha hy hw32
  go_enter Tryz.func58, Tryz.ntmps58
  go_wp2_with fail
  generalize w.alloc (.cells #[.bool V, .bool W, .bool X, .bool B, .int .i64 f] 62) = u at *
  refine (word_any L.m L.F L.n L.c a x.z u S1.out.mem a4).mono ?_
  rintro e w1 ⟨rfl, k1, rfl⟩
  have bd := drewB (Below.refl u.heap.size u) k1
  have S2 := Lib.hid (S1.out.below bd)
  have O2 := Lib.hid (O1.out.trans (Only.of bd L.S))
  have H2 := Lib.hid (H0.out.kept' bd)
  clear S1 O1 H0 bd c0
  generalize u.drewN k1 = u1 at *
  obtain ⟨q, hq⟩ : ∃ q, q = rdw L.n x.z a := ⟨_, rfl⟩
  have EQ := Lib.hid hq
  rw [← hq] at HQ ⊢
  clear hq
  obtain ⟨x0, x1, x2, x3, x4⟩ := H2.out
  go_wp2_with fail
  refine (encode_any V W X B f u1).mono ?_
  rintro e w2 ⟨rfl, b2⟩
  rw [HY.out]
  have S3 := Lib.hid (S2.out.below b2)
  have O3 := Lib.hid (O2.out.trans (Only.of b2 L.S))
  clear S2 O2 H2 b2 x0 x1 x2 x3 x4
  by_cases h1 : q = y
  · have E1 := Lib.hid (show x.chg L.n L.vm a y = x by unfold Pl.chg; rw [← EQ.out, if_pos h1])
    subst h1
    go_wp2_with fail
    go_end0
    rw [E1.out]
    exact ⟨rfl, v, S3.out, Hop.of O3.out v⟩
  · have E1 := Lib.hid (show x.chg L.n L.vm a y = (if dV q = true then (if y = 0 then (x.put L.n a 0).drop L.vm else ((x.put L.n a 0).drop L.vm).put L.n a y) else if y = 0 then x else x.put L.n a y) by unfold Pl.chg; rw [← EQ.out, if_neg h1])
    have d1 : (q == y) = false := by simpa using h1
    go_wp2_with fail
    refine (decode_any q w2 HQ.out.1 HQ.out.2).mono ?_
    rintro e w3 ⟨rfl, b3⟩
    have S4 := Lib.hid (S3.out.below b3)
    have P4 := Lib.hid (Hop.of (O3.out.trans (Only.of b3 L.S)) v)
    clear S3 O3 b3 d1
    cases hv : dV q
    · have E2 := Lib.hid (show x.chg L.n L.vm a y = if y = 0 then x else x.put L.n a y by rw [E1.out, if_neg (by rw [hv]; simp)])
      clear E1 hv
      by_cases h3 : y = 0
      · have E3 := Lib.hid (show x.chg L.n L.vm a y = x by rw [E2.out, if_pos h3])
        subst h3
        go_wp2_with fail
        go_end0
        rw [E3.out]
        exact ⟨rfl, v, S4.out, P4.out⟩
      · have E3 := Lib.hid (show x.chg L.n L.vm a y = x.put L.n a y by rw [E2.out, if_neg h3])
        have d3 : (y != 0) = true := by simpa using h3
        go_wp2_with fail
        refine (put_any a y w3 S4.out HA.out HW.out (by omega)).mono ?_
        rintro e w4 ⟨rfl, v4, S5, P5⟩
        have F5 := Lib.hid (And.intro S5 (P4.out.trans P5))
        clear S5 P5 S4 P4
        go_wp2_with fail
        go_end0
        rw [E3.out]
        exact ⟨rfl, v4, F5.out.1, F5.out.2⟩
    · have E2 := Lib.hid (show x.chg L.n L.vm a y = if y = 0 then (x.put L.n a 0).drop L.vm else ((x.put L.n a 0).drop L.vm).put L.n a y by rw [E1.out, if_pos hv])
      clear E1 hv
      go_wp2_with fail
      refine (put_any a 0 w3 S4.out HA.out w32_0 (by omega)).mono ?_
      rintro e w4 ⟨rfl, v4, S5, P5⟩
      have F5 := Lib.hid (And.intro S5 (P4.out.trans P5))
      have l5 : (x.put L.n a 0).log.length ≤ 901 := by show (x.log ++ [Deed.put a 0]).length ≤ 901; simp; omega
      clear S5 P5 S4 P4
      go_wp2_with fail
      refine (drop_any w4 F5.out.1 (by omega)).mono ?_
      rintro e w5 ⟨rfl, v5, S6, P6⟩
      have F6 := Lib.hid (And.intro S6 (F5.out.2.trans P6))
      have l6 : ((x.put L.n a 0).drop L.vm).log.length ≤ 902 := by show ((x.put L.n a 0).log ++ [Deed.drop]).length ≤ 902; simp; omega
      clear S6 P6 F5
      by_cases h3 : y = 0
      · have E3 := Lib.hid (show x.chg L.n L.vm a y = (x.put L.n a 0).drop L.vm by rw [E2.out, if_pos h3])
        subst h3
        go_wp2_with fail
        go_end0
        rw [E3.out]
        exact ⟨rfl, v5, F6.out.1, F6.out.2⟩
      · have E3 := Lib.hid (show x.chg L.n L.vm a y = ((x.put L.n a 0).drop L.vm).put L.n a y by rw [E2.out, if_neg h3])
        have d3 : (y != 0) = true := by simpa using h3
        go_wp2_with fail
        refine (put_any a y w5 F6.out.1 HA.out HW.out (by omega)).mono ?_
        rintro e w6 ⟨rfl, v6, S7, P7⟩
        have F7 := Lib.hid (And.intro S7 (F6.out.2.trans P7))
        clear S7 P7 F6
        go_wp2_with fail
        go_end0
        rw [E3.out]
        exact ⟨rfl, v6, F7.out.1, F7.out.2⟩
/-- No frame is nobody's. -/
theorem take_no (w : World) (hS : St L w v x) (hp : Fr.spot 1 x.os = none) :
    Calls Tryz.prog 60 #[.pointer (some ⟨L.s, 0, none⟩)] w fun e w' => e = panE 15 ∧ St L w' v x ∧ Only L.S w w' := by
  have c1 := hS.c1
  have HS := Lib.hid hS
  have e1 : Fr.takeP 1 1 x.os = (-1, 15, x.os) := by unfold Fr.takeP; rw [if_pos (by decide), hp]
  have HE := Lib.hid e1
  clear hS e1
  go_enter Tryz.func60, Tryz.ntmps60
  go_wp2_with fail
  refine (Fr.take_any L.t L.tF 1 x.os w HS.out.tab).mono ?_
  rintro e w1 ⟨rfl, hT, hO⟩
  rw [HE.out] at hT ⊢
  have S1 := Lib.hid (HS.out.withTab hT hO)
  have O1 := Lib.hid (hO.mono (S' := L.S) (by simp [Loc.S]))
  clear hT hO HS HE c1
  go_wp2_with (first | (go_at_call 56; refine (need_no _ _).mono ?_; rintro e w' ⟨rfl, rfl⟩; unfold panE))
  exact ⟨rfl, rfl, S1.out, O1.out⟩
theorem rd_nil (w : World) (y : Nat → Int) : Rd w none 0 y := ⟨fun h => absurd h (Nat.lt_irrefl 0), fun j h => absurd h (Nat.not_lt_zero j)⟩
theorem set_1 (os : List Nat) (k : Nat) : Fr.setR os (1 * k) 1 ((1 : Int).toNat) = os.set k 1 := by
  show os.set (1 * k + 0) 1 = os.set k 1
  rw [Nat.one_mul, Nat.add_zero]
theorem take_yes (t : Nat) (w : World) (hS : St L w v x) (hp : Fr.spot 1 x.os = some t) (ht : t < L.n) :
    Calls Tryz.prog 60 #[.pointer (some ⟨L.s, 0, none⟩)] w fun e w' => e = .returned (.int .i64 t) ∧ St L w' v (x.took t) ∧ Only L.S w w' := by
  have c1 := hS.c1
  have HS := Lib.hid hS
  have e1 : Fr.takeP 1 1 x.os = ((t : Int), 0, x.os.set t 1) := by unfold Fr.takeP; rw [if_pos (by decide), hp]; simp only; rw [set_1, Nat.one_mul]
  have HE := Lib.hid e1
  clear hS e1
  go_enter Tryz.func60, Tryz.ntmps60
  go_wp2_with fail
  refine (Fr.take_any L.t L.tF 1 x.os w HS.out.tab).mono ?_
  rintro e w1 ⟨rfl, hT, hO⟩
  rw [HE.out] at hT ⊢
  have S1 := Lib.hid (HS.out.withTab hT hO)
  have O1 := Lib.hid (hO.mono (S' := L.S) (by simp [Loc.S]))
  have k0 := S1.out.c0
  clear hT hO HS HE c1
  go_wp2_with (first | (go_at_call 56; refine (need_yes _ _).mono ?_; rintro e w' ⟨rfl, rfl⟩))
  refine (fill_yes L.m L.F L.n L.c t x.z (fun _ => 0) none 0 0 w1 S1.out.mem ht (by omega) (rd_nil _ _)).mono ?_
  rintro e w2 ⟨rfl, hM, hO⟩
  have S2 := Lib.hid (S1.out.withMem hM hO)
  have O2 := Lib.hid (O1.out.trans (hO.mono (S' := L.S) (by simp [Loc.S])))
  clear hM hO S1 O1 k0
  go_wp2_with fail
  go_ret
  exact ⟨rfl, S2.out, O2.out⟩
end St
end Go.Proofs.YtiiggmfindfkfaaGreat
