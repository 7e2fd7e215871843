/-
  What stage's whole does. Conditions: that a space lies there that tells its pages, and that each argument is of its Go type.
-/
import Derived.Test.YtiiggmfindfkfaaGreatStUp
namespace Go.Proofs.YtiiggmfindfkfaaGreat
open Go.RowKit Nt
namespace St
open Ph En Wk
variable {L : Loc} {v : Value} {x : Pl} {A : Nat → Fst}
theorem at_wd (t k : Nat) (Aa : Int) (V W X B : Bool) (f : Int) (w : World) (hS : St L w v x) (hAa : Aa = 256 * (t : Int) + 4 * k) (ht : t < L.n) (hk : k < 64) (hE : entOf (wd L.n x.z t k) = ⟨V, W, X, B, f⟩) :
    Calls Tryz.prog 97 #[.pointer (some ⟨L.s, 0, none⟩), .int .u32 Aa] w fun e w' => e = .returned (.agg #[.bool V, .bool W, .bool X, .bool B, .int .i64 f]) ∧ Below w.heap.size w w' := by
  have hf := hS.mem.few
  rw [hAa, show 256 * (t : Int) + 4 * k = ((256 * t + 4 * k : Nat) : Int) by omega]
  exact at_any _ V W X B f w hS (by omega) hE
set_option maxRecDepth 100000 in
set_option maxHeartbeats 1000000 in
theorem whole_yes (i t : Nat) (pg : Pgs) (bw be : Bool) (F : Nat) (w : World) (hS : St L w v x) (hR : Rep L.n x A) (hi : i < 64) (hA : A i = .tab t pg) (hF : F % 64 = 0) (hp : ∀ j, j < 64 → pg j = some (bw, be, F + j)) :
    Calls Tryz.prog 72 #[.pointer (some ⟨L.s, 0, none⟩), .int .i64 t] w fun e w' => e = .returned (.agg #[.bool true, .bool bw, .bool be, .bool true, .int .i64 F]) ∧ Below w.heap.size w w' := by
  obtain ⟨htn, hto, _, hw⟩ := hR.tabAt hi hA
  have hf := hR.few
  have hFn : F + 63 < L.n := (hw 63 (by omega)).2 _ _ _ (hp 63 (by omega))
  have HW := Lib.hid (show ∀ j, j < 64 → entOf (wd L.n x.z t j) = ⟨true, bw, be, false, ((F + j : Nat) : Int)⟩ from fun j hj => by rw [(hw j hj).1, hp j hj]; exact entOf_lw _ _ _ (by omega) (by omega))
  have hFi : ((F : Int) % 64 == 0) = true := by simp; omega
  have S0 := Lib.hid (hS.alloc (.cells #[.bool false, .bool false, .bool false, .bool false, .int .i64 0] 62))
  have B0 := Lib.hid ((Below.refl w.heap.size w).alloc (Nat.le_refl _) (.cells #[.bool false, .bool false, .bool false, .bool false, .int .i64 0] 62))
  have Y0 := Lib.hid (Tl.Lay.new w 62 [.bool false, .bool false, .bool false, .bool false, .int .i64 0])
  clear hS hR hA hw hp hF hto
  go_enter Tryz.func72, Tryz.ntmps72
  go_wp2_with (go_at_call 59; refine (slot_any t 0 _ (by omega) (by omega)).mono ?_; rintro e w' ⟨rfl, rfl⟩)
  generalize w.alloc (.cells #[.bool false, .bool false, .bool false, .bool false, .int .i64 0] 62) = u at *
  refine (at_wd t 0 _ true bw be false _ u S0.out (by simp) htn (by omega) (HW.out 0 (by omega))).mono ?_
  rintro e w1 ⟨rfl, b1⟩
  rw [Nat.add_zero]
  go_wp2_with (go_at_call 56; refine (need_yes _ _).mono ?_; rintro e w' ⟨rfl, rfl⟩)
  have S1 := Lib.hid ((S0.out.below b1).alloc (.cells #[.bool true, .bool bw, .bool be, .bool true, .int .i64 F] 62))
  have B1 := Lib.hid ((B0.out.trans (b1.mono B0.out.size)).alloc (Nat.le_trans B0.out.size b1.size) (.cells #[.bool true, .bool bw, .bool be, .bool true, .int .i64 F] 62))
  have X1 := Lib.hid (Tl.Lay.new w1 62 [.bool true, .bool bw, .bool be, .bool true, .int .i64 F])
  have Y1 := Lib.hid ((Y0.out.kept (Only.of b1 []) (by simp)).alloc (.cells #[.bool true, .bool bw, .bool be, .bool true, .int .i64 F] 62))
  obtain ⟨bx, hbx⟩ : ∃ bx, bx = w1.heap.size := ⟨_, rfl⟩
  rw [← hbx] at X1 ⊢
  clear S0 B0 Y0 b1 hbx hFi
  go_loopw [18] (fun c wr => ∃ k : Nat, c = .int .i64 k ∧ k ≤ 64 ∧ St L wr v x ∧ Below w.heap.size w wr ∧ Tl.Lay wr bx 62 [.bool true, .bool bw, .bool be, .bool true, .int .i64 F] ∧ Tl.Lay wr w.heap.size 62 [.bool false, .bool false, .bool false, .bool false, .int .i64 0]) (fun c _ => 64 - (intOf c).toNat)
  case atStart => exact ⟨0, rfl, Nat.zero_le _, S1.out, B1.out, X1.out, Y1.out⟩
  case round =>
    obtain ⟨k, rfl, hk, hS, hB, hX, hY⟩ := hrel
    have S2 := Lib.hid hS
    have B2 := Lib.hid hB
    have X2 := Lib.hid hX
    have Y2 := Lib.hid hY
    clear S1 B1 X1 Y1 hS hB hX hY
    by_cases hlt : k < 64
    · go_wp2_with (go_at_call 59; refine (slot_any t k _ (by omega) hlt).mono ?_; rintro e w' ⟨rfl, rfl⟩)
      refine (at_wd t k _ true bw be false _ wr S2.out (by push_cast; rfl) htn hlt (HW.out k hlt)).mono ?_
      rintro e w2 ⟨rfl, b2⟩
      have S3 := Lib.hid (S2.out.below b2)
      have B3 := Lib.hid (B2.out.trans (b2.mono B2.out.size))
      have X3 := Lib.hid (X2.out.kept (Only.of b2 []) (by simp))
      have Y3 := Lib.hid (Y2.out.kept (Only.of b2 []) (by simp))
      have x0 := X3.out.cell 0
      have x1 := X3.out.cell 1
      have x2 := X3.out.cell 2
      have x3 := X3.out.cell 3
      have x4 := X3.out.cell 4
      have xl := X3.out.lt
      simp only [List.getElem?_cons_zero, List.getElem?_cons_succ] at x0 x1 x2 x3 x4
      have hsub : ((F + k : Nat) : Int) - (k : Int) = F := by omega
      have qe := fun wq => eqEnt true bw be true true bw be true F F wq
      simp only [beq_self_eq_true, Bool.and_self] at qe
      clear S2 B2 X2 Y2 b2
      go_wp2_with (go_at_call 56; refine (need_yes _ _).mono ?_; rintro e w' ⟨rfl, rfl⟩)
      clear x0 x1 x2 x3 x4 xl qe
      go_roundw
      case rel => exact ⟨k + 1, by go_num, by omega, S3.out.alloc _, B3.out.alloc B3.out.size _, X3.out.alloc _, Y3.out.alloc _⟩
      case measure => simp [intOf]; omega
    · have x0 := X2.out.cell 0
      have x1 := X2.out.cell 1
      have x2 := X2.out.cell 2
      have x3 := X2.out.cell 3
      have x4 := X2.out.cell 4
      have y0 := Y2.out.cell 0
      have y1 := Y2.out.cell 1
      have y2 := Y2.out.cell 2
      have y3 := Y2.out.cell 3
      have y4 := Y2.out.cell 4
      have yf := Y2.out.free
      have g0 := yf 0
      have g1 := yf 1
      have g2 := yf 2
      have g3 := yf 3
      have g4 := yf 4
      have yl := Y2.out.lt
      simp only [List.getElem?_cons_zero, List.getElem?_cons_succ] at x0 x1 x2 x3 x4 y0 y1 y2 y3 y4
      clear yf S2 X2 Y2
      go_wp2
      refine bodyPost_ret (v := .agg #[.bool true, .bool bw, .bool be, .bool true, .int .i64 F]) (by simp [results, Tryz.results72, go_sem, *]) rfl ⟨rfl, ?_⟩
      exact below5 B2.out (Nat.le_refl _) _ _ _ _ _
def runP (pg : Pgs) (w e : Bool) (F : Nat) : Bool := (List.range 64).all (fun j => decide (pg j = some (w, e, F + j)))
theorem runP_yes {pg : Pgs} {w e : Bool} {F : Nat} : runP pg w e F = true ↔ ∀ j, j < 64 → pg j = some (w, e, F + j) := by
  unfold runP
  rw [List.all_eq_true]
  constructor
  · intro h j hj
    simpa using h j (List.mem_range.2 hj)
  · intro h j hj
    simpa using h j (List.mem_range.1 hj)
theorem runP_no {pg : Pgs} {w e : Bool} {F : Nat} (h : runP pg w e F = false) : ∃ j, j < 64 ∧ pg j ≠ some (w, e, F + j) := by
  unfold runP at h
  rw [List.all_eq_false] at h
  obtain ⟨j, hj, hn⟩ := h
  exact ⟨j, List.mem_range.1 hj, by simpa using hn⟩
/-- The block that a table tells, if it tells one. -/
def mrg (pg : Pgs) : Option (Bool × Bool × Nat) := match pg 0 with
  | none => none
  | some (w, e, F) => if F % 64 = 0 ∧ runP pg w e F = true then some (w, e, F) else none
theorem mrg_some {pg : Pgs} {w e : Bool} {F : Nat} (h : mrg pg = some (w, e, F)) : F % 64 = 0 ∧ ∀ j, j < 64 → pg j = some (w, e, F + j) := by
  unfold mrg at h
  split at h
  · cases h
  · split at h
    · rename_i hc
      injection h with h
      injection h with h1 h
      injection h with h2 h3
      subst h1 h2 h3
      exact ⟨hc.1, runP_yes.1 hc.2⟩
    · cases h
theorem mrg_none {pg : Pgs} (h : mrg pg = none) : pg 0 = none ∨ ∃ w e F, pg 0 = some (w, e, F) ∧ (F % 64 ≠ 0 ∨ (F % 64 = 0 ∧ ∃ j, j < 64 ∧ pg j ≠ some (w, e, F + j))) := by
  unfold mrg at h
  split at h
  · exact Or.inl (by assumption)
  · rename_i w e F h0
    split at h
    · cases h
    · rename_i hc
      refine Or.inr ⟨w, e, F, h0, ?_⟩
      by_cases hF : F % 64 = 0
      · refine Or.inr ⟨hF, runP_no (by cases hr : runP pg w e F with | false => rfl | true => exact absurd ⟨hF, hr⟩ hc)⟩
      · exact Or.inl hF
set_option maxRecDepth 100000 in
theorem whole_a (i t : Nat) (pg : Pgs) (w : World) (hS : St L w v x) (hR : Rep L.n x A) (hi : i < 64) (hA : A i = .tab t pg) (hp : pg 0 = none) :
    Calls Tryz.prog 72 #[.pointer (some ⟨L.s, 0, none⟩), .int .i64 t] w fun e w' => e = panE 20 ∧ Below w.heap.size w w' := by
  obtain ⟨htn, hto, _, hw⟩ := hR.tabAt hi hA
  have hf := hR.few
  have HW := Lib.hid (show entOf (wd L.n x.z t 0) = ⟨false, false, false, false, 0⟩ by rw [(hw 0 (by omega)).1, hp]; exact entOf_0)
  have S0 := Lib.hid (hS.alloc (.cells #[.bool false, .bool false, .bool false, .bool false, .int .i64 0] 62))
  have B0 := Lib.hid ((Below.refl w.heap.size w).alloc (Nat.le_refl _) (.cells #[.bool false, .bool false, .bool false, .bool false, .int .i64 0] 62))
  clear hS hR hA hw hp hto
  go_enter Tryz.func72, Tryz.ntmps72
  go_wp2_with (go_at_call 59; refine (slot_any t 0 _ (by omega) (by omega)).mono ?_; rintro e w' ⟨rfl, rfl⟩)
  generalize w.alloc (.cells #[.bool false, .bool false, .bool false, .bool false, .int .i64 0] 62) = u at *
  refine (at_wd t 0 _ false false false false _ u S0.out (by simp) htn (by omega) HW.out).mono ?_
  rintro e w1 ⟨rfl, b1⟩
  go_wp2_with (go_at_call 56; refine (need_yes _ _).mono ?_; rintro e w' ⟨rfl, rfl⟩)
  have S1 := Lib.hid ((S0.out.below b1).alloc (.cells #[.bool false, .bool false, .bool false, .bool true, .int .i64 0] 62))
  have B1 := Lib.hid ((B0.out.trans (b1.mono B0.out.size)).alloc (Nat.le_trans B0.out.size b1.size) (.cells #[.bool false, .bool false, .bool false, .bool true, .int .i64 0] 62))
  clear S0 B0 b1
  generalize w1.alloc (.cells #[.bool false, .bool false, .bool false, .bool true, .int .i64 0] 62) = u1 at *
  go_loopw [18] (fun c wr => c = .int .i64 0 ∧ wr = u1) (fun c _ => 64 - (intOf c).toNat)
  case atStart => exact ⟨rfl, rfl⟩
  case round =>
    obtain ⟨rfl, rfl⟩ := hrel
    go_wp2_with (go_at_call 59; refine (slot_any t 0 _ (by omega) (by omega)).mono ?_; rintro e w' ⟨rfl, rfl⟩)
    refine (at_wd t 0 _ false false false false _ wr S1.out (by simp) htn (by omega) HW.out).mono ?_
    rintro e w2 ⟨rfl, b2⟩
    have B2 := Lib.hid (B1.out.trans (b2.mono B1.out.size))
    clear S1 B1 b2
    go_wp2_with (go_at_call 56; refine (need_no _ _).mono ?_; rintro e w' ⟨rfl, rfl⟩; unfold panE)
    exact ⟨rfl, rfl, B2.out.alloc B2.out.size _⟩
set_option maxRecDepth 100000 in
theorem whole_b (i t : Nat) (pg : Pgs) (bw be : Bool) (F : Nat) (w : World) (hS : St L w v x) (hR : Rep L.n x A) (hi : i < 64) (hA : A i = .tab t pg) (hp : pg 0 = some (bw, be, F)) (hF : F % 64 ≠ 0) :
    Calls Tryz.prog 72 #[.pointer (some ⟨L.s, 0, none⟩), .int .i64 t] w fun e w' => e = panE 20 ∧ Below w.heap.size w w' := by
  obtain ⟨htn, hto, _, hw⟩ := hR.tabAt hi hA
  have hf := hR.few
  have hFn : F < L.n := (hw 0 (by omega)).2 _ _ _ hp
  have HW := Lib.hid (show entOf (wd L.n x.z t 0) = ⟨true, bw, be, false, F⟩ by rw [(hw 0 (by omega)).1, hp]; exact entOf_lw _ _ _ (by omega) (by omega))
  have hFi : ((F : Int) % 64 == 0) = false := by simp; omega
  have S0 := Lib.hid (hS.alloc (.cells #[.bool false, .bool false, .bool false, .bool false, .int .i64 0] 62))
  have B0 := Lib.hid ((Below.refl w.heap.size w).alloc (Nat.le_refl _) (.cells #[.bool false, .bool false, .bool false, .bool false, .int .i64 0] 62))
  clear hS hR hA hw hp hto hF
  go_enter Tryz.func72, Tryz.ntmps72
  go_wp2_with (go_at_call 59; refine (slot_any t 0 _ (by omega) (by omega)).mono ?_; rintro e w' ⟨rfl, rfl⟩)
  generalize w.alloc (.cells #[.bool false, .bool false, .bool false, .bool false, .int .i64 0] 62) = u at *
  refine (at_wd t 0 _ true bw be false _ u S0.out (by simp) htn (by omega) HW.out).mono ?_
  rintro e w1 ⟨rfl, b1⟩
  have B1 := Lib.hid (B0.out.trans (b1.mono B0.out.size))
  clear S0 B0 b1
  go_wp2_with (go_at_call 56; refine (need_no _ _).mono ?_; rintro e w' ⟨rfl, rfl⟩; unfold panE)
  exact ⟨rfl, rfl, B1.out.alloc B1.out.size _⟩
set_option maxRecDepth 100000 in
set_option maxHeartbeats 1000000 in
theorem whole_c (i t : Nat) (pg : Pgs) (bw be : Bool) (F j0 : Nat) (w : World) (hS : St L w v x) (hR : Rep L.n x A) (hi : i < 64) (hA : A i = .tab t pg) (h0 : pg 0 = some (bw, be, F)) (hF : F % 64 = 0) (hj : j0 < 64) (hp : pg j0 ≠ some (bw, be, F + j0)) :
    Calls Tryz.prog 72 #[.pointer (some ⟨L.s, 0, none⟩), .int .i64 t] w fun e w' => e = panE 20 ∧ Below w.heap.size w w' := by
  obtain ⟨htn, hto, _, hw⟩ := hR.tabAt hi hA
  have hf := hR.few
  have hFn : F < L.n := (hw 0 (by omega)).2 _ _ _ h0
  have H0 := Lib.hid (show entOf (wd L.n x.z t 0) = ⟨true, bw, be, false, F⟩ by rw [(hw 0 (by omega)).1, h0]; exact entOf_lw _ _ _ (by omega) (by omega))
  have HW := Lib.hid (show ∀ j, j < 64 → wd L.n x.z t j = pgW (pg j) ∧ PgOK L.n (pg j) from hw)
  have HP := Lib.hid hp
  have hFi : ((F : Int) % 64 == 0) = true := by simp; omega
  have S0 := Lib.hid (hS.alloc (.cells #[.bool false, .bool false, .bool false, .bool false, .int .i64 0] 62))
  have B0 := Lib.hid ((Below.refl w.heap.size w).alloc (Nat.le_refl _) (.cells #[.bool false, .bool false, .bool false, .bool false, .int .i64 0] 62))
  have Y0 := Lib.hid (Tl.Lay.new w 62 [.bool false, .bool false, .bool false, .bool false, .int .i64 0])
  clear hS hR hA hw hp hF hto h0
  go_enter Tryz.func72, Tryz.ntmps72
  go_wp2_with (go_at_call 59; refine (slot_any t 0 _ (by omega) (by omega)).mono ?_; rintro e w' ⟨rfl, rfl⟩)
  generalize w.alloc (.cells #[.bool false, .bool false, .bool false, .bool false, .int .i64 0] 62) = u at *
  refine (at_wd t 0 _ true bw be false _ u S0.out (by simp) htn (by omega) H0.out).mono ?_
  rintro e w1 ⟨rfl, b1⟩
  go_wp2_with (go_at_call 56; refine (need_yes _ _).mono ?_; rintro e w' ⟨rfl, rfl⟩)
  have S1 := Lib.hid ((S0.out.below b1).alloc (.cells #[.bool true, .bool bw, .bool be, .bool true, .int .i64 F] 62))
  have B1 := Lib.hid ((B0.out.trans (b1.mono B0.out.size)).alloc (Nat.le_trans B0.out.size b1.size) (.cells #[.bool true, .bool bw, .bool be, .bool true, .int .i64 F] 62))
  have X1 := Lib.hid (Tl.Lay.new w1 62 [.bool true, .bool bw, .bool be, .bool true, .int .i64 F])
  have Y1 := Lib.hid ((Y0.out.kept (Only.of b1 []) (by simp)).alloc (.cells #[.bool true, .bool bw, .bool be, .bool true, .int .i64 F] 62))
  obtain ⟨bx, hbx⟩ : ∃ bx, bx = w1.heap.size := ⟨_, rfl⟩
  rw [← hbx] at X1 ⊢
  clear S0 B0 Y0 b1 hbx hFi
  go_loopw [18] (fun c wr => ∃ k : Nat, c = .int .i64 k ∧ k ≤ j0 ∧ St L wr v x ∧ Below w.heap.size w wr ∧ Tl.Lay wr bx 62 [.bool true, .bool bw, .bool be, .bool true, .int .i64 F] ∧ Tl.Lay wr w.heap.size 62 [.bool false, .bool false, .bool false, .bool false, .int .i64 0]) (fun c _ => 64 - (intOf c).toNat)
  case atStart => exact ⟨0, rfl, Nat.zero_le _, S1.out, B1.out, X1.out, Y1.out⟩
  case round =>
    obtain ⟨k, rfl, hk, hS, hB, hX, hY⟩ := hrel
    have S2 := Lib.hid hS
    have B2 := Lib.hid hB
    have X2 := Lib.hid hX
    have Y2 := Lib.hid hY
    clear S1 B1 X1 Y1 hS hB hX hY
    have hlt : k < 64 := by omega
    have x0 := X2.out.cell 0
    have x1 := X2.out.cell 1
    have x2 := X2.out.cell 2
    have x3 := X2.out.cell 3
    have x4 := X2.out.cell 4
    have xl := X2.out.lt
    simp only [List.getElem?_cons_zero, List.getElem?_cons_succ] at x0 x1 x2 x3 x4
    cases hk2 : pg k with
    | none =>
      have HE := Lib.hid (show entOf (wd L.n x.z t k) = ⟨false, false, false, false, 0⟩ by rw [(HW.out k hlt).1, hk2]; exact entOf_0)
      clear x0 x1 x2 x3 x4 xl
      go_wp2_with (go_at_call 59; refine (slot_any t k _ (by omega) hlt).mono ?_; rintro e w' ⟨rfl, rfl⟩)
      refine (at_wd t k _ false false false false _ wr S2.out (by push_cast; rfl) htn hlt HE.out).mono ?_
      rintro e w2 ⟨rfl, b2⟩
      have B3 := Lib.hid (B2.out.trans (b2.mono B2.out.size))
      clear S2 B2 X2 Y2 b2
      go_wp2_with (go_at_call 56; refine (need_no _ _).mono ?_; rintro e w' ⟨rfl, rfl⟩; unfold panE)
      exact ⟨rfl, rfl, B3.out.alloc B3.out.size _⟩
    | some q =>
      obtain ⟨cw, ce, G⟩ := q
      have hG : G < L.n := (HW.out k hlt).2 _ _ _ hk2
      have HE := Lib.hid (show entOf (wd L.n x.z t k) = ⟨true, cw, ce, false, G⟩ by rw [(HW.out k hlt).1, hk2]; exact entOf_lw _ _ _ (by omega) (by omega))
      by_cases heq : cw = bw ∧ ce = be ∧ G = F + k
      · obtain ⟨rfl, rfl, rfl⟩ := heq
        have hne : k ≠ j0 := by
          rintro rfl
          exact HP.out hk2
        clear x0 x1 x2 x3 x4 xl
        go_wp2_with (go_at_call 59; refine (slot_any t k _ (by omega) hlt).mono ?_; rintro e w' ⟨rfl, rfl⟩)
        refine (at_wd t k _ true cw ce false _ wr S2.out (by push_cast; rfl) htn hlt HE.out).mono ?_
        rintro e w2 ⟨rfl, b2⟩
        have S3 := Lib.hid (S2.out.below b2)
        have B3 := Lib.hid (B2.out.trans (b2.mono B2.out.size))
        have X3 := Lib.hid (X2.out.kept (Only.of b2 []) (by simp))
        have Y3 := Lib.hid (Y2.out.kept (Only.of b2 []) (by simp))
        have x0 := X3.out.cell 0
        have x1 := X3.out.cell 1
        have x2 := X3.out.cell 2
        have x3 := X3.out.cell 3
        have x4 := X3.out.cell 4
        have xl := X3.out.lt
        simp only [List.getElem?_cons_zero, List.getElem?_cons_succ] at x0 x1 x2 x3 x4
        have hsub : ((F + k : Nat) : Int) - (k : Int) = F := by omega
        have qe := fun wq => eqEnt true cw ce true true cw ce true F F wq
        simp only [beq_self_eq_true, Bool.and_self] at qe
        clear S2 B2 X2 Y2 b2
        go_wp2_with (go_at_call 56; refine (need_yes _ _).mono ?_; rintro e w' ⟨rfl, rfl⟩)
        clear x0 x1 x2 x3 x4 xl qe
        go_roundw
        case rel => exact ⟨k + 1, by go_num, by omega, S3.out.alloc _, B3.out.alloc B3.out.size _, X3.out.alloc _, Y3.out.alloc _⟩
        case measure => simp [intOf]; omega
      · have HN := Lib.hid heq
        clear x0 x1 x2 x3 x4 xl heq
        go_wp2_with (go_at_call 59; refine (slot_any t k _ (by omega) hlt).mono ?_; rintro e w' ⟨rfl, rfl⟩)
        refine (at_wd t k _ true cw ce false _ wr S2.out (by push_cast; rfl) htn hlt HE.out).mono ?_
        rintro e w2 ⟨rfl, b2⟩
        have B3 := Lib.hid (B2.out.trans (b2.mono B2.out.size))
        have X3 := Lib.hid (X2.out.kept (Only.of b2 []) (by simp))
        have x0 := X3.out.cell 0
        have x1 := X3.out.cell 1
        have x2 := X3.out.cell 2
        have x3 := X3.out.cell 3
        have x4 := X3.out.cell 4
        have xl := X3.out.lt
        simp only [List.getElem?_cons_zero, List.getElem?_cons_succ] at x0 x1 x2 x3 x4
        have ww : IntKind.i64.wrap ((G : Int) - k) = (G : Int) - k := by rw [IntKind.wrap_i64]; omega
        have qe : ∀ wq : World, (Op.equalIn 10000 62 (.agg #[.bool true, .bool cw, .bool ce, .bool true, .int .i64 ((G : Int) - k)]) (.agg #[.bool true, .bool bw, .bool be, .bool true, .int .i64 F])).run Tryz.prog wq = .ok false wq := fun wq => by
          rw [eqEnt true cw ce true true bw be true _ _ wq]
          congr 1
          have := HN.out
          cases cw <;> cases bw <;> cases ce <;> cases be <;> simp at this ⊢ <;> omega
        clear S2 B2 X2 Y2 b2
        go_wp2_with (go_at_call 56; refine (need_no _ _).mono ?_; rintro e w' ⟨rfl, rfl⟩; unfold panE)
        exact ⟨rfl, rfl, B3.out.alloc B3.out.size _⟩
theorem whole_no (i t : Nat) (pg : Pgs) (w : World) (hS : St L w v x) (hR : Rep L.n x A) (hi : i < 64) (hA : A i = .tab t pg) (hn : mrg pg = none) :
    Calls Tryz.prog 72 #[.pointer (some ⟨L.s, 0, none⟩), .int .i64 t] w fun e w' => e = panE 20 ∧ Below w.heap.size w w' := by
  rcases mrg_none hn with h | ⟨bw, be, F, h, hF | ⟨hF, j0, hj, hp⟩⟩
  · exact whole_a i t pg w hS hR hi hA h
  · exact whole_b i t pg bw be F w hS hR hi hA h hF
  · exact whole_c i t pg bw be F j0 w hS hR hi hA h hF hj hp
end St
end Go.Proofs.YtiiggmfindfkfaaGreat
