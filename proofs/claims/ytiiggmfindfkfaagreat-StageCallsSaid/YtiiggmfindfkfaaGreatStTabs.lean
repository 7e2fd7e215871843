/-
  What stage's tables, Tables, Log, Root and Vmid answer. Conditions: that a space lies there that tells its pages, or is gone.
-/
import Derived.Test.YtiiggmfindfkfaaGreatStCall
import Derived.Test.YtiiggmfindfkfaaGreatFrKit
namespace Go.Proofs.YtiiggmfindfkfaaGreat
open Go.RowKit Nt
namespace St
open Ph En Wk
variable {L : Loc} {v : Value} {x : Pl} {A : Nat → Fst}
/-- The tables of the first indexes below k. -/
def tabL (A : Nat → Fst) : Nat → List Nat
  | 0 => []
  | k + 1 => match A k with
    | .tab t _ => tabL A k ++ [t]
    | _ => tabL A k
theorem tabL_len (A : Nat → Fst) : ∀ k, (tabL A k).length = cntN (fun i => isT (A i)) k
  | 0 => rfl
  | k + 1 => by
    rw [cntN_succ, ← tabL_len A k, tabL]
    cases A k <;> simp [isT]
theorem tabL_le (A : Nat → Fst) : ∀ k, (tabL A k).length ≤ k
  | 0 => Nat.le_refl _
  | k + 1 => by
    have := tabL_le A k
    rw [tabL]
    split
    · rw [List.length_append]; simp; omega
    · omega
theorem mem_tabL {A : Nat → Fst} {t : Nat} : ∀ {k : Nat}, t ∈ tabL A k ↔ ∃ i pg, i < k ∧ A i = .tab t pg
  | 0 => by simp [tabL]
  | k + 1 => by
    have ih := mem_tabL (A := A) (t := t) (k := k)
    have step : (∃ i pg, i < k + 1 ∧ A i = .tab t pg) ↔ (∃ i pg, i < k ∧ A i = .tab t pg) ∨ ∃ pg, A k = .tab t pg := by
      constructor
      · rintro ⟨i, pg, hi, h⟩
        by_cases e : i = k
        · subst e; exact Or.inr ⟨pg, h⟩
        · exact Or.inl ⟨i, pg, by omega, h⟩
      · rintro (⟨i, pg, hi, h⟩ | ⟨pg, h⟩)
        · exact ⟨i, pg, by omega, h⟩
        · exact ⟨k, pg, by omega, h⟩
    rw [step, ← ih, tabL]
    cases h : A k with
    | no => simp
    | blk w e F => simp
    | tab s pg =>
      simp only [List.mem_append, List.mem_singleton]
      constructor
      · rintro (h1 | rfl)
        · exact Or.inl h1
        · exact Or.inr ⟨pg, rfl⟩
      · rintro (h1 | ⟨pg', h1⟩)
        · exact Or.inl h1
        · injection h1 with h1 _; exact Or.inr h1.symm
theorem entW_tab {n t : Nat} {pg : Pgs} (h : t < n) (hn : n ≤ 1024) : entOf (Fst.tab t pg).W = ⟨true, false, false, false, t⟩ := entOf_lw _ _ _ (by omega) (by omega)
set_option maxRecDepth 100000 in
theorem tables_any (w : World) (hS : St L w v x) (hR : Rep L.n x A) :
    Calls Tryz.prog 61 #[.pointer (some ⟨L.s, 0, none⟩)] w fun e w' => ∃ u, e = .returned u ∧ Fr.Seen w.heap.size w' u (x.root :: tabL A 64) ∧ Below w.heap.size w w' := by
  have c5 := hS.c5
  rw [hR.live] at c5
  have c4 := hS.c4
  have hf := hR.few
  have HS := Lib.hid hS
  have HR := Lib.hid hR
  clear hS hR
  go_enter Tryz.func61, Tryz.ntmps61
  go_wp2_with fail
  go_loopw [3, 15] (fun r q wr => ∃ k : Nat, q = .int .i64 k ∧ k ≤ 64 ∧ wr.ownsRow w.heap.size 3 1 r (x.root :: tabL A k).length (Fr.ints (x.root :: tabL A k)) ∧ Below w.heap.size w wr) (fun _ q _ => 64 - (intOf q).toNat)
  case atStart => exact ⟨0, rfl, Nat.zero_le _, World.ownsRow_lit w #[.int .i64 (x.root : Int)] 1 (Nat.le_refl _) (by decide) rfl, (Below.refl _ _).alloc (Nat.le_refl _) _⟩
  case round =>
    obtain ⟨k, rfl, hk, hW, hB⟩ := hrel
    have HW := Lib.hid hW
    have HB := Lib.hid hB
    clear hW hB c4 c5
    by_cases hlt : k < 64
    · have hl : (x.root :: tabL A k).length ≤ 1024 := by have := tabL_le A k; simp; omega
      cases hA : A k with
      | no =>
        have HE := Lib.hid (show entOf (A k).W = ⟨false, false, false, false, 0⟩ by rw [hA]; exact entOf_0)
        have HN := Lib.hid (show tabL A (k + 1) = tabL A k by rw [tabL, hA])
        clear hA
        go_wp2_with fail
        refine (first_rep k wr (HS.out.below HB.out) HR.out hlt _ _ _ _ _ HE.out).mono ?_
        rintro e w1 ⟨rfl, b1⟩
        have B1 := Lib.hid ((HB.out.trans (b1.mono HB.out.size)).alloc (Nat.le_trans HB.out.size b1.size) (.cells #[.bool false, .bool false, .bool false, .bool false, .int .i64 0] 62))
        have W1 := Lib.hid (owns_kept (owns_kept HW.out (Only.of b1 []) (by simp)) (Only.alloc [] w1 (.cells #[.bool false, .bool false, .bool false, .bool false, .int .i64 0] 62)) (by simp))
        have Y1 := Lib.hid (Tl.Lay.new w1 62 [.bool false, .bool false, .bool false, .bool false, .int .i64 0])
        clear b1 HW HB HE
        go_wp2_with fail
        generalize w1.heap.size = bx at *
        generalize w1.alloc (.cells #[.bool false, .bool false, .bool false, .bool false, .int .i64 0] 62) = u1 at *
        refine (isTable_any _ _ _ _ _ u1).mono ?_
        rintro e w2 ⟨rfl, b2⟩
        have B2 := Lib.hid (B1.out.trans (b2.mono B1.out.size))
        have W2 := Lib.hid (owns_kept W1.out (Only.of b2 []) (by simp))
        have y4 := (Y1.out.kept (Only.of b2 []) (by simp)).cell 4
        simp only [List.getElem?_cons_zero, List.getElem?_cons_succ] at y4
        clear b2 B1 W1 Y1
        clear y4
        go_wp2_with fail
        go_roundw
        case rel => exact ⟨k + 1, by go_num, by omega, by rw [HN.out]; exact W2.out, B2.out⟩
        case measure => simp [intOf]; omega
      | blk a b F =>
        have hF : F + 64 ≤ L.n := by have := HR.out.ok k hlt; rw [hA] at this; exact this.2
        have HE := Lib.hid (show entOf (A k).W = ⟨true, a, b, true, F⟩ by rw [hA]; exact entOf_lw _ _ _ (by omega) (by omega))
        have HN := Lib.hid (show tabL A (k + 1) = tabL A k by rw [tabL, hA])
        clear hA
        go_wp2_with fail
        refine (first_rep k wr (HS.out.below HB.out) HR.out hlt _ _ _ _ _ HE.out).mono ?_
        rintro e w1 ⟨rfl, b1⟩
        have B1 := Lib.hid ((HB.out.trans (b1.mono HB.out.size)).alloc (Nat.le_trans HB.out.size b1.size) (.cells #[.bool true, .bool a, .bool b, .bool true, .int .i64 F] 62))
        have W1 := Lib.hid (owns_kept (owns_kept HW.out (Only.of b1 []) (by simp)) (Only.alloc [] w1 (.cells #[.bool true, .bool a, .bool b, .bool true, .int .i64 F] 62)) (by simp))
        have Y1 := Lib.hid (Tl.Lay.new w1 62 [.bool true, .bool a, .bool b, .bool true, .int .i64 F])
        clear b1 HW HB HE
        go_wp2_with fail
        generalize w1.heap.size = bx at *
        generalize w1.alloc (.cells #[.bool true, .bool a, .bool b, .bool true, .int .i64 F] 62) = u1 at *
        refine (isTable_any _ _ _ _ _ u1).mono ?_
        rintro e w2 ⟨rfl, b2⟩
        have B2 := Lib.hid (B1.out.trans (b2.mono B1.out.size))
        have W2 := Lib.hid (owns_kept W1.out (Only.of b2 []) (by simp))
        have y4 := (Y1.out.kept (Only.of b2 []) (by simp)).cell 4
        simp only [List.getElem?_cons_zero, List.getElem?_cons_succ] at y4
        clear b2 B1 W1 Y1
        clear y4
        go_wp2_with fail
        go_roundw
        case rel => exact ⟨k + 1, by go_num, by omega, by rw [HN.out]; exact W2.out, B2.out⟩
        case measure => simp [intOf]; omega
      | tab t pg =>
        have htn := (HR.out.tabAt hlt hA).1
        have HE := Lib.hid (show entOf (A k).W = ⟨true, false, false, false, t⟩ by rw [hA]; exact entW_tab htn hf)
        have HN := Lib.hid (show tabL A (k + 1) = tabL A k ++ [t] by rw [tabL, hA])
        clear hA
        go_wp2_with fail
        refine (first_rep k wr (HS.out.below HB.out) HR.out hlt _ _ _ _ _ HE.out).mono ?_
        rintro e w1 ⟨rfl, b1⟩
        have B1 := Lib.hid ((HB.out.trans (b1.mono HB.out.size)).alloc (Nat.le_trans HB.out.size b1.size) (.cells #[.bool true, .bool false, .bool false, .bool false, .int .i64 t] 62))
        have W1 := Lib.hid (owns_kept (owns_kept HW.out (Only.of b1 []) (by simp)) (Only.alloc [] w1 (.cells #[.bool true, .bool false, .bool false, .bool false, .int .i64 t] 62)) (by simp))
        have Y1 := Lib.hid (Tl.Lay.new w1 62 [.bool true, .bool false, .bool false, .bool false, .int .i64 t])
        clear b1 HW HB HE
        go_wp2_with fail
        generalize w1.heap.size = bx at *
        generalize w1.alloc (.cells #[.bool true, .bool false, .bool false, .bool false, .int .i64 t] 62) = u1 at *
        refine (isTable_any _ _ _ _ _ u1).mono ?_
        rintro e w2 ⟨rfl, b2⟩
        have B2 := Lib.hid (B1.out.trans (b2.mono B1.out.size))
        have W2 := Lib.hid (owns_kept W1.out (Only.of b2 []) (by simp))
        have y4 := (Y1.out.kept (Only.of b2 []) (by simp)).cell 4
        simp only [List.getElem?_cons_zero, List.getElem?_cons_succ] at y4
        clear b2 B1 W1 Y1
        have hz := B2.out.size
        go_wp2_with (at_builtin; refine Fr.step_int rfl (.tmp 23) (.tmp 26) rfl w.heap.size _ (x.root :: tabL A k) t w2 W2.out hz hl rfl rfl ?_; intro v' w3 hown hb; have OW := Lib.hid hown; have BW := Lib.hid hb; clear hown hb)
        clear y4
        go_roundw
        case rel => exact ⟨k + 1, by go_num, by omega, by rw [HN.out]; exact OW.out, B2.out.trans BW.out⟩
        case measure => simp [intOf]; omega
    · obtain rfl : k = 64 := by omega
      go_wp2_with fail
      go_ret
      exact ⟨_, rfl, Fr.row_seen HW.out, HB.out⟩
theorem tables_gone (w : World) (hS : St L w v x) (hg : x.gone = true) :
    Calls Tryz.prog 61 #[.pointer (some ⟨L.s, 0, none⟩)] w fun e w' => e = .returned (.slice none 0 0) ∧ w = w' := by
  have c5 := hS.c5
  rw [hg] at c5
  clear hS hg
  go_enter Tryz.func61, Tryz.ntmps61
  go_wp2
  go_ret
  exact ⟨rfl, rfl⟩
theorem ntab_any (w : World) (hS : St L w v x) (hR : Rep L.n x A) :
    Calls Tryz.prog 21 #[.pointer (some ⟨L.s, 0, none⟩)] w fun e w' => e = .returned (.int .i64 ((tabs A + 1 : Nat) : Int)) ∧ Below w.heap.size w w' := by
  have HN := Lib.hid (show (x.root :: tabL A 64).length = tabs A + 1 by rw [List.length_cons, tabL_len]; rfl)
  have HT := Lib.hid (tables_any w hS hR)
  clear hS hR
  go_enter Tryz.func21, Tryz.ntmps21
  go_wp2_with fail
  refine HT.out.mono ?_
  rintro e w1 ⟨u, rfl, hs, hb⟩
  obtain ⟨a, cap, rfl⟩ := hs.form
  have HB := Lib.hid hb
  rw [HN.out]
  clear hs hb HT
  go_wp2_with fail
  go_ret
  exact ⟨by push_cast; rfl, HB.out⟩
theorem ntab_gone (w : World) (hS : St L w v x) (hg : x.gone = true) :
    Calls Tryz.prog 21 #[.pointer (some ⟨L.s, 0, none⟩)] w fun e w' => e = .returned (.int .i64 0) ∧ w = w' := by
  go_enter Tryz.func21, Tryz.ntmps21
  go_wp2_with fail
  refine (tables_gone w hS hg).mono ?_
  rintro e w1 ⟨rfl, rfl⟩
  go_wp2_with fail
  go_ret
  exact ⟨rfl, rfl⟩
theorem vmid_any (w : World) (hS : St L w v x) :
    Calls Tryz.prog 28 #[.pointer (some ⟨L.s, 0, none⟩)] w fun e w' => e = .returned (.int .i64 (L.vm : Int)) ∧ w = w' := by
  have c3 := hS.c3
  clear hS
  go_enter Tryz.func28, Tryz.ntmps28
  go_wp2
  go_ret
  exact ⟨rfl, rfl⟩
end St
end Go.Proofs.YtiiggmfindfkfaaGreat
