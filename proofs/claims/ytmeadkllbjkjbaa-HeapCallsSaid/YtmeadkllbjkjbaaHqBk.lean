/-
  The program's heap as it lies in a world: how many, the items at their places, where each number stands; what lay, place, below do. Conditions: none.
-/
import Derived.Test.YtmeadkllbjkjbaaHqOrder
import Derived.BigQuiet
namespace Go.Proofs.Ytmeadkllbjkjbaa
open Go.RowKit
namespace Hq
open Ph (Only)
open Hp (lt lt_irr lt_asym le_trans lt_total)

structure Bk (w : World) (p n : Nat) (a : Nat → ItT) (q : Nat → Nat) : Prop where
  lt : p < w.heap.size
  cn : w.cell? ⟨p, 0, none⟩ = some (.int .i64 (n : Nat))
  ci : ∀ i, i < 65 → w.cell? ⟨p, 1 + i * 2, none⟩ = some (.int .i64 ((a i).1 : Nat))
  ck : ∀ i, i < 65 → w.cell? ⟨p, 1 + i * 2 + 1, none⟩ = some (.int .u64 ((a i).2 : Nat))
  cp : ∀ d, d < 64 → w.cell? ⟨p, 131 + d, none⟩ = some (.int .i64 (q d : Nat))
  fz : ∀ j, w.frozen? ⟨p, j, none⟩ = false
section
variable {w w' : World} {p n : Nat} {a : Nat → ItT} {q : Nat → Nat} {S : List Nat}
theorem Bk.kept (h : Bk w p n a q) (ho : Only S w w') (hp : p ∉ S) : Bk w' p n a q :=
  ⟨Nat.lt_of_lt_of_le h.lt ho.size, (ho.cell h.lt hp _).trans h.cn, fun i hi => (ho.cell h.lt hp _).trans (h.ci i hi), fun i hi => (ho.cell h.lt hp _).trans (h.ck i hi), fun d hd => (ho.cell h.lt hp _).trans (h.cp d hd), fun j => (ho.frozen h.lt hp j).trans (h.fz j)⟩
theorem Bk.quiet (h : Bk w p n a q) (ho : Only [] w w') : Bk w' p n a q := h.kept ho (by simp)
theorem cell_put (w : World) (b i j : Nat) (v : Value) (h : (w.cell? ⟨b, i, none⟩).isSome = true) : (w.setCell ⟨b, i, none⟩ v).cell? ⟨b, j, none⟩ = if j = i then some v else w.cell? ⟨b, j, none⟩ := by
  by_cases e : j = i
  · subst e
    rw [if_pos rfl, World.cell?_setCell_same' _ _ _ h]
  · rw [if_neg e, World.cell?_setCell_other _ _ _ _ (fun x => e (by injection x with _ x; exact x.symm))]
theorem cell_put_ne {w : World} {b i j : Nat} {v : Value} (h : j ≠ i) : (w.setCell ⟨b, i, none⟩ v).cell? ⟨b, j, none⟩ = w.cell? ⟨b, j, none⟩ :=
  World.cell?_setCell_other _ _ _ _ (fun x => h (by injection x with _ x; exact x.symm))
/-- An item is put. -/
def setI (w : World) (p k : Nat) (x : ItT) : World := (w.setCell ⟨p, 1 + k * 2, none⟩ (.int .i64 (x.1 : Nat))).setCell ⟨p, 1 + k * 2 + 1, none⟩ (.int .u64 (x.2 : Nat))
theorem Bk.setI (h : Bk w p n a q) {k : Nat} (hk : k < 65) (x : ItT) : Bk (setI w p k x) p n (updF a k x) q := by
  have s0 : (w.cell? ⟨p, 1 + k * 2, none⟩).isSome = true := by rw [h.ci k hk]; rfl
  have s1 : ((w.setCell ⟨p, 1 + k * 2, none⟩ (.int .i64 (x.1 : Nat))).cell? ⟨p, 1 + k * 2 + 1, none⟩).isSome = true := by rw [cell_put_ne (by omega), h.ck k hk]; rfl
  unfold Hq.setI
  refine ⟨by rw [World.size_setCell, World.size_setCell]; exact h.lt, ?_, fun i hi => ?_, fun i hi => ?_, fun d hd => ?_, fun j => ?_⟩
  · rw [cell_put_ne (by omega), cell_put_ne (by omega)]; exact h.cn
  · rw [cell_put_ne (by omega), cell_put w p _ _ _ s0]
    by_cases e : i = k
    · subst e; rw [if_pos rfl, updF_at]
    · rw [if_neg (by omega), updF_ne _ _ e]; exact h.ci i hi
  · rw [cell_put _ p _ _ _ s1]
    by_cases e : i = k
    · subst e; rw [if_pos rfl, updF_at]
    · rw [if_neg (by omega), updF_ne _ _ e, cell_put_ne (by omega)]; exact h.ck i hi
  · rw [cell_put_ne (by omega), cell_put_ne (by omega)]; exact h.cp d hd
  · rw [World.frozen?_setCell, World.frozen?_setCell]; exact h.fz j
theorem only_setI (w : World) (p k : Nat) (x : ItT) : Only [p] w (Hq.setI w p k x) := (Only.setCell w (by simp) _ _).trans (Only.setCell _ (by simp) _ _)
/-- A place is put. -/
theorem Bk.setP (h : Bk w p n a q) {d : Nat} (hd : d < 64) (k : Nat) : Bk (w.setCell ⟨p, 131 + d, none⟩ (.int .i64 (k : Nat))) p n a (updF q d k) := by
  have s0 : (w.cell? ⟨p, 131 + d, none⟩).isSome = true := by rw [h.cp d hd]; rfl
  refine ⟨by rw [World.size_setCell]; exact h.lt, ?_, fun i hi => ?_, fun i hi => ?_, fun i hi => ?_, fun j => ?_⟩
  · rw [cell_put_ne (by omega)]; exact h.cn
  · rw [cell_put_ne (by omega)]; exact h.ci i hi
  · rw [cell_put_ne (by omega)]; exact h.ck i hi
  · rw [cell_put w p _ _ _ s0]
    by_cases e : i = d
    · subst e; rw [if_pos rfl, updF_at]
    · rw [if_neg (by omega), updF_ne _ _ e]; exact h.cp i hi
  · rw [World.frozen?_setCell]; exact h.fz j
/-- How many is put. -/
theorem Bk.setN (h : Bk w p n a q) (m : Nat) : Bk (w.setCell ⟨p, 0, none⟩ (.int .i64 (m : Nat))) p m a q := by
  have s0 : (w.cell? ⟨p, 0, none⟩).isSome = true := by rw [h.cn]; rfl
  refine ⟨by rw [World.size_setCell]; exact h.lt, by rw [cell_put w p _ _ _ s0, if_pos rfl], fun i hi => ?_, fun i hi => ?_, fun i hi => ?_, fun j => ?_⟩
  · rw [cell_put_ne (by omega)]; exact h.ci i hi
  · rw [cell_put_ne (by omega)]; exact h.ck i hi
  · rw [cell_put_ne (by omega)]; exact h.cp i hi
  · rw [World.frozen?_setCell]; exact h.fz j
end
set_option maxRecDepth 100000 in
theorem lay_any (w : World) (p n k : Nat) (a : Nat → ItT) (q : Nat → Nat) (x : ItT) (h : Bk w p n a q) (hk : k < 65) (hx : x.1 < 64) :
    Calls Try.prog 30 #[.pointer (some ⟨p, 0, none⟩), .int .i64 (k : Nat), iV x] w fun e w' => e = .returned (.tuple #[]) ∧ Bk w' p n (updF a k x) (updF q x.1 k) ∧ Only [p] w w' := by
  have hB := Lay.new w 53 [.int .i64 (x.1 : Nat), .int .u64 (x.2 : Nat)]
  have h1 := h.quiet (Only.alloc [] w (.cells #[.int .i64 (x.1 : Nat), .int .u64 (x.2 : Nat)] 53))
  have hpl := h.lt
  have HO := Lib.hid (Only.alloc [] w (.cells #[.int .i64 (x.1 : Nat), .int .u64 (x.2 : Nat)] 53))
  go_enter Try.func30, Try.ntmps30
  go_wp2_with fail
  change Lay (w.alloc (.cells #[.int .i64 (x.1 : Nat), .int .u64 (x.2 : Nat)] 53)) _ _ _ at hB
  generalize (w.alloc (.cells #[.int .i64 (x.1 : Nat), .int .u64 (x.2 : Nat)] 53)) = w1 at *
  have b0 := hB.cell 0
  have b1 := hB.cell 1
  simp only [List.getElem?_cons_zero, List.getElem?_cons_succ] at b0 b1
  have i0 := h1.ci k hk
  have i1 := h1.ck k hk
  have f0 := h1.fz (1 + k * 2)
  have f1 := h1.fz (1 + k * 2 + 1)
  have H2 := Lib.hid ((h1.setI hk x).quiet (Only.drewN [] _ 1))
  have O2 := Lib.hid ((HO.out.mono (S' := [p]) (by simp)).trans ((only_setI w1 p k x).trans (Only.drewN [p] _ 1)))
  have hwl : w.heap.size ≠ p := by omega
  have hk2 : ¬ (65 ≤ (k : Int)) := by omega
  have b0' := (Only.cell ((only_setI w1 p k x).trans (Only.drewN [p] _ 1)) hB.lt (by simpa using hwl) 0).trans b0
  clear h h1
  go_region
  clear b0 b1 i0 i1 f0 f1
  change Hid (Bk ((w1.setCell ⟨p, 1 + k * 2, none⟩ (.int .i64 (x.1 : Nat))).setCell ⟨p, 1 + k * 2 + 1, none⟩ (.int .u64 (x.2 : Nat))).drew p n (updF a k x) q) at H2
  change Hid (Only [p] w ((w1.setCell ⟨p, 1 + k * 2, none⟩ (.int .i64 (x.1 : Nat))).setCell ⟨p, 1 + k * 2 + 1, none⟩ (.int .u64 (x.2 : Nat))).drew) at O2
  change ((w1.setCell ⟨p, 1 + k * 2, none⟩ (.int .i64 (x.1 : Nat))).setCell ⟨p, 1 + k * 2 + 1, none⟩ (.int .u64 (x.2 : Nat))).drew.cell? _ = _ at b0'
  clear hB
  generalize ((w1.setCell ⟨p, 1 + k * 2, none⟩ (.int .i64 (x.1 : Nat))).setCell ⟨p, 1 + k * 2 + 1, none⟩ (.int .u64 (x.2 : Nat))).drew = w2 at *
  have c0 := H2.out.cp x.1 hx
  have f0 := H2.out.fz (131 + x.1)
  have hx2 : ¬ (64 ≤ (x.1 : Int)) := by omega
  have H3 := Lib.hid ((H2.out.setP hx k).quiet (Only.drewN [] _ 1))
  have O3 := Lib.hid (O2.out.trans ((Only.setCell w2 (S := [p]) (b := p) (by simp) (131 + x.1) (.int .i64 (k : Nat))).trans (Only.drewN [p] _ 1)))
  go_wp2_with fail
  go_region
  go_end0
  exact ⟨rfl, H3.out, O3.out⟩
theorem isNumber_any (d : Int) (w : World) : Calls Try.prog 22 #[.int .i64 d] w fun e w' => e = .returned (.bool (decide (0 ≤ d) && decide (d < 64))) ∧ w = w' := by
  by_cases h : 0 ≤ d
  · have d1 : decide (0 ≤ d) = true := decide_eq_true h
    rw [d1, Bool.true_and]
    go_enter Try.func22, Try.ntmps22
    go_wp2
    go_ret
    exact ⟨rfl, rfl⟩
  · have d1 : decide (0 ≤ d) = false := decide_eq_false h
    rw [d1, Bool.false_and]
    go_enter Try.func22, Try.ntmps22
    go_wp2
    go_ret
    exact ⟨rfl, rfl⟩
theorem isNumber_yes (d : Nat) (w : World) (h : d < 64) : Calls Try.prog 22 #[.int .i64 (d : Nat)] w fun e w' => e = .returned (.bool true) ∧ w = w' := by
  have := isNumber_any (d : Nat) w
  rwa [decide_eq_true (show (0 : Int) ≤ (d : Nat) by omega), decide_eq_true (show ((d : Nat) : Int) < 64 by omega)] at this
theorem isNumber_no (d : Int) (w : World) (h : d < 0 ∨ 63 < d) : Calls Try.prog 22 #[.int .i64 d] w fun e w' => e = .returned (.bool false) ∧ w = w' := by
  have := isNumber_any d w
  have e : (decide (0 ≤ d) && decide (d < 64)) = false := by
    rcases h with h | h
    · rw [decide_eq_false (show ¬ (0 ≤ d) by omega)]; rfl
    · rw [decide_eq_false (show ¬ (d < 64) by omega), Bool.and_false]
  rwa [e] at this
theorem place_yes (w : World) (p n d : Nat) (a : Nat → ItT) (q : Nat → Nat) (h : Bk w p n a q) (hd : d < 64) :
    Calls Try.prog 23 #[.pointer (some ⟨p, 0, none⟩), .int .i64 (d : Nat)] w fun e w' => e = .returned (.int .i64 (q d : Nat)) ∧ w = w' := by
  have c0 := h.cp d hd
  clear h
  go_enter Try.func23, Try.ntmps23
  go_wp2_with (go_at_call 22; refine (isNumber_yes d _ hd).mono ?_; rintro e w' ⟨rfl, rfl⟩)
  go_ret
  exact ⟨rfl, rfl⟩
theorem place_no (w : World) (p : Value) (d : Int) (hd : d < 0 ∨ 63 < d) :
    Calls Try.prog 23 #[p, .int .i64 d] w fun e w' => e = .returned (.int .i64 0) ∧ w = w' := by
  have H := fun W => Lib.hid (isNumber_no d W hd)
  clear hd
  go_enter Try.func23, Try.ntmps23
  go_wp2_with (go_at_call 22; refine (H _).out.mono ?_; rintro e w' ⟨rfl, rfl⟩)
  go_ret
  exact ⟨rfl, rfl⟩
set_option maxRecDepth 100000 in
theorem below_any (w : World) (p n k : Nat) (a : Nat → ItT) (q : Nat → Nat) (h : Bk w p n a q) (hk : k ≤ 64) (hn : n ≤ 64) :
    Calls Try.prog 31 #[.pointer (some ⟨p, 0, none⟩), .int .i64 (k : Nat)] w fun e w' => e = .returned (.int .i64 (bel a n k : Nat)) ∧ Only [] w w' := by
  obtain ⟨l, hl⟩ : ∃ l, l = 2 * k := ⟨_, rfl⟩
  have e1 : 2 * (k : Int) = ((l : Nat) : Int) := by omega
  have e2 : ((l : Nat) : Int) + 1 = ((l + 1 : Nat) : Int) := by omega
  have hll : l ≤ 128 := by omega
  have HC0 := fun W => ahead_any (a (l + 1)) (a l) W
  have H0 := Lib.hid h
  have c0 := h.cn
  have hb : bel a n k = if n < l then 0 else if l + 1 ≤ n ∧ lt (a (l + 1)) (a l) then l + 1 else l := by unfold bel; rw [← hl]
  have HB := Lib.hid hb
  clear h hb hl
  obtain ⟨r, hr⟩ : ∃ r, r = l + 1 := ⟨_, rfl⟩
  rw [← hr] at e2 HC0 HB
  have HC1 := Lib.hid HC0
  clear HC0 hr
  by_cases h1 : n < l
  · have he : bel a n k = 0 := by rw [HB.out, if_pos h1]
    rw [he]
    have h1' : (n : Int) < (l : Int) := by omega
    clear h1
    go_enter Try.func31, Try.ntmps31
    go_wp2_with fail
    go_ret
    exact ⟨rfl, Only.refl _ _⟩
  · have h1' : ¬ ((n : Int) < (l : Int)) := by omega
    by_cases h2 : r ≤ n
    · have hd : decide (r ≤ n) = true := decide_eq_true h2
      have H1 := H0.out.quiet (Only.drewN [] w 1)
      have O1 := Lib.hid (Only.drewN [] w 1)
      have c1 := H1.cn
      have i0 := H1.ci r (by omega)
      have i1 := H1.ck r (by omega)
      have j0 := H1.ci l (by omega)
      have j1 := H1.ck l (by omega)
      have hr2 : ¬ (65 ≤ (r : Int)) := by omega
      have hl2 : ¬ (65 ≤ (l : Int)) := by omega
      have hx : bel a n k = if lt (a r) (a l) then r else l := by
        rw [HB.out, if_neg h1]
        by_cases e : lt (a r) (a l)
        · rw [if_pos e, if_pos ⟨h2, e⟩]
        · rw [if_neg e, if_neg (fun x => e x.2)]
      by_cases e : lt (a r) (a l)
      · rw [if_pos e] at hx
        rw [hx]
        have HC := HC1.out
        simp only [decide_eq_true e] at HC
        have HC' := Lib.hid HC
        clear e HC HC1 HB hx h1 h2 H0 H1
        go_enter Try.func31, Try.ntmps31
        go_wp2_with fail
        refine wp_region_still_tail 19 (by kernel_rfl) (by kernel_rfl) ?_
        rw [show ({ w with drawn := w.drawn + 1 } : World) = w.drewN 1 from rfl]
        clear c0
        generalize w.drewN 1 = w1 at *
        simp only [List.take_succ_cons, List.take_zero, List.drop_succ_cons, List.drop_zero]
        repeat still_step
        refine wpStill_nil ?_
        go_wp2_with (go_at_call 29; refine (HC'.out _).mono ?_; rintro e w' ⟨rfl, ho⟩; have HO := Lib.hid ho; clear ho)
        go_ret
        exact ⟨rfl, O1.out.trans HO.out⟩
      · rw [if_neg e] at hx
        rw [hx]
        have HC := HC1.out
        simp only [decide_eq_false e] at HC
        have HC' := Lib.hid HC
        clear e HC HC1 HB hx h1 h2 H0 H1
        go_enter Try.func31, Try.ntmps31
        go_wp2_with fail
        refine wp_region_still_tail 19 (by kernel_rfl) (by kernel_rfl) ?_
        rw [show ({ w with drawn := w.drawn + 1 } : World) = w.drewN 1 from rfl]
        clear c0
        generalize w.drewN 1 = w1 at *
        simp only [List.take_succ_cons, List.take_zero, List.drop_succ_cons, List.drop_zero]
        repeat still_step
        refine wpStill_nil ?_
        go_wp2_with (go_at_call 29; refine (HC'.out _).mono ?_; rintro e w' ⟨rfl, ho⟩; have HO := Lib.hid ho; clear ho)
        go_ret
        exact ⟨rfl, O1.out.trans HO.out⟩
    · have hd : decide (r ≤ n) = false := decide_eq_false h2
      have hx : bel a n k = l := by rw [HB.out, if_neg h1, if_neg (fun x => h2 x.1)]
      rw [hx]
      have c1 := (H0.out.quiet (Only.drewN [] w 1)).cn
      clear h1 h2 HB HC1 hx
      go_enter Try.func31, Try.ntmps31
      go_wp2_with fail
      go_quiet (fail)
      go_wp2_with fail
      go_ret
      exact ⟨rfl, Only.drewN [] w _⟩
end Hq
end Go.Proofs.Ytmeadkllbjkjbaa
