/-
  What the heap's comparison of two items answers (inOrder, ahead). Conditions: none.
-/
import Derived.Test.YtmeadkllbjkjbaaHqCmp
import Derived.StillTailTactics
import Derived.Sort.Grow
namespace Go.Proofs.Ytmeadkllbjkjbaa
open Go.RowKit Go.Sort
namespace Hq
open Ph (Only)
open Hp (lt lt_irr lt_asym le_trans lt_total)

/-- A block's cells, told as a whole. -/
def Lay (w : World) (b : Nat) (t : TypeId) (cs : List Value) : Prop := w.heap[b]? = some (.cells cs.toArray t (0, 0))
theorem Lay.new (w : World) (t : TypeId) (cs : List Value) : Lay (w.alloc (.cells cs.toArray t)) w.heap.size t cs := (MapKept.heap_alloc w _).1
theorem Lay.lt {w : World} {b : Nat} {t : TypeId} {cs : List Value} (h : Lay w b t cs) : b < w.heap.size := (Array.getElem?_eq_some_iff.1 h).1
theorem Lay.kept {w w' : World} {b : Nat} {t : TypeId} {cs : List Value} {S : List Nat} (h : Lay w b t cs) (ho : Only S w w') (hb : b ∉ S) : Lay w' b t cs := (ho.block b h.lt hb).trans h
theorem Lay.cell {w : World} {b : Nat} {t : TypeId} {cs : List Value} (h : Lay w b t cs) (j : Nat) : w.cell? ⟨b, j, none⟩ = cs[j]? := by
  unfold Lay at h
  simp [World.cell?, h]
theorem Lay.free {w : World} {b : Nat} {t : TypeId} {cs : List Value} (h : Lay w b t cs) (j : Nat) : w.frozen? ⟨b, j, none⟩ = false := by
  unfold Lay at h
  simp [World.frozen?, h]
/-- An item by value. -/
abbrev iV (x : ItT) : Value := .agg #[.int .i64 (x.1 : Nat), .int .u64 (x.2 : Nat)]
/-- The chapter's order as a number. -/
def cmpD (x y : ItT) : Int := if cmpI (x.2 : Nat) (y.2 : Nat) = 0 then cmpI (x.1 : Nat) (y.1 : Nat) else cmpI (x.2 : Nat) (y.2 : Nat)
theorem cmpI_lt {x y : Int} : cmpI x y < 0 ↔ x < y := by
  unfold cmpI
  split
  · simp [*]
  · split <;> simp <;> omega
theorem cmpI_zero {x y : Int} : cmpI x y = 0 ↔ x = y := by
  unfold cmpI
  split
  · simp; omega
  · split <;> simp <;> omega
theorem cmpD_lt {x y : ItT} : cmpD x y < 0 ↔ lt x y := by
  unfold cmpD lt
  split
  · rename_i h
    have := cmpI_zero.1 h
    rw [cmpI_lt]; omega
  · rename_i h
    have : (x.2 : Int) ≠ y.2 := fun e => h (cmpI_zero.2 e)
    rw [cmpI_lt]; omega
set_option maxRecDepth 100000 in
theorem order_any (x y : ItT) (W : World) : Calls Try.prog 28 #[iV x, iV y] W fun e w' => e = .returned (.int .i64 (cmpD x y)) ∧ ∃ q os', w' = grow (W.drewN q) os' := by
  have hcd : cmpD x y = if cmpI (x.2 : Nat) (y.2 : Nat) = 0 then cmpI (x.1 : Nat) (y.1 : Nat) else cmpI (x.2 : Nat) (y.2 : Nat) := rfl
  have h1 := fun W => compareU_any (x.2 : Nat) (y.2 : Nat) W
  have h2 := fun W => compareI_any (x.1 : Nat) (y.1 : Nat) W
  generalize cmpD x y = c at *
  generalize cmpI (x.2 : Nat) (y.2 : Nat) = c1 at *
  generalize cmpI (x.1 : Nat) (y.1 : Nat) = c2 at *
  have HD := Lib.hid hcd
  clear hcd
  go_enter Try.func28, Try.ntmps28
  go_wp2
  have L0 := (Lay.new W 53 [.int .i64 (x.1 : Nat), .int .u64 (x.2 : Nat)]).kept (Only.alloc [] _ (.cells #[.int .i64 (y.1 : Nat), .int .u64 (y.2 : Nat)] 53)) (by simp)
  have L1 := Lay.new (W.alloc (.cells #[.int .i64 (x.1 : Nat), .int .u64 (x.2 : Nat)] 53)) 53 [.int .i64 (y.1 : Nat), .int .u64 (y.2 : Nat)]
  rw [World.size_alloc] at L1
  have hgr : (W.alloc (.cells #[.int .i64 (x.1 : Nat), .int .u64 (x.2 : Nat)] 53)).alloc (.cells #[.int .i64 (y.1 : Nat), .int .u64 (y.2 : Nat)] 53) = grow W (#[.cells #[.int .i64 (x.1 : Nat), .int .u64 (x.2 : Nat)] 53] ++ #[.cells #[.int .i64 (y.1 : Nat), .int .u64 (y.2 : Nat)] 53]) := by rw [alloc_eq_grow, alloc_eq_grow, grow_grow]
  have HG := Lib.hid hgr
  clear hgr
  change Lay ((W.alloc (.cells #[.int .i64 (x.1 : Nat), .int .u64 (x.2 : Nat)] 53)).alloc (.cells #[.int .i64 (y.1 : Nat), .int .u64 (y.2 : Nat)] 53)) _ _ _ at L0 L1
  generalize ((W.alloc (.cells #[.int .i64 (x.1 : Nat), .int .u64 (x.2 : Nat)] 53)).alloc (.cells #[.int .i64 (y.1 : Nat), .int .u64 (y.2 : Nat)] 53)) = W3 at *
  have x0 := (L0.kept (Only.drewN [] W3 1) (by simp)).cell 0
  have x1 := (L0.kept (Only.drewN [] W3 1) (by simp)).cell 1
  have y0 := (L1.kept (Only.drewN [] W3 1) (by simp)).cell 0
  have y1 := (L1.kept (Only.drewN [] W3 1) (by simp)).cell 1
  simp only [List.getElem?_cons_zero, List.getElem?_cons_succ] at x0 x1 y0 y1
  clear L0 L1
  refine wp_region_still_tail 10 (by kernel_rfl) (by kernel_rfl) ?_
  rw [show ({ W3 with drawn := W3.drawn + 1 } : World) = W3.drewN 1 from rfl]
  have hgW : W3.drewN 1 = grow (W.drewN 1) (#[.cells #[.int .i64 (x.1 : Nat), .int .u64 (x.2 : Nat)] 53] ++ #[.cells #[.int .i64 (y.1 : Nat), .int .u64 (y.2 : Nat)] 53]) := by rw [HG.out]; rfl
  have HG := Lib.hid hgW
  clear hgW
  generalize W3.drewN 1 = W4 at *
  simp only [List.take_succ_cons, List.take_zero, List.drop_succ_cons, List.drop_zero]
  still_step
  still_step
  still_step
  still_step
  still_call (h1 _)
  still_step
  still_step
  still_step
  still_step
  still_call (h2 _)
  refine wpStill_nil ?_
  have c0 := (Lay.new W4 3 [.int .i64 c1, .int .i64 c2]).cell 0
  have c1' := (Lay.new W4 3 [.int .i64 c1, .int .i64 c2]).cell 1
  simp only [List.getElem?_cons_zero, List.getElem?_cons_succ] at c0 c1'
  have hor := or_any _ c1 c2 _ c0 c1'
  rw [← HD.out] at hor
  have HOR := Lib.hid hor
  clear hor
  go_wp2_with (go_at_call 34; refine HOR.out.mono ?_; rintro e w' ⟨rfl, rfl⟩)
  go_ret
  exact ⟨rfl, 1, _, by rw [alloc_eq_grow, HG.out, grow_grow]⟩
theorem order_kept (x y : ItT) (W : World) : Calls Try.prog 28 #[iV x, iV y] W fun e w' => e = .returned (.int .i64 (cmpD x y)) ∧ Below W.heap.size W w' :=
  (order_any x y W).mono fun e w' ⟨he, q, os, hw⟩ => by
    subst hw
    exact ⟨he, below_regrown W _ os⟩
theorem ahead_any (x y : ItT) (W : World) : Calls Try.prog 29 #[iV x, iV y] W fun e w' => e = .returned (.bool (decide (lt x y))) ∧ Only [] W w' := by
  have hc := fun W => order_kept x y W
  have hd : decide (lt x y) = decide (cmpD x y < 0) := by simp only [cmpD_lt]
  rw [hd]
  generalize cmpD x y = c at *
  clear hd
  have HC := Lib.hid hc
  clear hc
  go_enter Try.func29, Try.ntmps29
  go_wp2_with (go_at_call 28; refine (HC.out _).mono ?_; rintro e w' ⟨rfl, hb⟩; have HB := Lib.hid hb; clear hb)
  go_ret
  exact ⟨rfl, ((Only.alloc [] W _).trans (Only.alloc [] _ _)).trans (Only.of HB.out [])⟩
end Hq
end Go.Proofs.Ytmeadkllbjkjbaa
