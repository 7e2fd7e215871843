/-
  What the wheel's comparison of two timers answers, and the first of a row of timers by it (slices.MinFunc). Conditions: none.
-/
import Derived.Test.YtddiapihopgpbaaWhCmp
import Derived.StillTailTactics
import Derived.Sort.Grow
namespace Go.Proofs.Ytddiapihopgpbaa
open Go.RowKit Go.Maps Go.Shelf Go.Sort
namespace Wh
open Ph (Only)
open Hp (lt lt_irr lt_asym le_trans lt_total)

/-- The chapter's order as a number. -/
def cmpD (x y : DuT) : Int := if cmpI (x.2 : Nat) (y.2 : Nat) = 0 then cmpI (x.1 : Nat) (y.1 : Nat) else cmpI (x.2 : Nat) (y.2 : Nat)
theorem cmpI_lt {x y : Int} : cmpI x y < 0 ↔ x < y := by
  unfold cmpI
  split
  · simp [*]
  · split <;> simp <;> omega
theorem cmpI_zero {x y : Int} : cmpI x y = 0 ↔ x = y := by
  unfold cmpI
  split
  · simp; omega
  · split <;> simp <;> omega
theorem cmpD_lt {x y : DuT} : cmpD x y < 0 ↔ lt x y := by
  unfold cmpD lt
  split
  · rename_i h
    have := cmpI_zero.1 h
    rw [cmpI_lt]; omega
  · rename_i h
    have : (x.2 : Int) ≠ y.2 := fun e => h (cmpI_zero.2 e)
    rw [cmpI_lt]; omega
set_option maxRecDepth 100000 in
theorem order_any (x y : DuT) (W : World) : Calls Try.prog 28 #[dV x, dV y] W fun e w' => e = .returned (.int .i64 (cmpD x y)) ∧ ∃ q os', w' = grow (W.drewN q) os' := by
  have hcd : cmpD x y = if cmpI (x.2 : Nat) (y.2 : Nat) = 0 then cmpI (x.1 : Nat) (y.1 : Nat) else cmpI (x.2 : Nat) (y.2 : Nat) := rfl
  have h1 := fun W => compareU_any (x.2 : Nat) (y.2 : Nat) W
  have h2 := fun W => compareI_any (x.1 : Nat) (y.1 : Nat) W
  generalize cmpD x y = c at *
  generalize cmpI (x.2 : Nat) (y.2 : Nat) = c1 at *
  generalize cmpI (x.1 : Nat) (y.1 : Nat) = c2 at *
  have HD := Lib.hid hcd
  clear hcd
  go_enter Try.func28, Try.ntmps28
  go_wp2
  have L0 := (Lay.new W 42 [.int .i64 (x.1 : Nat), .int .u64 (x.2 : Nat)]).kept (Only.alloc [] _ (.cells #[.int .i64 (y.1 : Nat), .int .u64 (y.2 : Nat)] 42)) (by simp)
  have L1 := Lay.new (W.alloc (.cells #[.int .i64 (x.1 : Nat), .int .u64 (x.2 : Nat)] 42)) 42 [.int .i64 (y.1 : Nat), .int .u64 (y.2 : Nat)]
  rw [World.size_alloc] at L1
  have hgr : (W.alloc (.cells #[.int .i64 (x.1 : Nat), .int .u64 (x.2 : Nat)] 42)).alloc (.cells #[.int .i64 (y.1 : Nat), .int .u64 (y.2 : Nat)] 42) = grow W (#[.cells #[.int .i64 (x.1 : Nat), .int .u64 (x.2 : Nat)] 42] ++ #[.cells #[.int .i64 (y.1 : Nat), .int .u64 (y.2 : Nat)] 42]) := by rw [alloc_eq_grow, alloc_eq_grow, grow_grow]
  have HG := Lib.hid hgr
  clear hgr
  change Lay ((W.alloc (.cells #[.int .i64 (x.1 : Nat), .int .u64 (x.2 : Nat)] 42)).alloc (.cells #[.int .i64 (y.1 : Nat), .int .u64 (y.2 : Nat)] 42)) _ _ _ at L0 L1
  generalize ((W.alloc (.cells #[.int .i64 (x.1 : Nat), .int .u64 (x.2 : Nat)] 42)).alloc (.cells #[.int .i64 (y.1 : Nat), .int .u64 (y.2 : Nat)] 42)) = W3 at *
  have x0 := (L0.kept (Only.drewN [] W3 1) (by simp)).cell 0
  have x1 := (L0.kept (Only.drewN [] W3 1) (by simp)).cell 1
  have y0 := (L1.kept (Only.drewN [] W3 1) (by simp)).cell 0
  have y1 := (L1.kept (Only.drewN [] W3 1) (by simp)).cell 1
  simp only [List.getElem?_cons_zero, List.getElem?_cons_succ] at x0 x1 y0 y1
  clear L0 L1
  refine wp_region_still_tail 10 (by kernel_rfl) (by kernel_rfl) ?_
  rw [show ({ W3 with drawn := W3.drawn + 1 } : World) = W3.drewN 1 from rfl]
  have hgW : W3.drewN 1 = grow (W.drewN 1) (#[.cells #[.int .i64 (x.1 : Nat), .int .u64 (x.2 : Nat)] 42] ++ #[.cells #[.int .i64 (y.1 : Nat), .int .u64 (y.2 : Nat)] 42]) := by rw [HG.out]; rfl
  have HG := Lib.hid hgW
  clear hgW
  generalize W3.drewN 1 = W4 at *
  simp only [List.take_succ_cons, List.take_zero, List.drop_succ_cons, List.drop_zero]
  still_step
  still_step
  still_step
  still_step
  still_call (h1 _)
  still_step
  still_step
  still_step
  still_step
  still_call (h2 _)
  refine wpStill_nil ?_
  have c0 := (Lay.new W4 3 [.int .i64 c1, .int .i64 c2]).cell 0
  have c1' := (Lay.new W4 3 [.int .i64 c1, .int .i64 c2]).cell 1
  simp only [List.getElem?_cons_zero, List.getElem?_cons_succ] at c0 c1'
  have hor := or_any _ c1 c2 _ c0 c1'
  rw [← HD.out] at hor
  have HOR := Lib.hid hor
  clear hor
  go_wp2_with (go_at_call 36; refine HOR.out.mono ?_; rintro e w' ⟨rfl, rfl⟩)
  go_ret
  exact ⟨rfl, 1, _, by rw [alloc_eq_grow, HG.out, grow_grow]⟩
theorem order_kept (x y : DuT) (W : World) : Calls Try.prog 28 #[dV x, dV y] W fun e w' => e = .returned (.int .i64 (cmpD x y)) ∧ Below W.heap.size W w' :=
  (order_any x y W).mono fun e w' ⟨he, q, os, hw⟩ => by
    subst hw
    exact ⟨he, below_regrown W _ os⟩
end Wh
end Go.Proofs.Ytddiapihopgpbaa
