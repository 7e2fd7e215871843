/-
  What the laws' alive answers: true. Conditions: none.
-/
import Derived.Test.YtnilcmmilplbgaaGrGone
import Derived.Test.YtnilcmmilplbgaaGrEq
namespace Go.Proofs.Ytnilcmmilplbgaa
open Go.RowKit
namespace Gr
open Ph (Only)
def k0 : Nat → GtT := fun _ => gz
def k1 : Nat → GtT := upd k0 0 (1, 2, 7, 3, 0, true)
def k2 : Nat → GtT := upd k1 0 (2, 2, 7, 3, 40, true)
def k3 : Nat → GtT := upd k2 0 gz
theorem t1 : offP k0 2 7 3 true = (0, 0, k1) := by kernel_rfl
theorem t2 : accP k1 0 3 40 = ((2, 2, 7, 3, 40, true), 0, k2) := by kernel_rfl
theorem t3 : mayP k2 3 7 true = true := by kernel_rfl
theorem t4 : revP k2 0 2 = ((2, 2, 7, 3, 40, true), 0, k3) := by kernel_rfl
theorem t5 : offP k3 2 7 2 true = (-1, 11, k3) := by kernel_rfl
theorem t6 : mayP k3 3 7 false = false := by kernel_rfl
theorem t7 : getP k3 0 = gz := by kernel_rfl
theorem t8 : atP k3 3 40 = -1 := by kernel_rfl
theorem gv_k1 : Gv k1 := by have h := gv_off (g := k0) gv_new 2 7 3 true; rw [t1] at h; exact h
theorem gv_k2 : Gv k2 := by have h := gv_acc (g := k1) gv_k1 0 3 40; rw [t2] at h; exact h
set_option maxRecDepth 100000 in
set_option maxHeartbeats 4000000 in
theorem alive_any (w : World) : Calls Try.prog 8 #[] w fun e w' => e = .returned (.bool true) ∧ Below w.heap.size w w' := by
  have hz : ∀ w, (zeroValue 37).run Try.prog w = .ok (gV gz) w := fun _ => by kernel_rfl
  go_enter Try.func8, Try.ntmps8
  go_wp2_with fail
  refine (new_any _).mono ?_
  rintro e w1 ⟨rfl, hT1, hO1⟩
  have hB1 : Below w.heap.size w w1 := hO1.below (B := w.heap.size) (Nat.le_refl _) (by simp)
  rw [show (fun _ => gz) = k0 from rfl] at hT1
  clear hO1
  go_wp2_with fail
  refine (offer_any _ 2 7 3 true k0 _ hT1).mono ?_
  rintro e w2 ⟨he, hT2, hO2⟩
  rw [t1] at he hT2
  replace he : e = .returned (.tuple #[.int .i64 0, .int .i64 0]) := he
  subst he
  have hB2 : Below w.heap.size w w2 := hB1.trans (hO2.below (B := w.heap.size) hB1.size (by simp))
  clear hT1 hO2 hB1
  go_wp2_with fail
  refine (accept_any _ 0 3 40 k1 _ hT2 gv_k1).mono ?_
  rintro e w3 ⟨he, hT3, hO3⟩
  rw [t2] at he hT3
  replace he : e = .returned (.tuple #[.agg #[.int .i64 2, .int .i64 2, .int .i64 7, .int .i64 3, .int .i64 40, .bool true], .int .i64 0]) := he
  subst he
  have hB3 : Below w.heap.size w w3 := hB2.trans (hO3.below (B := w.heap.size) hB2.size (by simp))
  clear hT2 hO3 hB2
  have z3 := hT3.lt
  have oA := Only.alloc [] w3 (.cells #[.int .i64 2, .int .i64 2, .int .i64 7, .int .i64 3, .int .i64 40, .bool true] 37)
  have hT4 := hT3.kept oA (by simp)
  have hB4 := hB3.trans (oA.below (B := w.heap.size) hB3.size (by simp))
  have X4 := Bx6.new w3 (2, 2, 7, 3, 40, true) 37 rfl
  clear hT3 hB3 oA
  go_wp2_with fail
  have hX4 : w3.heap.size < (w3.alloc (.cells #[.int .i64 2, .int .i64 2, .int .i64 7, .int .i64 3, .int .i64 40, .bool true] 37)).heap.size := X4.lt
  generalize w3.alloc (.cells #[.int .i64 2, .int .i64 2, .int .i64 7, .int .i64 3, .int .i64 40, .bool true] 37) = w4 at *
  refine (may_any _ 3 7 true k2 _ hT4).mono ?_
  rintro e w5 ⟨he, hO5⟩
  rw [t3] at he
  subst he
  have hT5 := hT4.kept hO5 (by simp)
  have X5 := X4.kept hO5 (by simp)
  have hB5 : Below w.heap.size w w5 := hB4.trans (hO5.below (B := w.heap.size) hB4.size (by simp))
  clear hT4 hO5 hB4 X4
  go_wp2_with fail
  refine (revoke_any _ 0 2 k2 _ hT5).mono ?_
  rintro e w6 ⟨he, hT6, hO6⟩
  rw [t4] at he hT6
  replace he : e = .returned (.tuple #[.agg #[.int .i64 2, .int .i64 2, .int .i64 7, .int .i64 3, .int .i64 40, .bool true], .int .i64 0]) := he
  subst he
  have X6 := X5.kept hO6 (by simp; omega)
  have z6 := hT6.lt
  have hB6 : Below w.heap.size w w6 := hB5.trans (hO6.below (B := w.heap.size) hB5.size (by simp))
  clear hT5 hO6 hB5 X5
  have oA := Only.alloc [] w6 (.cells #[.int .i64 2, .int .i64 2, .int .i64 7, .int .i64 3, .int .i64 40, .bool true] 37)
  have hT7 := hT6.kept oA (by simp)
  have hB7 := hB6.trans (oA.below (B := w.heap.size) hB6.size (by simp))
  have Y7 := Bx6.new w6 (2, 2, 7, 3, 40, true) 37 rfl
  have X7 := X6.kept oA (by simp)
  clear hT6 hB6 oA X6
  go_wp2_with fail
  generalize w6.alloc (.cells #[.int .i64 2, .int .i64 2, .int .i64 7, .int .i64 3, .int .i64 40, .bool true] 37) = w7 at *
  refine (offer_any _ 2 7 2 true k3 _ hT7).mono ?_
  rintro e w8 ⟨he, hT8, hO8⟩
  rw [t5] at he hT8
  replace he : e = .returned (.tuple #[.int .i64 (-1), .int .i64 11]) := he
  subst he
  have y7 := Y7.lt
  have X8 := X7.kept hO8 (by simp; omega)
  have Y8 := Y7.kept hO8 (by simp; omega)
  have hB8 : Below w.heap.size w w8 := hB7.trans (hO8.below (B := w.heap.size) hB7.size (by simp))
  have c0 := X8.c 0 (by omega)
  have d4 := Y8.c 4 (by omega)
  simp only [gC] at c0 d4
  clear hT7 hO8 hB7 X7 Y7
  go_wp2_with fail
  refine (may_any _ 3 7 false k3 _ hT8).mono ?_
  rintro e w9 ⟨he, hO9⟩
  rw [t6] at he
  subst he
  have hT9 := hT8.kept hO9 (by simp)
  have hB9 : Below w.heap.size w w9 := hB8.trans (hO9.below (B := w.heap.size) hB8.size (by simp))
  clear hT8 hO9 hB8 X8 Y8 c0 d4
  go_wp2_with fail
  refine (get_any _ 0 k3 _ hT9).mono ?_
  rintro e wa ⟨he, hOa⟩
  rw [t7] at he
  subst he
  have hTa := hT9.kept hOa (by simp)
  have hBa : Below w.heap.size w wa := hB9.trans (hOa.below (B := w.heap.size) hB9.size (by simp))
  have eE := fun w => eqlG gz gz w
  simp only [decide_true] at eE
  clear hT9 hOa hB9
  go_wp2_with fail
  refine (at_any _ 3 40 k3 _ hTa).mono ?_
  rintro e wb ⟨he, hOb⟩
  rw [t8] at he
  subst he
  have hBb : Below w.heap.size w wb := hBa.trans (hOb.below (B := w.heap.size) hBa.size (by simp))
  clear hTa hOb hBa
  go_wp2_with fail
  go_ret
  exact ⟨rfl, hBb⟩
end Gr
end Go.Proofs.Ytnilcmmilplbgaa
