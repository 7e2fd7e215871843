/-
  What the laws' alive answers: true. Conditions: none.
-/
import Derived.Test.YtgeagnpgcjjifaaFrList
namespace Go.Proofs.Ytgeagnpgcjjifaa
open Go.RowKit
namespace Fr
open Ph (Only)

def k0 : List Nat := List.replicate 130 0
def k1 : List Nat := 2 :: List.replicate 129 0
def k2 : List Nat := 2 :: 3 :: List.replicate 128 0
def k3 : List Nat := 0 :: 3 :: List.replicate 128 0
def k4 : List Nat := 4 :: 3 :: List.replicate 128 0
def k5 : List Nat := 4 :: 3 :: (List.replicate 62 0 ++ (List.replicate 64 5 ++ List.replicate 2 0))
def k6 : List Nat := 4 :: 6 :: (List.replicate 62 0 ++ (List.replicate 64 5 ++ List.replicate 2 0))
def k7 : List Nat := 4 :: 6 :: List.replicate 128 0
theorem t1 : takeP 1 2 k0 = (0, 0, k1) := by kernel_rfl
theorem t2 : takeP 1 3 k1 = (1, 0, k2) := by kernel_rfl
theorem t3 : mvP 0 2 0 k2 = (0, k3) := by kernel_rfl
theorem t4 : takeP 1 4 k3 = (0, 0, k4) := by kernel_rfl
theorem t5 : takeP 64 5 k4 = (64, 0, k5) := by kernel_rfl
theorem t6 : takeP 64 5 k5 = (-1, 15, k5) := by kernel_rfl
theorem t7 : moveP 1 3 6 k5 = (0, k6) := by kernel_rfl
theorem t8 : mvP 1 3 0 k6 = (16, k6) := by kernel_rfl
theorem t9 : gaO 5 k6 = k7 := by kernel_rfl
theorem t10 : (gaL 5 k6).length = 64 := by kernel_rfl
theorem t11 : (which 5 k6).length = 64 := by kernel_rfl
theorem t12 : (which 5 k7).length = 0 := by kernel_rfl
theorem t13 : which 4 k7 = [0] := by kernel_rfl
theorem t14 : k6[1]? = some 6 := by kernel_rfl
theorem t15 : k6.length = 130 := by kernel_rfl
set_option maxRecDepth 100000 in
set_option maxHeartbeats 4000000 in
theorem alive_any (w : World) : Calls Try.prog 8 #[] w fun e w' => e = .returned (.bool true) ∧ Below w.heap.size w w' := by
  go_enter Try.func8, Try.ntmps8
  go_wp2_with fail
  refine (new_yes 130 _ (by omega) (by omega)).mono ?_
  rintro e w1 ⟨rfl, hT1, hO1⟩
  have hB1 : Below w.heap.size w w1 := hO1.below (B := w.heap.size) (Nat.le_refl _) (by simp)
  rw [show List.replicate 130 0 = k0 from rfl] at hT1
  clear hO1
  go_wp2_with fail
  refine (take_any _ _ 2 k0 _ hT1).mono ?_
  rintro e w2 ⟨he, hT2, hO2⟩
  rw [t1] at he hT2
  replace he : e = .returned (.tuple #[.int .i64 0, .int .i64 0]) := he
  subst he
  have hB2 : Below w.heap.size w w2 := hB1.trans (hO2.below (B := w.heap.size) hB1.size (by simp))
  clear hT1 hO2 hB1
  go_wp2_with fail
  refine (take_any _ _ 3 k1 _ hT2).mono ?_
  rintro e w3 ⟨he, hT3, hO3⟩
  rw [t2] at he hT3
  replace he : e = .returned (.tuple #[.int .i64 1, .int .i64 0]) := he
  subst he
  have hB3 : Below w.heap.size w w3 := hB2.trans (hO3.below (B := w.heap.size) hB2.size (by simp))
  clear hT2 hO3 hB2
  go_wp2_with fail
  refine (give_any _ _ 2 0 k2 _ hT3).mono ?_
  rintro e w4 ⟨he, hT4, hO4⟩
  rw [t3] at he hT4
  replace he : e = .returned (.int .i64 0) := he
  subst he
  have hB4 : Below w.heap.size w w4 := hB3.trans (hO4.below (B := w.heap.size) hB3.size (by simp))
  clear hT3 hO4 hB3
  go_wp2_with fail
  refine (take_any _ _ 4 k3 _ hT4).mono ?_
  rintro e w5 ⟨he, hT5, hO5⟩
  rw [t4] at he hT5
  replace he : e = .returned (.tuple #[.int .i64 0, .int .i64 0]) := he
  subst he
  have hB5 : Below w.heap.size w w5 := hB4.trans (hO5.below (B := w.heap.size) hB4.size (by simp))
  clear hT4 hO5 hB4
  go_wp2_with fail
  refine (takeRun_any _ _ 5 k4 _ hT5).mono ?_
  rintro e w6 ⟨he, hT6, hO6⟩
  rw [t5] at he hT6
  replace he : e = .returned (.tuple #[.int .i64 64, .int .i64 0]) := he
  subst he
  have hB6 : Below w.heap.size w w6 := hB5.trans (hO6.below (B := w.heap.size) hB5.size (by simp))
  clear hT5 hO6 hB5
  go_wp2_with fail
  refine (takeRun_any _ _ 5 k5 _ hT6).mono ?_
  rintro e w7 ⟨he, hT7, hO7⟩
  rw [t6] at he hT7
  replace he : e = .returned (.tuple #[.int .i64 (-1), .int .i64 15]) := he
  subst he
  have hB7 : Below w.heap.size w w7 := hB6.trans (hO7.below (B := w.heap.size) hB6.size (by simp))
  clear hT6 hO7 hB6
  go_wp2_with fail
  refine (move_any _ _ 1 3 6 k5 _ hT7).mono ?_
  rintro e w8 ⟨he, hT8, hO8⟩
  rw [t7] at he hT8
  replace he : e = .returned (.int .i64 0) := he
  subst he
  have hB8 : Below w.heap.size w w8 := hB7.trans (hO8.below (B := w.heap.size) hB7.size (by simp))
  clear hT7 hO8 hB7
  go_wp2_with fail
  refine (give_any _ _ 3 1 k6 _ hT8).mono ?_
  rintro e w9 ⟨he, hT9, hO9⟩
  rw [t8] at he hT9
  replace he : e = .returned (.int .i64 16) := he
  subst he
  have hB9 : Below w.heap.size w w9 := hB8.trans (hO9.below (B := w.heap.size) hB8.size (by simp))
  clear hT8 hO9 hB8
  have zt : w.heap.size + 1 < w9.heap.size := hT9.tb.lt
  go_wp2_with fail
  refine (owner_yes _ _ 1 6 k6 _ hT9 t14).mono ?_
  rintro e wx ⟨rfl, rfl⟩
  go_wp2_with fail
  refine (owner_no _ _ 130 k6 _ hT9 (Or.inr (by rw [t15]; decide))).mono ?_
  rintro e wx ⟨rfl, rfl⟩
  go_wp2_with fail
  refine (count_any _ _ 5 k6 _ hT9).mono ?_
  rintro e wx ⟨he, rfl⟩
  rw [t11] at he
  subst he
  go_wp2_with fail
  refine (giveAll_any _ _ 5 k6 _ hT9 zt (by omega)).mono ?_
  rintro e wy ⟨v, rfl, hS, hT, hO⟩
  obtain ⟨va, vc, rfl⟩ := hS.form
  rw [t10]
  rw [t9] at hT
  have hB : Below w.heap.size w wy := hB9.trans (hO.below (B := w.heap.size) hB9.size (by simp))
  have zy : w.heap.size + 1 < wy.heap.size := hT.tb.lt
  clear hT9 hB9 hO hS zt
  go_wp2_with fail
  refine (count_any _ _ 5 k7 _ hT).mono ?_
  rintro e wx ⟨he, rfl⟩
  rw [t12] at he
  replace he : e = .returned (.int .i64 0) := he
  subst he
  go_wp2_with fail
  refine (list_any _ _ 4 k7 _ hT zy (by omega)).mono ?_
  rintro e wz ⟨v, rfl, hS, hb⟩
  rw [t13] at hS
  have hBz : Below w.heap.size w wz := hB.trans (hb.mono hB.size)
  clear hT hB hb
  go_wp2_with fail
  have hL := Lay.new wz 3 [.int .i64 0]
  have hL0 := hL.cell 0
  have hSl : Seen wz.heap.size (wz.alloc (.cells #[.int .i64 0] 3)) (.slice (some ⟨wz.heap.size, 0, none⟩) 1 1) [0] :=
    ⟨_, _, rfl, Nat.le_refl _, fun _ => ⟨_, rfl, Nat.le_refl _, hL.lt, fun i x hx => by
      match i, hx with
      | 0, hx =>
        have : x = 0 := by simpa using hx.symm
        subst this
        exact hL0⟩⟩
  have hB2 := hBz.alloc hBz.size (.cells #[.int .i64 0] 3)
  refine (same_any _ _ _ _ [0] [0] _ (by simp) (by simp) (hS.kept (Only.alloc [] wz _) (by simp)) hSl).mono ?_
  rintro e wq ⟨rfl, hb⟩
  have hBq := hB2.trans (hb.mono hB2.size)
  rw [decide_eq_true rfl]
  clear hB2 hb hL hL0 hSl hS hBz
  go_wp2_with fail
  go_ret
  exact ⟨rfl, hBq⟩
end Fr
end Go.Proofs.Ytgeagnpgcjjifaa
