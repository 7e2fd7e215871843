/-
  What the document's own Right, Encode, Decode and Signed of layer 2 answer, at every argument; no condition but that each argument is of its Go type.
-/
import Derived.Test.YtlfhcnpbgbnadaaDoorIsaRead
namespace Go.Proofs.YtlfhcnpbgbnadaaDoor
open Go.RowKit Isa Nt

theorem uses_any (k : Nat) (w : World) (h : k < 28) :
    Calls Tryd.prog 52 #[.int .i64 k] w fun e w' => e = .returned (.tuple #[.bool (opA k), .bool (opB k), .int .i64 (opI k)]) ∧ w = w' := by
  match k, h with
  | 0, _ =>
    go_enter Tryd.func52, Tryd.ntmps52
    go_wp2
    go_ret3
    exact ⟨rfl, rfl⟩
  | 1, _ =>
    go_enter Tryd.func52, Tryd.ntmps52
    go_wp2
    go_ret3
    exact ⟨rfl, rfl⟩
  | 2, _ =>
    go_enter Tryd.func52, Tryd.ntmps52
    go_wp2
    go_ret3
    exact ⟨rfl, rfl⟩
  | 3, _ =>
    go_enter Tryd.func52, Tryd.ntmps52
    go_wp2
    go_ret3
    exact ⟨rfl, rfl⟩
  | 4, _ =>
    go_enter Tryd.func52, Tryd.ntmps52
    go_wp2
    go_ret3
    exact ⟨rfl, rfl⟩
  | 5, _ =>
    go_enter Tryd.func52, Tryd.ntmps52
    go_wp2
    go_ret3
    exact ⟨rfl, rfl⟩
  | 6, _ =>
    go_enter Tryd.func52, Tryd.ntmps52
    go_wp2
    go_ret3
    exact ⟨rfl, rfl⟩
  | 7, _ =>
    go_enter Tryd.func52, Tryd.ntmps52
    go_wp2
    go_ret3
    exact ⟨rfl, rfl⟩
  | 8, _ =>
    go_enter Tryd.func52, Tryd.ntmps52
    go_wp2
    go_ret3
    exact ⟨rfl, rfl⟩
  | 9, _ =>
    go_enter Tryd.func52, Tryd.ntmps52
    go_wp2
    go_ret3
    exact ⟨rfl, rfl⟩
  | 10, _ =>
    go_enter Tryd.func52, Tryd.ntmps52
    go_wp2
    go_ret3
    exact ⟨rfl, rfl⟩
  | 11, _ =>
    go_enter Tryd.func52, Tryd.ntmps52
    go_wp2
    go_ret3
    exact ⟨rfl, rfl⟩
  | 12, _ =>
    go_enter Tryd.func52, Tryd.ntmps52
    go_wp2
    go_ret3
    exact ⟨rfl, rfl⟩
  | 13, _ =>
    go_enter Tryd.func52, Tryd.ntmps52
    go_wp2
    go_ret3
    exact ⟨rfl, rfl⟩
  | 14, _ =>
    go_enter Tryd.func52, Tryd.ntmps52
    go_wp2
    go_ret3
    exact ⟨rfl, rfl⟩
  | 15, _ =>
    go_enter Tryd.func52, Tryd.ntmps52
    go_wp2
    go_ret3
    exact ⟨rfl, rfl⟩
  | 16, _ =>
    go_enter Tryd.func52, Tryd.ntmps52
    go_wp2
    go_ret3
    exact ⟨rfl, rfl⟩
  | 17, _ =>
    go_enter Tryd.func52, Tryd.ntmps52
    go_wp2
    go_ret3
    exact ⟨rfl, rfl⟩
  | 18, _ =>
    go_enter Tryd.func52, Tryd.ntmps52
    go_wp2
    go_ret3
    exact ⟨rfl, rfl⟩
  | 19, _ =>
    go_enter Tryd.func52, Tryd.ntmps52
    go_wp2
    go_ret3
    exact ⟨rfl, rfl⟩
  | 20, _ =>
    go_enter Tryd.func52, Tryd.ntmps52
    go_wp2
    go_ret3
    exact ⟨rfl, rfl⟩
  | 21, _ =>
    go_enter Tryd.func52, Tryd.ntmps52
    go_wp2
    go_ret3
    exact ⟨rfl, rfl⟩
  | 22, _ =>
    go_enter Tryd.func52, Tryd.ntmps52
    go_wp2
    go_ret3
    exact ⟨rfl, rfl⟩
  | 23, _ =>
    go_enter Tryd.func52, Tryd.ntmps52
    go_wp2
    go_ret3
    exact ⟨rfl, rfl⟩
  | 24, _ =>
    go_enter Tryd.func52, Tryd.ntmps52
    go_wp2
    go_ret3
    exact ⟨rfl, rfl⟩
  | 25, _ =>
    go_enter Tryd.func52, Tryd.ntmps52
    go_wp2
    go_ret3
    exact ⟨rfl, rfl⟩
  | 26, _ =>
    go_enter Tryd.func52, Tryd.ntmps52
    go_wp2
    go_ret3
    exact ⟨rfl, rfl⟩
  | 27, _ =>
    go_enter Tryd.func52, Tryd.ntmps52
    go_wp2
    go_ret3
    exact ⟨rfl, rfl⟩
  | k + 28, h => exact absurd h (by omega)
set_option maxHeartbeats 1000000 in
theorem rright_out0 (op a b imm : Int) (w : World)  (t0 : op < 0) :
    Calls Tryd.prog 39 #[.agg #[.int .i64 op, .int .i64 a, .int .i64 b, .int .i64 imm]] w fun e w' => e = .returned (.bool false) ∧ Below w.heap.size w w' := by
  have d0 : decide (op < 0) = true := by simpa using t0
  go_enter Tryd.func39, Tryd.ntmps39
  go_wp2
  go_ret
  exact ⟨rfl, (Below.refl _ _).alloc (Nat.le_refl _) _⟩
set_option maxHeartbeats 1000000 in
theorem rright_out1 (op a b imm : Int) (w : World) (t0 : ¬ op < 0) (t1 : 27 < op) :
    Calls Tryd.prog 39 #[.agg #[.int .i64 op, .int .i64 a, .int .i64 b, .int .i64 imm]] w fun e w' => e = .returned (.bool false) ∧ Below w.heap.size w w' := by
  have d0 : decide (op < 0) = false := by simpa using t0
  have d1 : decide (27 < op) = true := by simpa using t1
  go_enter Tryd.func39, Tryd.ntmps39
  go_wp2
  go_ret
  exact ⟨rfl, (Below.refl _ _).alloc (Nat.le_refl _) _⟩
set_option maxHeartbeats 1000000 in
theorem rright_out2 (op a b imm : Int) (w : World) (t0 : ¬ op < 0) (t1 : ¬ 27 < op) (t2 : a < 0) :
    Calls Tryd.prog 39 #[.agg #[.int .i64 op, .int .i64 a, .int .i64 b, .int .i64 imm]] w fun e w' => e = .returned (.bool false) ∧ Below w.heap.size w w' := by
  have d0 : decide (op < 0) = false := by simpa using t0
  have d1 : decide (27 < op) = false := by simpa using t1
  have d2 : decide (a < 0) = true := by simpa using t2
  go_enter Tryd.func39, Tryd.ntmps39
  go_wp2
  go_ret
  exact ⟨rfl, (Below.refl _ _).alloc (Nat.le_refl _) _⟩
set_option maxHeartbeats 1000000 in
theorem rright_out3 (op a b imm : Int) (w : World) (t0 : ¬ op < 0) (t1 : ¬ 27 < op) (t2 : ¬ a < 0) (t3 : 15 < a) :
    Calls Tryd.prog 39 #[.agg #[.int .i64 op, .int .i64 a, .int .i64 b, .int .i64 imm]] w fun e w' => e = .returned (.bool false) ∧ Below w.heap.size w w' := by
  have d0 : decide (op < 0) = false := by simpa using t0
  have d1 : decide (27 < op) = false := by simpa using t1
  have d2 : decide (a < 0) = false := by simpa using t2
  have d3 : decide (15 < a) = true := by simpa using t3
  go_enter Tryd.func39, Tryd.ntmps39
  go_wp2
  go_ret
  exact ⟨rfl, (Below.refl _ _).alloc (Nat.le_refl _) _⟩
set_option maxHeartbeats 1000000 in
theorem rright_out4 (op a b imm : Int) (w : World) (t0 : ¬ op < 0) (t1 : ¬ 27 < op) (t2 : ¬ a < 0) (t3 : ¬ 15 < a) (t4 : b < 0) :
    Calls Tryd.prog 39 #[.agg #[.int .i64 op, .int .i64 a, .int .i64 b, .int .i64 imm]] w fun e w' => e = .returned (.bool false) ∧ Below w.heap.size w w' := by
  have d0 : decide (op < 0) = false := by simpa using t0
  have d1 : decide (27 < op) = false := by simpa using t1
  have d2 : decide (a < 0) = false := by simpa using t2
  have d3 : decide (15 < a) = false := by simpa using t3
  have d4 : decide (b < 0) = true := by simpa using t4
  go_enter Tryd.func39, Tryd.ntmps39
  go_wp2
  go_ret
  exact ⟨rfl, (Below.refl _ _).alloc (Nat.le_refl _) _⟩
set_option maxHeartbeats 1000000 in
theorem rright_out5 (op a b imm : Int) (w : World) (t0 : ¬ op < 0) (t1 : ¬ 27 < op) (t2 : ¬ a < 0) (t3 : ¬ 15 < a) (t4 : ¬ b < 0) (t5 : 15 < b) :
    Calls Tryd.prog 39 #[.agg #[.int .i64 op, .int .i64 a, .int .i64 b, .int .i64 imm]] w fun e w' => e = .returned (.bool false) ∧ Below w.heap.size w w' := by
  have d0 : decide (op < 0) = false := by simpa using t0
  have d1 : decide (27 < op) = false := by simpa using t1
  have d2 : decide (a < 0) = false := by simpa using t2
  have d3 : decide (15 < a) = false := by simpa using t3
  have d4 : decide (b < 0) = false := by simpa using t4
  have d5 : decide (15 < b) = true := by simpa using t5
  go_enter Tryd.func39, Tryd.ntmps39
  go_wp2
  go_ret
  exact ⟨rfl, (Below.refl _ _).alloc (Nat.le_refl _) _⟩
set_option maxHeartbeats 1000000 in
theorem rright_out6 (op a b imm : Int) (w : World) (t0 : ¬ op < 0) (t1 : ¬ 27 < op) (t2 : ¬ a < 0) (t3 : ¬ 15 < a) (t4 : ¬ b < 0) (t5 : ¬ 15 < b) (t6 : imm < 0) :
    Calls Tryd.prog 39 #[.agg #[.int .i64 op, .int .i64 a, .int .i64 b, .int .i64 imm]] w fun e w' => e = .returned (.bool false) ∧ Below w.heap.size w w' := by
  have d0 : decide (op < 0) = false := by simpa using t0
  have d1 : decide (27 < op) = false := by simpa using t1
  have d2 : decide (a < 0) = false := by simpa using t2
  have d3 : decide (15 < a) = false := by simpa using t3
  have d4 : decide (b < 0) = false := by simpa using t4
  have d5 : decide (15 < b) = false := by simpa using t5
  have d6 : decide (imm < 0) = true := by simpa using t6
  go_enter Tryd.func39, Tryd.ntmps39
  go_wp2
  go_ret
  exact ⟨rfl, (Below.refl _ _).alloc (Nat.le_refl _) _⟩
set_option maxHeartbeats 1000000 in
theorem rright_out7 (op a b imm : Int) (w : World) (t0 : ¬ op < 0) (t1 : ¬ 27 < op) (t2 : ¬ a < 0) (t3 : ¬ 15 < a) (t4 : ¬ b < 0) (t5 : ¬ 15 < b) (t6 : ¬ imm < 0) (t7 : 65535 < imm) :
    Calls Tryd.prog 39 #[.agg #[.int .i64 op, .int .i64 a, .int .i64 b, .int .i64 imm]] w fun e w' => e = .returned (.bool false) ∧ Below w.heap.size w w' := by
  have d0 : decide (op < 0) = false := by simpa using t0
  have d1 : decide (27 < op) = false := by simpa using t1
  have d2 : decide (a < 0) = false := by simpa using t2
  have d3 : decide (15 < a) = false := by simpa using t3
  have d4 : decide (b < 0) = false := by simpa using t4
  have d5 : decide (15 < b) = false := by simpa using t5
  have d6 : decide (imm < 0) = false := by simpa using t6
  have d7 : decide (65535 < imm) = true := by simpa using t7
  go_enter Tryd.func39, Tryd.ntmps39
  go_wp2
  go_ret
  exact ⟨rfl, (Below.refl _ _).alloc (Nat.le_refl _) _⟩
set_option maxHeartbeats 2000000 in
theorem rright_ff0_0 (k : Nat) (a b imm : Int) (w : World) (hk : k < 28) (a0 : 0 ≤ a) (a1 : a ≤ 15) (b0 : 0 ≤ b) (b1 : b ≤ 15) (i0 : 0 ≤ imm) (i1 : imm ≤ 65535) (hA : opA k = false) (hB : opB k = false) (hI : opI k = 0) (e0 : ¬ a = 0) :
    Calls Tryd.prog 39 #[.agg #[.int .i64 k, .int .i64 a, .int .i64 b, .int .i64 imm]] w fun e w' => e = .returned (.bool false) ∧ Below w.heap.size w w' := by
  have d0 : decide ((k : Int) < 0) = false := by simp
  have d1 : decide ((27 : Int) < k) = false := by simp; omega
  have d2 : decide (a < 0) = false := by simpa using a0
  have d3 : decide (15 < a) = false := by simpa using a1
  have d4 : decide (b < 0) = false := by simpa using b0
  have d5 : decide (15 < b) = false := by simpa using b1
  have d6 : decide (imm < 0) = false := by simpa using i0
  have d7 : decide (65535 < imm) = false := by simpa using i1
  have g0 : (a == 0) = false := by simpa using e0
  go_enter Tryd.func39, Tryd.ntmps39
  go_wp2_with (go_at_call 52; refine (uses_any _ _ hk).mono ?_; rintro e w' ⟨rfl, rfl⟩; rw [hA, hB, hI])
  go_ret
  exact ⟨rfl, (Below.refl _ _).alloc (Nat.le_refl _) _⟩
set_option maxHeartbeats 2000000 in
theorem rright_ff0_1 (k : Nat) (a b imm : Int) (w : World) (hk : k < 28) (a0 : 0 ≤ a) (a1 : a ≤ 15) (b0 : 0 ≤ b) (b1 : b ≤ 15) (i0 : 0 ≤ imm) (i1 : imm ≤ 65535) (hA : opA k = false) (hB : opB k = false) (hI : opI k = 0) (e0 : a = 0) (e1 : ¬ b = 0) :
    Calls Tryd.prog 39 #[.agg #[.int .i64 k, .int .i64 a, .int .i64 b, .int .i64 imm]] w fun e w' => e = .returned (.bool false) ∧ Below w.heap.size w w' := by
  have d0 : decide ((k : Int) < 0) = false := by simp
  have d1 : decide ((27 : Int) < k) = false := by simp; omega
  have d2 : decide (a < 0) = false := by simpa using a0
  have d3 : decide (15 < a) = false := by simpa using a1
  have d4 : decide (b < 0) = false := by simpa using b0
  have d5 : decide (15 < b) = false := by simpa using b1
  have d6 : decide (imm < 0) = false := by simpa using i0
  have d7 : decide (65535 < imm) = false := by simpa using i1
  subst e0
  have g1 : (b == 0) = false := by simpa using e1
  go_enter Tryd.func39, Tryd.ntmps39
  go_wp2_with (go_at_call 52; refine (uses_any _ _ hk).mono ?_; rintro e w' ⟨rfl, rfl⟩; rw [hA, hB, hI])
  go_ret
  exact ⟨rfl, (Below.refl _ _).alloc (Nat.le_refl _) _⟩
set_option maxHeartbeats 2000000 in
theorem rright_ff0_2 (k : Nat) (a b imm : Int) (w : World) (hk : k < 28) (a0 : 0 ≤ a) (a1 : a ≤ 15) (b0 : 0 ≤ b) (b1 : b ≤ 15) (i0 : 0 ≤ imm) (i1 : imm ≤ 65535) (hA : opA k = false) (hB : opB k = false) (hI : opI k = 0) (e0 : a = 0) (e1 : b = 0) (e2 : ¬ imm = 0) :
    Calls Tryd.prog 39 #[.agg #[.int .i64 k, .int .i64 a, .int .i64 b, .int .i64 imm]] w fun e w' => e = .returned (.bool false) ∧ Below w.heap.size w w' := by
  have d0 : decide ((k : Int) < 0) = false := by simp
  have d1 : decide ((27 : Int) < k) = false := by simp; omega
  have d2 : decide (a < 0) = false := by simpa using a0
  have d3 : decide (15 < a) = false := by simpa using a1
  have d4 : decide (b < 0) = false := by simpa using b0
  have d5 : decide (15 < b) = false := by simpa using b1
  have d6 : decide (imm < 0) = false := by simpa using i0
  have d7 : decide (65535 < imm) = false := by simpa using i1
  subst e0
  subst e1
  have g2 : (imm == 0) = false := by simpa using e2
  go_enter Tryd.func39, Tryd.ntmps39
  go_wp2_with (go_at_call 52; refine (uses_any _ _ hk).mono ?_; rintro e w' ⟨rfl, rfl⟩; rw [hA, hB, hI])
  go_ret
  exact ⟨rfl, (Below.refl _ _).alloc (Nat.le_refl _) _⟩
set_option maxHeartbeats 2000000 in
theorem rright_ff0_3 (k : Nat) (a b imm : Int) (w : World) (hk : k < 28) (a0 : 0 ≤ a) (a1 : a ≤ 15) (b0 : 0 ≤ b) (b1 : b ≤ 15) (i0 : 0 ≤ imm) (i1 : imm ≤ 65535) (hA : opA k = false) (hB : opB k = false) (hI : opI k = 0) (e0 : a = 0) (e1 : b = 0) (e2 : imm = 0) :
    Calls Tryd.prog 39 #[.agg #[.int .i64 k, .int .i64 a, .int .i64 b, .int .i64 imm]] w fun e w' => e = .returned (.bool true) ∧ Below w.heap.size w w' := by
  have d0 : decide ((k : Int) < 0) = false := by simp
  have d1 : decide ((27 : Int) < k) = false := by simp; omega
  have d2 : decide (a < 0) = false := by simpa using a0
  have d3 : decide (15 < a) = false := by simpa using a1
  have d4 : decide (b < 0) = false := by simpa using b0
  have d5 : decide (15 < b) = false := by simpa using b1
  have d6 : decide (imm < 0) = false := by simpa using i0
  have d7 : decide (65535 < imm) = false := by simpa using i1
  subst e0
  subst e1
  subst e2
  go_enter Tryd.func39, Tryd.ntmps39
  go_wp2_with (go_at_call 52; refine (uses_any _ _ hk).mono ?_; rintro e w' ⟨rfl, rfl⟩; rw [hA, hB, hI])
  go_ret
  exact ⟨rfl, (Below.refl _ _).alloc (Nat.le_refl _) _⟩
set_option maxHeartbeats 2000000 in
theorem rright_ff1_0 (k : Nat) (a b imm : Int) (w : World) (hk : k < 28) (a0 : 0 ≤ a) (a1 : a ≤ 15) (b0 : 0 ≤ b) (b1 : b ≤ 15) (i0 : 0 ≤ imm) (i1 : imm ≤ 65535) (hA : opA k = false) (hB : opB k = false) (hI : opI k = 1) (e0 : ¬ a = 0) :
    Calls Tryd.prog 39 #[.agg #[.int .i64 k, .int .i64 a, .int .i64 b, .int .i64 imm]] w fun e w' => e = .returned (.bool false) ∧ Below w.heap.size w w' := by
  have d0 : decide ((k : Int) < 0) = false := by simp
  have d1 : decide ((27 : Int) < k) = false := by simp; omega
  have d2 : decide (a < 0) = false := by simpa using a0
  have d3 : decide (15 < a) = false := by simpa using a1
  have d4 : decide (b < 0) = false := by simpa using b0
  have d5 : decide (15 < b) = false := by simpa using b1
  have d6 : decide (imm < 0) = false := by simpa using i0
  have d7 : decide (65535 < imm) = false := by simpa using i1
  have g0 : (a == 0) = false := by simpa using e0
  go_enter Tryd.func39, Tryd.ntmps39
  go_wp2_with (go_at_call 52; refine (uses_any _ _ hk).mono ?_; rintro e w' ⟨rfl, rfl⟩; rw [hA, hB, hI])
  go_ret
  exact ⟨rfl, (Below.refl _ _).alloc (Nat.le_refl _) _⟩
set_option maxHeartbeats 2000000 in
theorem rright_ff1_1 (k : Nat) (a b imm : Int) (w : World) (hk : k < 28) (a0 : 0 ≤ a) (a1 : a ≤ 15) (b0 : 0 ≤ b) (b1 : b ≤ 15) (i0 : 0 ≤ imm) (i1 : imm ≤ 65535) (hA : opA k = false) (hB : opB k = false) (hI : opI k = 1) (e0 : a = 0) (e1 : ¬ b = 0) :
    Calls Tryd.prog 39 #[.agg #[.int .i64 k, .int .i64 a, .int .i64 b, .int .i64 imm]] w fun e w' => e = .returned (.bool false) ∧ Below w.heap.size w w' := by
  have d0 : decide ((k : Int) < 0) = false := by simp
  have d1 : decide ((27 : Int) < k) = false := by simp; omega
  have d2 : decide (a < 0) = false := by simpa using a0
  have d3 : decide (15 < a) = false := by simpa using a1
  have d4 : decide (b < 0) = false := by simpa using b0
  have d5 : decide (15 < b) = false := by simpa using b1
  have d6 : decide (imm < 0) = false := by simpa using i0
  have d7 : decide (65535 < imm) = false := by simpa using i1
  subst e0
  have g1 : (b == 0) = false := by simpa using e1
  go_enter Tryd.func39, Tryd.ntmps39
  go_wp2_with (go_at_call 52; refine (uses_any _ _ hk).mono ?_; rintro e w' ⟨rfl, rfl⟩; rw [hA, hB, hI])
  go_ret
  exact ⟨rfl, (Below.refl _ _).alloc (Nat.le_refl _) _⟩
set_option maxHeartbeats 2000000 in
theorem rright_ff1_2 (k : Nat) (a b imm : Int) (w : World) (hk : k < 28) (a0 : 0 ≤ a) (a1 : a ≤ 15) (b0 : 0 ≤ b) (b1 : b ≤ 15) (i0 : 0 ≤ imm) (i1 : imm ≤ 65535) (hA : opA k = false) (hB : opB k = false) (hI : opI k = 1) (e0 : a = 0) (e1 : b = 0) :
    Calls Tryd.prog 39 #[.agg #[.int .i64 k, .int .i64 a, .int .i64 b, .int .i64 imm]] w fun e w' => e = .returned (.bool true) ∧ Below w.heap.size w w' := by
  have d0 : decide ((k : Int) < 0) = false := by simp
  have d1 : decide ((27 : Int) < k) = false := by simp; omega
  have d2 : decide (a < 0) = false := by simpa using a0
  have d3 : decide (15 < a) = false := by simpa using a1
  have d4 : decide (b < 0) = false := by simpa using b0
  have d5 : decide (15 < b) = false := by simpa using b1
  have d6 : decide (imm < 0) = false := by simpa using i0
  have d7 : decide (65535 < imm) = false := by simpa using i1
  subst e0
  subst e1
  go_enter Tryd.func39, Tryd.ntmps39
  go_wp2_with (go_at_call 52; refine (uses_any _ _ hk).mono ?_; rintro e w' ⟨rfl, rfl⟩; rw [hA, hB, hI])
  go_ret
  exact ⟨rfl, (Below.refl _ _).alloc (Nat.le_refl _) _⟩
set_option maxHeartbeats 2000000 in
theorem rright_tf0_0 (k : Nat) (a b imm : Int) (w : World) (hk : k < 28) (a0 : 0 ≤ a) (a1 : a ≤ 15) (b0 : 0 ≤ b) (b1 : b ≤ 15) (i0 : 0 ≤ imm) (i1 : imm ≤ 65535) (hA : opA k = true) (hB : opB k = false) (hI : opI k = 0) (e0 : ¬ b = 0) :
    Calls Tryd.prog 39 #[.agg #[.int .i64 k, .int .i64 a, .int .i64 b, .int .i64 imm]] w fun e w' => e = .returned (.bool false) ∧ Below w.heap.size w w' := by
  have d0 : decide ((k : Int) < 0) = false := by simp
  have d1 : decide ((27 : Int) < k) = false := by simp; omega
  have d2 : decide (a < 0) = false := by simpa using a0
  have d3 : decide (15 < a) = false := by simpa using a1
  have d4 : decide (b < 0) = false := by simpa using b0
  have d5 : decide (15 < b) = false := by simpa using b1
  have d6 : decide (imm < 0) = false := by simpa using i0
  have d7 : decide (65535 < imm) = false := by simpa using i1
  have g0 : (b == 0) = false := by simpa using e0
  go_enter Tryd.func39, Tryd.ntmps39
  go_wp2_with (go_at_call 52; refine (uses_any _ _ hk).mono ?_; rintro e w' ⟨rfl, rfl⟩; rw [hA, hB, hI])
  go_ret
  exact ⟨rfl, (Below.refl _ _).alloc (Nat.le_refl _) _⟩
set_option maxHeartbeats 2000000 in
theorem rright_tf0_1 (k : Nat) (a b imm : Int) (w : World) (hk : k < 28) (a0 : 0 ≤ a) (a1 : a ≤ 15) (b0 : 0 ≤ b) (b1 : b ≤ 15) (i0 : 0 ≤ imm) (i1 : imm ≤ 65535) (hA : opA k = true) (hB : opB k = false) (hI : opI k = 0) (e0 : b = 0) (e1 : ¬ imm = 0) :
    Calls Tryd.prog 39 #[.agg #[.int .i64 k, .int .i64 a, .int .i64 b, .int .i64 imm]] w fun e w' => e = .returned (.bool false) ∧ Below w.heap.size w w' := by
  have d0 : decide ((k : Int) < 0) = false := by simp
  have d1 : decide ((27 : Int) < k) = false := by simp; omega
  have d2 : decide (a < 0) = false := by simpa using a0
  have d3 : decide (15 < a) = false := by simpa using a1
  have d4 : decide (b < 0) = false := by simpa using b0
  have d5 : decide (15 < b) = false := by simpa using b1
  have d6 : decide (imm < 0) = false := by simpa using i0
  have d7 : decide (65535 < imm) = false := by simpa using i1
  subst e0
  have g1 : (imm == 0) = false := by simpa using e1
  go_enter Tryd.func39, Tryd.ntmps39
  go_wp2_with (go_at_call 52; refine (uses_any _ _ hk).mono ?_; rintro e w' ⟨rfl, rfl⟩; rw [hA, hB, hI])
  go_ret
  exact ⟨rfl, (Below.refl _ _).alloc (Nat.le_refl _) _⟩
set_option maxHeartbeats 2000000 in
theorem rright_tf0_2 (k : Nat) (a b imm : Int) (w : World) (hk : k < 28) (a0 : 0 ≤ a) (a1 : a ≤ 15) (b0 : 0 ≤ b) (b1 : b ≤ 15) (i0 : 0 ≤ imm) (i1 : imm ≤ 65535) (hA : opA k = true) (hB : opB k = false) (hI : opI k = 0) (e0 : b = 0) (e1 : imm = 0) :
    Calls Tryd.prog 39 #[.agg #[.int .i64 k, .int .i64 a, .int .i64 b, .int .i64 imm]] w fun e w' => e = .returned (.bool true) ∧ Below w.heap.size w w' := by
  have d0 : decide ((k : Int) < 0) = false := by simp
  have d1 : decide ((27 : Int) < k) = false := by simp; omega
  have d2 : decide (a < 0) = false := by simpa using a0
  have d3 : decide (15 < a) = false := by simpa using a1
  have d4 : decide (b < 0) = false := by simpa using b0
  have d5 : decide (15 < b) = false := by simpa using b1
  have d6 : decide (imm < 0) = false := by simpa using i0
  have d7 : decide (65535 < imm) = false := by simpa using i1
  subst e0
  subst e1
  go_enter Tryd.func39, Tryd.ntmps39
  go_wp2_with (go_at_call 52; refine (uses_any _ _ hk).mono ?_; rintro e w' ⟨rfl, rfl⟩; rw [hA, hB, hI])
  go_ret
  exact ⟨rfl, (Below.refl _ _).alloc (Nat.le_refl _) _⟩
set_option maxHeartbeats 2000000 in
theorem rright_tf1_0 (k : Nat) (a b imm : Int) (w : World) (hk : k < 28) (a0 : 0 ≤ a) (a1 : a ≤ 15) (b0 : 0 ≤ b) (b1 : b ≤ 15) (i0 : 0 ≤ imm) (i1 : imm ≤ 65535) (hA : opA k = true) (hB : opB k = false) (hI : opI k = 1) (e0 : ¬ b = 0) :
    Calls Tryd.prog 39 #[.agg #[.int .i64 k, .int .i64 a, .int .i64 b, .int .i64 imm]] w fun e w' => e = .returned (.bool false) ∧ Below w.heap.size w w' := by
  have d0 : decide ((k : Int) < 0) = false := by simp
  have d1 : decide ((27 : Int) < k) = false := by simp; omega
  have d2 : decide (a < 0) = false := by simpa using a0
  have d3 : decide (15 < a) = false := by simpa using a1
  have d4 : decide (b < 0) = false := by simpa using b0
  have d5 : decide (15 < b) = false := by simpa using b1
  have d6 : decide (imm < 0) = false := by simpa using i0
  have d7 : decide (65535 < imm) = false := by simpa using i1
  have g0 : (b == 0) = false := by simpa using e0
  go_enter Tryd.func39, Tryd.ntmps39
  go_wp2_with (go_at_call 52; refine (uses_any _ _ hk).mono ?_; rintro e w' ⟨rfl, rfl⟩; rw [hA, hB, hI])
  go_ret
  exact ⟨rfl, (Below.refl _ _).alloc (Nat.le_refl _) _⟩
set_option maxHeartbeats 2000000 in
theorem rright_tf1_1 (k : Nat) (a b imm : Int) (w : World) (hk : k < 28) (a0 : 0 ≤ a) (a1 : a ≤ 15) (b0 : 0 ≤ b) (b1 : b ≤ 15) (i0 : 0 ≤ imm) (i1 : imm ≤ 65535) (hA : opA k = true) (hB : opB k = false) (hI : opI k = 1) (e0 : b = 0) :
    Calls Tryd.prog 39 #[.agg #[.int .i64 k, .int .i64 a, .int .i64 b, .int .i64 imm]] w fun e w' => e = .returned (.bool true) ∧ Below w.heap.size w w' := by
  have d0 : decide ((k : Int) < 0) = false := by simp
  have d1 : decide ((27 : Int) < k) = false := by simp; omega
  have d2 : decide (a < 0) = false := by simpa using a0
  have d3 : decide (15 < a) = false := by simpa using a1
  have d4 : decide (b < 0) = false := by simpa using b0
  have d5 : decide (15 < b) = false := by simpa using b1
  have d6 : decide (imm < 0) = false := by simpa using i0
  have d7 : decide (65535 < imm) = false := by simpa using i1
  subst e0
  go_enter Tryd.func39, Tryd.ntmps39
  go_wp2_with (go_at_call 52; refine (uses_any _ _ hk).mono ?_; rintro e w' ⟨rfl, rfl⟩; rw [hA, hB, hI])
  go_ret
  exact ⟨rfl, (Below.refl _ _).alloc (Nat.le_refl _) _⟩
set_option maxHeartbeats 2000000 in
theorem rright_tf3_0 (k : Nat) (a b imm : Int) (w : World) (hk : k < 28) (a0 : 0 ≤ a) (a1 : a ≤ 15) (b0 : 0 ≤ b) (b1 : b ≤ 15) (i0 : 0 ≤ imm) (i1 : imm ≤ 65535) (hA : opA k = true) (hB : opB k = false) (hI : opI k = 3) (e0 : ¬ b = 0) :
    Calls Tryd.prog 39 #[.agg #[.int .i64 k, .int .i64 a, .int .i64 b, .int .i64 imm]] w fun e w' => e = .returned (.bool false) ∧ Below w.heap.size w w' := by
  have d0 : decide ((k : Int) < 0) = false := by simp
  have d1 : decide ((27 : Int) < k) = false := by simp; omega
  have d2 : decide (a < 0) = false := by simpa using a0
  have d3 : decide (15 < a) = false := by simpa using a1
  have d4 : decide (b < 0) = false := by simpa using b0
  have d5 : decide (15 < b) = false := by simpa using b1
  have d6 : decide (imm < 0) = false := by simpa using i0
  have d7 : decide (65535 < imm) = false := by simpa using i1
  have g0 : (b == 0) = false := by simpa using e0
  go_enter Tryd.func39, Tryd.ntmps39
  go_wp2_with (go_at_call 52; refine (uses_any _ _ hk).mono ?_; rintro e w' ⟨rfl, rfl⟩; rw [hA, hB, hI])
  go_ret
  exact ⟨rfl, (Below.refl _ _).alloc (Nat.le_refl _) _⟩
set_option maxHeartbeats 2000000 in
theorem rright_tf3_1 (k : Nat) (a b imm : Int) (w : World) (hk : k < 28) (a0 : 0 ≤ a) (a1 : a ≤ 15) (b0 : 0 ≤ b) (b1 : b ≤ 15) (i0 : 0 ≤ imm) (i1 : imm ≤ 65535) (hA : opA k = true) (hB : opB k = false) (hI : opI k = 3) (e0 : b = 0) :
    Calls Tryd.prog 39 #[.agg #[.int .i64 k, .int .i64 a, .int .i64 b, .int .i64 imm]] w fun e w' => e = .returned (.bool true) ∧ Below w.heap.size w w' := by
  have d0 : decide ((k : Int) < 0) = false := by simp
  have d1 : decide ((27 : Int) < k) = false := by simp; omega
  have d2 : decide (a < 0) = false := by simpa using a0
  have d3 : decide (15 < a) = false := by simpa using a1
  have d4 : decide (b < 0) = false := by simpa using b0
  have d5 : decide (15 < b) = false := by simpa using b1
  have d6 : decide (imm < 0) = false := by simpa using i0
  have d7 : decide (65535 < imm) = false := by simpa using i1
  subst e0
  go_enter Tryd.func39, Tryd.ntmps39
  go_wp2_with (go_at_call 52; refine (uses_any _ _ hk).mono ?_; rintro e w' ⟨rfl, rfl⟩; rw [hA, hB, hI])
  go_ret
  exact ⟨rfl, (Below.refl _ _).alloc (Nat.le_refl _) _⟩
set_option maxHeartbeats 2000000 in
theorem rright_tt2_0 (k : Nat) (a b imm : Int) (w : World) (hk : k < 28) (a0 : 0 ≤ a) (a1 : a ≤ 15) (b0 : 0 ≤ b) (b1 : b ≤ 15) (i0 : 0 ≤ imm) (i1 : imm ≤ 65535) (hA : opA k = true) (hB : opB k = true) (hI : opI k = 2) (e0 : ¬ imm ≤ 15) :
    Calls Tryd.prog 39 #[.agg #[.int .i64 k, .int .i64 a, .int .i64 b, .int .i64 imm]] w fun e w' => e = .returned (.bool false) ∧ Below w.heap.size w w' := by
  have d0 : decide ((k : Int) < 0) = false := by simp
  have d1 : decide ((27 : Int) < k) = false := by simp; omega
  have d2 : decide (a < 0) = false := by simpa using a0
  have d3 : decide (15 < a) = false := by simpa using a1
  have d4 : decide (b < 0) = false := by simpa using b0
  have d5 : decide (15 < b) = false := by simpa using b1
  have d6 : decide (imm < 0) = false := by simpa using i0
  have d7 : decide (65535 < imm) = false := by simpa using i1
  have g0 : decide (imm ≤ 15) = false := by simpa using e0
  go_enter Tryd.func39, Tryd.ntmps39
  go_wp2_with (go_at_call 52; refine (uses_any _ _ hk).mono ?_; rintro e w' ⟨rfl, rfl⟩; rw [hA, hB, hI])
  go_ret
  exact ⟨rfl, (Below.refl _ _).alloc (Nat.le_refl _) _⟩
set_option maxHeartbeats 2000000 in
theorem rright_tt2_1 (k : Nat) (a b imm : Int) (w : World) (hk : k < 28) (a0 : 0 ≤ a) (a1 : a ≤ 15) (b0 : 0 ≤ b) (b1 : b ≤ 15) (i0 : 0 ≤ imm) (i1 : imm ≤ 65535) (hA : opA k = true) (hB : opB k = true) (hI : opI k = 2) (e0 : imm ≤ 15) :
    Calls Tryd.prog 39 #[.agg #[.int .i64 k, .int .i64 a, .int .i64 b, .int .i64 imm]] w fun e w' => e = .returned (.bool true) ∧ Below w.heap.size w w' := by
  have d0 : decide ((k : Int) < 0) = false := by simp
  have d1 : decide ((27 : Int) < k) = false := by simp; omega
  have d2 : decide (a < 0) = false := by simpa using a0
  have d3 : decide (15 < a) = false := by simpa using a1
  have d4 : decide (b < 0) = false := by simpa using b0
  have d5 : decide (15 < b) = false := by simpa using b1
  have d6 : decide (imm < 0) = false := by simpa using i0
  have d7 : decide (65535 < imm) = false := by simpa using i1
  have g0 : decide (imm ≤ 15) = true := by simpa using e0
  go_enter Tryd.func39, Tryd.ntmps39
  go_wp2_with (go_at_call 52; refine (uses_any _ _ hk).mono ?_; rintro e w' ⟨rfl, rfl⟩; rw [hA, hB, hI])
  go_ret
  exact ⟨rfl, (Below.refl _ _).alloc (Nat.le_refl _) _⟩
set_option maxHeartbeats 2000000 in
theorem rright_tt3_0 (k : Nat) (a b imm : Int) (w : World) (hk : k < 28) (a0 : 0 ≤ a) (a1 : a ≤ 15) (b0 : 0 ≤ b) (b1 : b ≤ 15) (i0 : 0 ≤ imm) (i1 : imm ≤ 65535) (hA : opA k = true) (hB : opB k = true) (hI : opI k = 3)  :
    Calls Tryd.prog 39 #[.agg #[.int .i64 k, .int .i64 a, .int .i64 b, .int .i64 imm]] w fun e w' => e = .returned (.bool true) ∧ Below w.heap.size w w' := by
  have d0 : decide ((k : Int) < 0) = false := by simp
  have d1 : decide ((27 : Int) < k) = false := by simp; omega
  have d2 : decide (a < 0) = false := by simpa using a0
  have d3 : decide (15 < a) = false := by simpa using a1
  have d4 : decide (b < 0) = false := by simpa using b0
  have d5 : decide (15 < b) = false := by simpa using b1
  have d6 : decide (imm < 0) = false := by simpa using i0
  have d7 : decide (65535 < imm) = false := by simpa using i1
  go_enter Tryd.func39, Tryd.ntmps39
  go_wp2_with (go_at_call 52; refine (uses_any _ _ hk).mono ?_; rintro e w' ⟨rfl, rfl⟩; rw [hA, hB, hI])
  go_ret
  exact ⟨rfl, (Below.refl _ _).alloc (Nat.le_refl _) _⟩
theorem rright_any (op a b imm : Int) (w : World) :
    Calls Tryd.prog 39 #[.agg #[.int .i64 op, .int .i64 a, .int .i64 b, .int .i64 imm]] w fun e w' => e = .returned (.bool (right op a b imm)) ∧ Below w.heap.size w w' := by
  have out : ∀ (_ : ¬ ((0 ≤ op ∧ op ≤ 27) ∧ (0 ≤ a ∧ a ≤ 15) ∧ (0 ≤ b ∧ b ≤ 15) ∧ (0 ≤ imm ∧ imm ≤ 65535))), right op a b imm = false := fun h => by
    cases hr : right op a b imm
    · rfl
    · exact absurd (right_bounds hr) h
  by_cases t0 : op < 0
  · rw [out (by omega)]; exact rright_out0 op a b imm w t0
  by_cases t1 : 27 < op
  · rw [out (by omega)]; exact rright_out1 op a b imm w t0 t1
  by_cases t2 : a < 0
  · rw [out (by omega)]; exact rright_out2 op a b imm w t0 t1 t2
  by_cases t3 : 15 < a
  · rw [out (by omega)]; exact rright_out3 op a b imm w t0 t1 t2 t3
  by_cases t4 : b < 0
  · rw [out (by omega)]; exact rright_out4 op a b imm w t0 t1 t2 t3 t4
  by_cases t5 : 15 < b
  · rw [out (by omega)]; exact rright_out5 op a b imm w t0 t1 t2 t3 t4 t5
  by_cases t6 : imm < 0
  · rw [out (by omega)]; exact rright_out6 op a b imm w t0 t1 t2 t3 t4 t5 t6
  by_cases t7 : 65535 < imm
  · rw [out (by omega)]; exact rright_out7 op a b imm w t0 t1 t2 t3 t4 t5 t6 t7
  clear out
  obtain ⟨k, rfl⟩ := Int.eq_ofNat_of_zero_le (show 0 ≤ op by omega)
  have hk : k < 28 := by omega
  have hr := right_iff k a b imm
  rw [Int.toNat_natCast] at hr
  rcases combos k hk with ⟨hA, hB, hI | hI⟩ | ⟨hA, hB, hI | hI | hI⟩ | ⟨hA, hB, hI | hI⟩ <;> simp only [hA, hB, hI, mreg, mimm] at hr <;> simp at hr
  · by_cases e0 : a = 0
    rotate_left
    · have : right k a b imm = false := by
        cases hq : right k a b imm
        · rfl
        · have := hr.1 hq; omega
      rw [this]; exact rright_ff0_0 k a b imm w hk (by omega) (by omega) (by omega) (by omega) (by omega) (by omega) hA hB hI e0
    by_cases e1 : b = 0
    rotate_left
    · have : right k a b imm = false := by
        cases hq : right k a b imm
        · rfl
        · have := hr.1 hq; omega
      rw [this]; exact rright_ff0_1 k a b imm w hk (by omega) (by omega) (by omega) (by omega) (by omega) (by omega) hA hB hI e0 e1
    by_cases e2 : imm = 0
    rotate_left
    · have : right k a b imm = false := by
        cases hq : right k a b imm
        · rfl
        · have := hr.1 hq; omega
      rw [this]; exact rright_ff0_2 k a b imm w hk (by omega) (by omega) (by omega) (by omega) (by omega) (by omega) hA hB hI e0 e1 e2
    rw [hr.2 (by omega)]; exact rright_ff0_3 k a b imm w hk (by omega) (by omega) (by omega) (by omega) (by omega) (by omega) hA hB hI e0 e1 e2
  · by_cases e0 : a = 0
    rotate_left
    · have : right k a b imm = false := by
        cases hq : right k a b imm
        · rfl
        · have := hr.1 hq; omega
      rw [this]; exact rright_ff1_0 k a b imm w hk (by omega) (by omega) (by omega) (by omega) (by omega) (by omega) hA hB hI e0
    by_cases e1 : b = 0
    rotate_left
    · have : right k a b imm = false := by
        cases hq : right k a b imm
        · rfl
        · have := hr.1 hq; omega
      rw [this]; exact rright_ff1_1 k a b imm w hk (by omega) (by omega) (by omega) (by omega) (by omega) (by omega) hA hB hI e0 e1
    rw [hr.2 (by omega)]; exact rright_ff1_2 k a b imm w hk (by omega) (by omega) (by omega) (by omega) (by omega) (by omega) hA hB hI e0 e1
  · by_cases e0 : b = 0
    rotate_left
    · have : right k a b imm = false := by
        cases hq : right k a b imm
        · rfl
        · have := hr.1 hq; omega
      rw [this]; exact rright_tf0_0 k a b imm w hk (by omega) (by omega) (by omega) (by omega) (by omega) (by omega) hA hB hI e0
    by_cases e1 : imm = 0
    rotate_left
    · have : right k a b imm = false := by
        cases hq : right k a b imm
        · rfl
        · have := hr.1 hq; omega
      rw [this]; exact rright_tf0_1 k a b imm w hk (by omega) (by omega) (by omega) (by omega) (by omega) (by omega) hA hB hI e0 e1
    rw [hr.2 (by omega)]; exact rright_tf0_2 k a b imm w hk (by omega) (by omega) (by omega) (by omega) (by omega) (by omega) hA hB hI e0 e1
  · by_cases e0 : b = 0
    rotate_left
    · have : right k a b imm = false := by
        cases hq : right k a b imm
        · rfl
        · have := hr.1 hq; omega
      rw [this]; exact rright_tf1_0 k a b imm w hk (by omega) (by omega) (by omega) (by omega) (by omega) (by omega) hA hB hI e0
    rw [hr.2 (by omega)]; exact rright_tf1_1 k a b imm w hk (by omega) (by omega) (by omega) (by omega) (by omega) (by omega) hA hB hI e0
  · by_cases e0 : b = 0
    rotate_left
    · have : right k a b imm = false := by
        cases hq : right k a b imm
        · rfl
        · have := hr.1 hq; omega
      rw [this]; exact rright_tf3_0 k a b imm w hk (by omega) (by omega) (by omega) (by omega) (by omega) (by omega) hA hB hI e0
    rw [hr.2 (by omega)]; exact rright_tf3_1 k a b imm w hk (by omega) (by omega) (by omega) (by omega) (by omega) (by omega) hA hB hI e0
  · by_cases e0 : imm ≤ 15
    rotate_left
    · have : right k a b imm = false := by
        cases hq : right k a b imm
        · rfl
        · have := hr.1 hq; omega
      rw [this]; exact rright_tt2_0 k a b imm w hk (by omega) (by omega) (by omega) (by omega) (by omega) (by omega) hA hB hI e0
    rw [hr.2 (by omega)]; exact rright_tt2_1 k a b imm w hk (by omega) (by omega) (by omega) (by omega) (by omega) (by omega) hA hB hI e0
  · rw [hr.2 (by omega)]; exact rright_tt3_0 k a b imm w hk (by omega) (by omega) (by omega) (by omega) (by omega) (by omega) hA hB hI 
end Go.Proofs.YtlfhcnpbgbnadaaDoor
