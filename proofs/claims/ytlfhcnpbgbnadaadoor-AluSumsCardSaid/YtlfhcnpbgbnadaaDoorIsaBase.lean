/-
  What isa's within, mostReg, mostImm and hasWord answer, at every argument; the condition: the table of operations lies as the program's text lays it.
-/
import Derived.Test.YtlfhcnpbgbnadaaDoorRows
import Derived.Test.YtlfhcnpbgbnadaaDoorIsaSpec
import Derived.WalkKit
import Derived.WalkSpells
import Derived.WalkLawsBesides
import Derived.Outline
import Derived.Deep.QuietTactic
import Derived.BigQuiet
import Derived.IntWalk
import Derived.Below
import Derived.Lib.Hide
namespace Go.Proofs.YtlfhcnpbgbnadaaDoor
open Go.RowKit Isa

/-- The table's row of one operation lies in the world. -/
def OpAt (w : World) (k : Nat) : Prop :=
  w.cell? ⟨0, k * 4, none⟩ = some (.string (opS k)) ∧ w.cell? ⟨0, k * 4 + 1, none⟩ = some (.bool (opA k)) ∧
  w.cell? ⟨0, k * 4 + 2, none⟩ = some (.bool (opB k)) ∧ w.cell? ⟨0, k * 4 + 3, none⟩ = some (.int .i64 (opI k))
/-- The table of operations lies in the world. -/
def OpsIn (w : World) : Prop := ∀ k, k < 28 → OpAt w k
theorem OpsIn.kept {w w' : World} (h : OpsIn w) (hb : Below w.heap.size w w') : OpsIn w' := by
  intro k hk
  obtain ⟨c0, c1, c2, c3⟩ := h k hk
  have l := World.block_lt_of_cell? _ _ c0
  exact ⟨(hb.cell (p := ⟨_, _, none⟩) l).trans c0, (hb.cell (p := ⟨_, k * 4 + 1, none⟩) l).trans c1, (hb.cell (p := ⟨_, k * 4 + 2, none⟩) l).trans c2, (hb.cell (p := ⟨_, k * 4 + 3, none⟩) l).trans c3⟩

theorem within_any (n m : Int) (w : World) :
    Calls Tryd.prog 48 #[.int .i64 n, .int .i64 m] w fun e w' => e = .returned (.bool (withB n m)) ∧ w = w' := by
  by_cases h : 0 ≤ n
  · by_cases h2 : n ≤ m
    · have hr := Lib.hid ((withB_iff n m).2 ⟨h, h2⟩)
      go_enter Tryd.func48, Tryd.ntmps48
      go_wp2
      go_ret
      exact ⟨by rw [hr.out]; rfl, rfl⟩
    · have hr := Lib.hid ((withB_no n m).2 (by omega))
      have h5 : decide (n ≤ m) = false := by simpa using h2
      go_enter Tryd.func48, Tryd.ntmps48
      go_wp2
      go_ret
      exact ⟨by rw [hr.out]; rfl, rfl⟩
  · have hr := Lib.hid ((withB_no n m).2 (by omega))
    have h5 : decide (0 ≤ n) = false := by simpa using h
    go_enter Tryd.func48, Tryd.ntmps48
    go_wp2
    go_ret
    exact ⟨by rw [hr.out]; rfl, rfl⟩
theorem mostReg_any (b : Bool) (w : World) :
    Calls Tryd.prog 49 #[.bool b] w fun e w' => e = .returned (.int .i64 (mreg b)) ∧ w = w' := by
  cases b
  all_goals
    go_enter Tryd.func49, Tryd.ntmps49
    go_wp2
    go_ret
    exact ⟨rfl, rfl⟩
theorem mostImm_any (k : Nat) (w : World) (h : k ≤ 3) :
    Calls Tryd.prog 50 #[.int .i64 k] w fun e w' => e = .returned (.int .i64 (mimm k)) ∧ w = w' := by
  have : k = 0 ∨ k = 1 ∨ k = 2 ∨ k = 3 := by omega
  rcases this with rfl | rfl | rfl | rfl
  all_goals
    go_enter Tryd.func50, Tryd.ntmps50
    go_wp2
    go_ret
    exact ⟨rfl, rfl⟩
theorem hasWord_low (op a b imm : Int) (w : World) (h : withB op 27 = false) :
    Calls Tryd.prog 33 #[.agg #[.int .i64 op, .int .i64 a, .int .i64 b, .int .i64 imm]] w fun e w' => e = .returned (.bool false) ∧ Below w.heap.size w w' := by
  go_enter Tryd.func33, Tryd.ntmps33
  go_wp2_with (go_at_call 48; refine (within_any _ _ _).mono ?_; rintro e w' ⟨rfl, rfl⟩)
  go_ret
  exact ⟨rfl, (Below.refl _ _).alloc (Nat.le_refl _) _⟩
theorem below_drewN {B : Nat} {w w' : World} (h : Below B w w') (k : Nat) : Below B w (w'.drewN k) := h.trans ⟨rfl, rfl, rfl, Nat.le_refl _, fun _ _ => rfl⟩
set_option maxHeartbeats 1000000 in
theorem hasWord_a (k : Nat) (a b imm : Int) (w : World) (hk : k < 28) (hO : OpAt w k) (ha : withB a (mreg (opA k)) = false) :
    Calls Tryd.prog 33 #[.agg #[.int .i64 k, .int .i64 a, .int .i64 b, .int .i64 imm]] w fun e w' => e = .returned (.bool false) ∧ Below w.heap.size w w' := by
  obtain ⟨c0, c1, c2, c3⟩ := hO
  have h0 : withB k 27 = true := by rw [withB_iff]; omega
  have hz : 0 < w.heap.size := World.block_lt_of_cell? _ _ c0
  have hI := opI_le k
  go_enter Tryd.func33, Tryd.ntmps33
  go_wp2_with (go_at_call 48; refine (within_any _ _ _).mono ?_; rintro e w' ⟨rfl, rfl⟩)
  go_quiet (first | (go_at_call 48; exact Calls.quiet_of_same ((within_any _ _ _).mono fun _ _ ⟨h, h'⟩ => ⟨h, h'.symm⟩)) | (go_at_call 49; exact Calls.quiet_of_same ((mostReg_any _ _).mono fun _ _ ⟨h, h'⟩ => ⟨h, h'.symm⟩)) | (go_at_call 50; exact Calls.quiet_of_same ((mostImm_any _ _ hI).mono fun _ _ ⟨h, h'⟩ => ⟨h, h'.symm⟩)))
  go_wp2
  go_ret
  exact ⟨rfl, below_drewN (((Below.refl _ _).alloc (Nat.le_refl _) _).alloc (by simp) _) _⟩
set_option maxHeartbeats 1000000 in
theorem hasWord_b (k : Nat) (a b imm : Int) (w : World) (hk : k < 28) (hO : OpAt w k) (ha : withB a (mreg (opA k)) = true) (hb : withB b (mreg (opB k)) = false) :
    Calls Tryd.prog 33 #[.agg #[.int .i64 k, .int .i64 a, .int .i64 b, .int .i64 imm]] w fun e w' => e = .returned (.bool false) ∧ Below w.heap.size w w' := by
  obtain ⟨c0, c1, c2, c3⟩ := hO
  have h0 : withB k 27 = true := by rw [withB_iff]; omega
  have hz : 0 < w.heap.size := World.block_lt_of_cell? _ _ c0
  have hI := opI_le k
  go_enter Tryd.func33, Tryd.ntmps33
  go_wp2_with (go_at_call 48; refine (within_any _ _ _).mono ?_; rintro e w' ⟨rfl, rfl⟩)
  go_quiet (first | (go_at_call 48; exact Calls.quiet_of_same ((within_any _ _ _).mono fun _ _ ⟨h, h'⟩ => ⟨h, h'.symm⟩)) | (go_at_call 49; exact Calls.quiet_of_same ((mostReg_any _ _).mono fun _ _ ⟨h, h'⟩ => ⟨h, h'.symm⟩)) | (go_at_call 50; exact Calls.quiet_of_same ((mostImm_any _ _ hI).mono fun _ _ ⟨h, h'⟩ => ⟨h, h'.symm⟩)))
  go_wp2
  go_ret
  exact ⟨rfl, below_drewN (((Below.refl _ _).alloc (Nat.le_refl _) _).alloc (by simp) _) _⟩
set_option maxHeartbeats 1000000 in
theorem hasWord_i (k : Nat) (a b imm : Int) (w : World) (hk : k < 28) (hO : OpAt w k) (ha : withB a (mreg (opA k)) = true) (hb : withB b (mreg (opB k)) = true) (hi : withB imm (mimm (opI k)) = false) :
    Calls Tryd.prog 33 #[.agg #[.int .i64 k, .int .i64 a, .int .i64 b, .int .i64 imm]] w fun e w' => e = .returned (.bool false) ∧ Below w.heap.size w w' := by
  obtain ⟨c0, c1, c2, c3⟩ := hO
  have h0 : withB k 27 = true := by rw [withB_iff]; omega
  have hz : 0 < w.heap.size := World.block_lt_of_cell? _ _ c0
  have hI := opI_le k
  go_enter Tryd.func33, Tryd.ntmps33
  go_wp2_with (go_at_call 48; refine (within_any _ _ _).mono ?_; rintro e w' ⟨rfl, rfl⟩)
  go_quiet (first | (go_at_call 48; exact Calls.quiet_of_same ((within_any _ _ _).mono fun _ _ ⟨h, h'⟩ => ⟨h, h'.symm⟩)) | (go_at_call 49; exact Calls.quiet_of_same ((mostReg_any _ _).mono fun _ _ ⟨h, h'⟩ => ⟨h, h'.symm⟩)) | (go_at_call 50; exact Calls.quiet_of_same ((mostImm_any _ _ hI).mono fun _ _ ⟨h, h'⟩ => ⟨h, h'.symm⟩)))
  go_wp2
  go_ret
  exact ⟨rfl, below_drewN (((Below.refl _ _).alloc (Nat.le_refl _) _).alloc (by simp) _) _⟩
set_option maxHeartbeats 1000000 in
theorem hasWord_yes (k : Nat) (a b imm : Int) (w : World) (hk : k < 28) (hO : OpAt w k) (ha : withB a (mreg (opA k)) = true) (hb : withB b (mreg (opB k)) = true) (hi : withB imm (mimm (opI k)) = true) :
    Calls Tryd.prog 33 #[.agg #[.int .i64 k, .int .i64 a, .int .i64 b, .int .i64 imm]] w fun e w' => e = .returned (.bool true) ∧ Below w.heap.size w w' := by
  obtain ⟨c0, c1, c2, c3⟩ := hO
  have h0 : withB k 27 = true := by rw [withB_iff]; omega
  have hz : 0 < w.heap.size := World.block_lt_of_cell? _ _ c0
  have hI := opI_le k
  go_enter Tryd.func33, Tryd.ntmps33
  go_wp2_with (go_at_call 48; refine (within_any _ _ _).mono ?_; rintro e w' ⟨rfl, rfl⟩)
  go_quiet (first | (go_at_call 48; exact Calls.quiet_of_same ((within_any _ _ _).mono fun _ _ ⟨h, h'⟩ => ⟨h, h'.symm⟩)) | (go_at_call 49; exact Calls.quiet_of_same ((mostReg_any _ _).mono fun _ _ ⟨h, h'⟩ => ⟨h, h'.symm⟩)) | (go_at_call 50; exact Calls.quiet_of_same ((mostImm_any _ _ hI).mono fun _ _ ⟨h, h'⟩ => ⟨h, h'.symm⟩)))
  go_wp2
  go_ret
  exact ⟨rfl, below_drewN (((Below.refl _ _).alloc (Nat.le_refl _) _).alloc (by simp) _) _⟩
theorem hasW_any (op a b imm : Int) (w : World) (hO : OpsIn w) :
    Calls Tryd.prog 33 #[.agg #[.int .i64 op, .int .i64 a, .int .i64 b, .int .i64 imm]] w fun e w' => e = .returned (.bool (right op a b imm)) ∧ Below w.heap.size w w' := by
  unfold right
  cases h0 : withB op 27
  · exact hasWord_low op a b imm w h0
  · obtain ⟨g0, g1⟩ := (withB_iff _ _).1 h0
    obtain ⟨k, rfl⟩ := Int.eq_ofNat_of_zero_le g0
    rw [Int.toNat_natCast]
    cases h1 : withB a (mreg (opA k))
    · exact hasWord_a k a b imm w (by omega) (hO k (by omega)) h1
    · cases h2 : withB b (mreg (opB k))
      · exact hasWord_b k a b imm w (by omega) (hO k (by omega)) h1 h2
      · cases h3 : withB imm (mimm (opI k))
        · exact hasWord_i k a b imm w (by omega) (hO k (by omega)) h1 h2 h3
        · exact hasWord_yes k a b imm w (by omega) (hO k (by omega)) h1 h2 h3
end Go.Proofs.YtlfhcnpbgbnadaaDoor
