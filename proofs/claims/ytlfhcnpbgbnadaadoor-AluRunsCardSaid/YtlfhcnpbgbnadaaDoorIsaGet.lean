/-
  What Four and the document's own Get do, at every argument of at most 2,000 bytes.
-/
import Derived.Test.YtlfhcnpbgbnadaaDoorIsaBytes
namespace Go.Proofs.YtlfhcnpbgbnadaaDoor.Wd
open Go.RowKit

/-- The document's own Get. -/
theorem rget_no (a : Option Addr) (len cap : Nat) (i : Int) (w : World) (h : ¬ (0 ≤ i ∧ i ≤ len - 4)) (hl : len ≤ 2000) :
    Calls Tryd.prog 30 #[.slice a len cap, .int .i64 i] w fun e w' => e = .returned (.tuple #[.int .u32 0, .bool false]) ∧ w = w' := by
  by_cases h0 : i < 0
  · have d : decide (i < 0) = true := by simpa using h0
    clear h
    go_enter Tryd.func30, Tryd.ntmps30
    go_wp2
    go_ret2
    exact ⟨rfl, rfl⟩
  · have d : decide (i < 0) = false := by simpa using h0
    have h1 : (len : Int) - 4 < i := by omega
    have d2 : decide ((len : Int) - 4 < i) = true := by simpa using h1
    clear h
    go_enter Tryd.func30, Tryd.ntmps30
    go_wp2
    go_ret2
    exact ⟨rfl, rfl⟩
theorem rget_yes (b off len cap : Nat) (i : Int) (z0 z1 z2 z3 : Int) (w : World) (h0 : 0 ≤ i) (h : i + 4 ≤ len) (hl : len ≤ 2000)
    (k0 : B8 z0) (k1 : B8 z1) (k2 : B8 z2) (k3 : B8 z3)
    (c0 : w.cell? ⟨b, off + i.toNat, none⟩ = some (.int .u8 z0)) (c1 : w.cell? ⟨b, off + (i.toNat + 1), none⟩ = some (.int .u8 z1))
    (c2 : w.cell? ⟨b, off + (i.toNat + 2), none⟩ = some (.int .u8 z2)) (c3 : w.cell? ⟨b, off + (i.toNat + 3), none⟩ = some (.int .u8 z3)) :
    Calls Tryd.prog 30 #[.slice (some ⟨b, off, none⟩) len cap, .int .i64 i] w fun e w' => e = .returned (.tuple #[.int .u32 (word4 z0 z1 z2 z3), .bool true]) ∧ w = w' := by
  obtain ⟨i, rfl⟩ := Int.eq_ofNat_of_zero_le h0
  rw [Int.toNat_natCast] at c0 c1 c2 c3
  obtain ⟨a0, b0⟩ := k0; obtain ⟨a1, b1⟩ := k1; obtain ⟨a2, b2⟩ := k2; obtain ⟨a3, b3⟩ := k3
  have d : decide ((i : Int) < 0) = false := by simp
  have d2 : decide ((len : Int) - 4 < (i : Int)) = false := by simp; omega
  go_enter Tryd.func30, Tryd.ntmps30
  go_wp2
  go_loop [6, 7] (fun t j => (t = .int .u32 0 ∧ j = .int .i64 3) ∨ (t = .int .u32 z3 ∧ j = .int .i64 2) ∨ (t = .int .u32 (z3 * 256 + z2) ∧ j = .int .i64 1) ∨ (t = .int .u32 ((z3 * 256 + z2) * 256 + z1) ∧ j = .int .i64 0) ∨ (t = .int .u32 (((z3 * 256 + z2) * 256 + z1) * 256 + z0) ∧ j = .int .i64 (-1))) (fun _ j => (intOf j + 1).toNat)
  case atStart => exact Or.inl ⟨rfl, rfl⟩
  case round =>
    rcases hrel with ⟨rfl, rfl⟩ | ⟨rfl, rfl⟩ | ⟨rfl, rfl⟩ | ⟨rfl, rfl⟩ | ⟨rfl, rfl⟩
    · go_wp2
      go_round
      case rel => exact Or.inr (Or.inl ⟨rfl, rfl⟩)
      case measure => simp [intOf]
    · go_wp2
      go_round
      case rel => exact Or.inr (Or.inr (Or.inl ⟨rfl, rfl⟩))
      case measure => simp [intOf]
    · go_wp2
      go_round
      case rel => exact Or.inr (Or.inr (Or.inr (Or.inl ⟨rfl, rfl⟩)))
      case measure => simp [intOf]
    · go_wp2
      go_round
      case rel => exact Or.inr (Or.inr (Or.inr (Or.inr ⟨rfl, rfl⟩)))
      case measure => simp [intOf]
    · go_wp2
      go_ret2
      exact ⟨ret_u32b (by unfold word4; omega), rfl⟩
end Go.Proofs.YtlfhcnpbgbnadaaDoor.Wd
