/-
  What layer 2 (isa) computes, as plain functions on numbers and bytes; no condition, no program in sight.
-/
import Derived.KernelRfl
import Derived.Lib.Itoa
namespace Go.Proofs.YtlfhcnpbgbnadaaDoor
namespace Isa

/-- An operation's word, whether it uses A and B, and what it takes the Imm for. -/
def tab : List (List UInt8 × Bool × Bool × Nat) := [([110, 111, 112], false, false, 0), ([108, 105], true, false, 1), ([108, 117, 105], true, false, 1), ([97, 100, 100], true, true, 2), ([115, 117, 98], true, true, 2), ([97, 110, 100], true, true, 2), ([111, 114], true, true, 2), ([120, 111, 114], true, true, 2), ([115, 104, 108], true, true, 2), ([115, 104, 114], true, true, 2), ([109, 117, 108], true, true, 2), ([97, 100, 100, 105], true, true, 3), ([108, 100], true, true, 3), ([115, 116], true, true, 3), ([108, 100, 98], true, true, 3), ([115, 116, 98], true, true, 3), ([98, 101, 113], true, true, 3), ([98, 110, 101], true, true, 3), ([98, 108, 116], true, true, 3), ([106, 97, 108], true, false, 3), ([106, 114], true, false, 0), ([104, 118, 99], false, false, 1), ([119, 102, 105], false, false, 0), ([99, 108, 107], true, false, 0), ([109, 115, 114], true, false, 1), ([109, 114, 115], true, false, 1), ([101, 114, 101, 116], false, false, 0), ([104, 97, 108, 116], false, false, 0)]
def row (k : Nat) : List UInt8 × Bool × Bool × Nat := tab.getD k ([], false, false, 0)
def opN (k : Nat) : List UInt8 := (row k).1
def opA (k : Nat) : Bool := (row k).2.1
def opB (k : Nat) : Bool := (row k).2.2.1
def opI (k : Nat) : Nat := (row k).2.2.2
/-- An operation's word, as a Go string. -/
def opS (k : Nat) : ByteArray := ⟨(opN k).toArray⟩

def withB (n m : Int) : Bool := decide (0 ≤ n) && decide (n ≤ m)
def mreg (b : Bool) : Int := if b then 15 else 0
def mimm (k : Nat) : Int := if k = 1 ∨ k = 3 then 65535 else if k = 2 then 15 else 0
/-- Is it an instruction as told? -/
def right (op a b imm : Int) : Bool := withB op 27 && (withB a (mreg (opA op.toNat)) && (withB b (mreg (opB op.toNat)) && withB imm (mimm (opI op.toNat))))

theorem withB_iff (n m : Int) : withB n m = true ↔ 0 ≤ n ∧ n ≤ m := by simp [withB]
theorem withB_no (n m : Int) : withB n m = false ↔ ¬ (0 ≤ n ∧ n ≤ m) := by rw [← withB_iff]; simp
theorem mreg_le (b : Bool) : 0 ≤ mreg b ∧ mreg b ≤ 15 := by cases b <;> decide
theorem mimm_le (k : Nat) : 0 ≤ mimm k ∧ mimm k ≤ 65535 := by unfold mimm; split; decide; split <;> decide
theorem right_iff (op a b imm : Int) : right op a b imm = true ↔ (0 ≤ op ∧ op ≤ 27) ∧ (0 ≤ a ∧ a ≤ mreg (opA op.toNat)) ∧ (0 ≤ b ∧ b ≤ mreg (opB op.toNat)) ∧ (0 ≤ imm ∧ imm ≤ mimm (opI op.toNat)) := by
  unfold right
  simp only [Bool.and_eq_true, withB_iff]
/-- An instruction's word. -/
def enc (op a b imm : Int) : Int := op + 256 * a + 4096 * b + 65536 * imm
theorem right_bounds {op a b imm : Int} (h : right op a b imm = true) : (0 ≤ op ∧ op ≤ 27) ∧ (0 ≤ a ∧ a ≤ 15) ∧ (0 ≤ b ∧ b ≤ 15) ∧ (0 ≤ imm ∧ imm ≤ 65535) := by
  rw [right_iff] at h
  have := mreg_le (opA op.toNat); have := mreg_le (opB op.toNat); have := mimm_le (opI op.toNat)
  omega
theorem opI_le (k : Nat) : opI k ≤ 3 := by
  unfold opI row
  by_cases h : k < 28
  · have : k ∈ List.range 28 := by simpa using h
    revert this; revert k; decide
  · rw [show tab.getD k ([], false, false, 0) = ([], false, false, 0) from by
      rw [List.getD_eq_getElem?_getD, List.getElem?_eq_none (by simp [tab]; omega)]; rfl]
    decide
end Isa
end Go.Proofs.YtlfhcnpbgbnadaaDoor
