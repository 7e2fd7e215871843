/-
  Two entries held against each other. Conditions: none.
-/
import Derived.Test.YtcajclalpmfafaaTlRow
import Derived.Laws.StructEq
namespace Go.Proofs.Ytcajclalpmfafaa
open Go.RowKit
namespace Tl

theorem partI (xs : Array Value) (k : Nat) (a : Int) (w : World) (h : xs[k]? = some (.int .i64 a)) : (part 3 xs k).run Try.prog w = .ok (.int .i64 a) w := by
  unfold part
  rw [Sem.run_bind, Try.isAgg3]
  simp only [Result.andThen_ok, Bool.false_eq_true, if_false, h]
  rfl
theorem partB (xs : Array Value) (k : Nat) (a : Bool) (w : World) (h : xs[k]? = some (.bool a)) : (part 4 xs k).run Try.prog w = .ok (.bool a) w := by
  unfold part
  rw [Sem.run_bind, Try.isAgg4]
  simp only [Result.andThen_ok, Bool.false_eq_true, if_false, h]
  rfl
theorem equalI (a b : Int) (w : World) : (Op.equalIn 9999 3 (.int .i64 a) (.int .i64 b)).run Try.prog w = .ok (a == b) w := by
  rw [show (9999 : Nat) = 9998 + 1 from rfl, Op.equalIn]
  simp [run_underlying Try.underlying3]
theorem equalB (a b : Bool) (w : World) : (Op.equalIn 9999 4 (.bool a) (.bool b)).run Try.prog w = .ok (a == b) w := by
  rw [show (9999 : Nat) = 9998 + 1 from rfl, Op.equalIn]
  simp [run_underlying Try.underlying4]
set_option maxRecDepth 100000 in
theorem eqSlot (s t : SlotT) (w : World) : (Op.equalIn 10000 31 (slotV s) (slotV t)).run Try.prog w = .ok (decide (s = t)) w := by
  have hS : Try.prog.underlying 31 = some (.struct (Try.prog.fieldsOf 31)) := by kernel_rfl
  have hd : decide (s = t) = (s.1 == t.1 && (s.2.1 == t.2.1 && (s.2.2.1 == t.2.2.1 && (s.2.2.2.1 == t.2.2.2.1 && s.2.2.2.2 == t.2.2.2.2)))) := by
    obtain ⟨a, b, c, d, e⟩ := s
    obtain ⟨a', b', c', d', e'⟩ := t
    rw [Bool.eq_iff_iff]
    simp
  rw [hd, show (10000 : Nat) = 9999 + 1 from rfl, run_equalIn_struct w 9999 31 _ _ hS (by kernel_rfl)]
  simp only [Program.fieldsOf, Try.underlying31, Op.eqFields]
  simp only [Sem.run_bind, Sem.run_ite, partI #[.int .i64 s.1, .int .i64 s.2.1, .int .i64 s.2.2.1, .bool s.2.2.2.1, .bool s.2.2.2.2] 0 _ _ rfl, partI #[.int .i64 s.1, .int .i64 s.2.1, .int .i64 s.2.2.1, .bool s.2.2.2.1, .bool s.2.2.2.2] 1 _ _ rfl, partI #[.int .i64 s.1, .int .i64 s.2.1, .int .i64 s.2.2.1, .bool s.2.2.2.1, .bool s.2.2.2.2] 2 _ _ rfl, partB #[.int .i64 s.1, .int .i64 s.2.1, .int .i64 s.2.2.1, .bool s.2.2.2.1, .bool s.2.2.2.2] 3 _ _ rfl, partB #[.int .i64 s.1, .int .i64 s.2.1, .int .i64 s.2.2.1, .bool s.2.2.2.1, .bool s.2.2.2.2] 4 _ _ rfl,
    partI #[.int .i64 t.1, .int .i64 t.2.1, .int .i64 t.2.2.1, .bool t.2.2.2.1, .bool t.2.2.2.2] 0 _ _ rfl, partI #[.int .i64 t.1, .int .i64 t.2.1, .int .i64 t.2.2.1, .bool t.2.2.2.1, .bool t.2.2.2.2] 1 _ _ rfl, partI #[.int .i64 t.1, .int .i64 t.2.1, .int .i64 t.2.2.1, .bool t.2.2.2.1, .bool t.2.2.2.2] 2 _ _ rfl, partB #[.int .i64 t.1, .int .i64 t.2.1, .int .i64 t.2.2.1, .bool t.2.2.2.1, .bool t.2.2.2.2] 3 _ _ rfl, partB #[.int .i64 t.1, .int .i64 t.2.1, .int .i64 t.2.2.1, .bool t.2.2.2.1, .bool t.2.2.2.2] 4 _ _ rfl, equalI, equalB, Result.andThen_ok]
  cases s.1 == t.1 <;> cases s.2.1 == t.2.1 <;> cases s.2.2.1 == t.2.2.1 <;> cases s.2.2.2.1 == t.2.2.2.1 <;> cases s.2.2.2.2 == t.2.2.2.2 <;> simp
theorem eqlSlot (s t : SlotT) (w : World) : (binOp .eql 31 (slotV s) (slotV t)).run Try.prog w = .ok (.bool (decide (s = t))) w := by
  simp only [binOp]
  simp [Op.equal, Op.maxDepth, eqSlot]
theorem neqSlot (s t : SlotT) (w : World) : (binOp .neq 31 (slotV s) (slotV t)).run Try.prog w = .ok (.bool (!decide (s = t))) w := by
  simp only [binOp]
  simp [Op.equal, Op.maxDepth, eqSlot]
/-- A place of the document's own: an entry, and: is it there? -/
abbrev refV (s : SlotT × Bool) : Value := .agg #[.int .i64 s.1.1, .int .i64 s.1.2.1, .int .i64 s.1.2.2.1, .bool s.1.2.2.2.1, .bool s.1.2.2.2.2, .bool s.2]
set_option maxRecDepth 100000 in
theorem eqRef (s t : SlotT × Bool) (w : World) : (Op.equalIn 10000 37 (refV s) (refV t)).run Try.prog w = .ok (decide (s = t)) w := by
  have hS : Try.prog.underlying 37 = some (.struct (Try.prog.fieldsOf 37)) := by kernel_rfl
  have hd : decide (s = t) = (s.1.1 == t.1.1 && (s.1.2.1 == t.1.2.1 && (s.1.2.2.1 == t.1.2.2.1 && (s.1.2.2.2.1 == t.1.2.2.2.1 && (s.1.2.2.2.2 == t.1.2.2.2.2 && (s.2 == t.2)))))) := by
    obtain ⟨⟨a, b, c, d, e⟩, f⟩ := s
    obtain ⟨⟨a', b', c', d', e'⟩, f'⟩ := t
    rw [Bool.eq_iff_iff]
    simp [and_assoc]
  rw [hd, show (10000 : Nat) = 9999 + 1 from rfl, run_equalIn_struct w 9999 37 _ _ hS (by kernel_rfl)]
  simp only [Program.fieldsOf, Try.underlying37, Op.eqFields]
  simp only [Sem.run_bind, Sem.run_ite, partI #[.int .i64 s.1.1, .int .i64 s.1.2.1, .int .i64 s.1.2.2.1, .bool s.1.2.2.2.1, .bool s.1.2.2.2.2, .bool s.2] 0 _ _ rfl, partI #[.int .i64 s.1.1, .int .i64 s.1.2.1, .int .i64 s.1.2.2.1, .bool s.1.2.2.2.1, .bool s.1.2.2.2.2, .bool s.2] 1 _ _ rfl, partI #[.int .i64 s.1.1, .int .i64 s.1.2.1, .int .i64 s.1.2.2.1, .bool s.1.2.2.2.1, .bool s.1.2.2.2.2, .bool s.2] 2 _ _ rfl, partB #[.int .i64 s.1.1, .int .i64 s.1.2.1, .int .i64 s.1.2.2.1, .bool s.1.2.2.2.1, .bool s.1.2.2.2.2, .bool s.2] 3 _ _ rfl, partB #[.int .i64 s.1.1, .int .i64 s.1.2.1, .int .i64 s.1.2.2.1, .bool s.1.2.2.2.1, .bool s.1.2.2.2.2, .bool s.2] 4 _ _ rfl, partB #[.int .i64 s.1.1, .int .i64 s.1.2.1, .int .i64 s.1.2.2.1, .bool s.1.2.2.2.1, .bool s.1.2.2.2.2, .bool s.2] 5 _ _ rfl, partI #[.int .i64 t.1.1, .int .i64 t.1.2.1, .int .i64 t.1.2.2.1, .bool t.1.2.2.2.1, .bool t.1.2.2.2.2, .bool t.2] 0 _ _ rfl, partI #[.int .i64 t.1.1, .int .i64 t.1.2.1, .int .i64 t.1.2.2.1, .bool t.1.2.2.2.1, .bool t.1.2.2.2.2, .bool t.2] 1 _ _ rfl, partI #[.int .i64 t.1.1, .int .i64 t.1.2.1, .int .i64 t.1.2.2.1, .bool t.1.2.2.2.1, .bool t.1.2.2.2.2, .bool t.2] 2 _ _ rfl, partB #[.int .i64 t.1.1, .int .i64 t.1.2.1, .int .i64 t.1.2.2.1, .bool t.1.2.2.2.1, .bool t.1.2.2.2.2, .bool t.2] 3 _ _ rfl, partB #[.int .i64 t.1.1, .int .i64 t.1.2.1, .int .i64 t.1.2.2.1, .bool t.1.2.2.2.1, .bool t.1.2.2.2.2, .bool t.2] 4 _ _ rfl, partB #[.int .i64 t.1.1, .int .i64 t.1.2.1, .int .i64 t.1.2.2.1, .bool t.1.2.2.2.1, .bool t.1.2.2.2.2, .bool t.2] 5 _ _ rfl, equalI, equalB, Result.andThen_ok]
  cases s.1.1 == t.1.1 <;> cases s.1.2.1 == t.1.2.1 <;> cases s.1.2.2.1 == t.1.2.2.1 <;> cases s.1.2.2.2.1 == t.1.2.2.2.1 <;> cases s.1.2.2.2.2 == t.1.2.2.2.2 <;> cases s.2 == t.2 <;> simp
theorem neqRef (s t : SlotT × Bool) (w : World) : (binOp .neq 37 (refV s) (refV t)).run Try.prog w = .ok (.bool (!decide (s = t))) w := by
  simp only [binOp]
  simp [Op.equal, Op.maxDepth, eqRef]
end Tl
end Go.Proofs.Ytcajclalpmfafaa
