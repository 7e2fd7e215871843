/-
  Structs held against each other. Conditions: none.
-/
import Derived.Test.YtnilcmmilplbgaaGrRow
import Derived.Laws.StructEq
namespace Go.Proofs.Ytnilcmmilplbgaa
open Go.RowKit
namespace Gr
theorem part_bool (xs : Array Value) (k : Nat) (a : Bool) (w : World) (h : xs[k]? = some (.bool a)) : (part 4 xs k).run Try.prog w = .ok (.bool a) w := by
  unfold part
  rw [Sem.run_bind, Try.isAgg4]
  simp only [Result.andThen_ok, Bool.false_eq_true, if_false, h]
  rfl
theorem equal_bool (a b : Bool) (w : World) : (Op.equalIn 9999 4 (.bool a) (.bool b)).run Try.prog w = .ok (a == b) w := by
  rw [show (9999 : Nat) = 9998 + 1 from rfl, Op.equalIn]
  simp [run_underlying Try.underlying4]
theorem part_int (xs : Array Value) (k : Nat) (a : Int) (w : World) (h : xs[k]? = some (.int .i64 a)) : (part 3 xs k).run Try.prog w = .ok (.int .i64 a) w := by
  unfold part
  rw [Sem.run_bind, Try.isAgg3]
  simp only [Result.andThen_ok, Bool.false_eq_true, if_false, h]
  rfl
theorem equal_int (a b : Int) (w : World) : (Op.equalIn 9999 3 (.int .i64 a) (.int .i64 b)).run Try.prog w = .ok (a == b) w := by
  rw [show (9999 : Nat) = 9998 + 1 from rfl, Op.equalIn]
  simp [run_underlying Try.underlying3]
set_option maxRecDepth 100000 in
theorem eqG (s t : GtT) (w : World) : (Op.equalIn 10000 37 (gV s) (gV t)).run Try.prog w = .ok (decide (s = t)) w := by
  have hS : Try.prog.underlying 37 = some (.struct (Try.prog.fieldsOf 37)) := by kernel_rfl
  have hd : decide (s = t) = (s.1 == t.1 && (s.2.1 == t.2.1 && (s.2.2.1 == t.2.2.1 && (s.2.2.2.1 == t.2.2.2.1 && (s.2.2.2.2.1 == t.2.2.2.2.1 && (s.2.2.2.2.2 == t.2.2.2.2.2)))))) := by
    obtain ⟨x0, x1, x2, x3, x4, x5⟩ := s
    obtain ⟨y0, y1, y2, y3, y4, y5⟩ := t
    rw [Bool.eq_iff_iff]
    simp
  rw [hd, show (10000 : Nat) = 9999 + 1 from rfl, run_equalIn_struct w 9999 37 _ _ hS (by kernel_rfl)]
  simp only [Program.fieldsOf, Try.underlying37, Op.eqFields]
  simp only [Sem.run_bind, Sem.run_ite, part_int #[.int .i64 s.1, .int .i64 s.2.1, .int .i64 s.2.2.1, .int .i64 s.2.2.2.1, .int .i64 s.2.2.2.2.1, .bool s.2.2.2.2.2] 0 _ _ rfl, part_int #[.int .i64 s.1, .int .i64 s.2.1, .int .i64 s.2.2.1, .int .i64 s.2.2.2.1, .int .i64 s.2.2.2.2.1, .bool s.2.2.2.2.2] 1 _ _ rfl, part_int #[.int .i64 s.1, .int .i64 s.2.1, .int .i64 s.2.2.1, .int .i64 s.2.2.2.1, .int .i64 s.2.2.2.2.1, .bool s.2.2.2.2.2] 2 _ _ rfl, part_int #[.int .i64 s.1, .int .i64 s.2.1, .int .i64 s.2.2.1, .int .i64 s.2.2.2.1, .int .i64 s.2.2.2.2.1, .bool s.2.2.2.2.2] 3 _ _ rfl, part_int #[.int .i64 s.1, .int .i64 s.2.1, .int .i64 s.2.2.1, .int .i64 s.2.2.2.1, .int .i64 s.2.2.2.2.1, .bool s.2.2.2.2.2] 4 _ _ rfl, part_bool #[.int .i64 s.1, .int .i64 s.2.1, .int .i64 s.2.2.1, .int .i64 s.2.2.2.1, .int .i64 s.2.2.2.2.1, .bool s.2.2.2.2.2] 5 _ _ rfl, part_int #[.int .i64 t.1, .int .i64 t.2.1, .int .i64 t.2.2.1, .int .i64 t.2.2.2.1, .int .i64 t.2.2.2.2.1, .bool t.2.2.2.2.2] 0 _ _ rfl, part_int #[.int .i64 t.1, .int .i64 t.2.1, .int .i64 t.2.2.1, .int .i64 t.2.2.2.1, .int .i64 t.2.2.2.2.1, .bool t.2.2.2.2.2] 1 _ _ rfl, part_int #[.int .i64 t.1, .int .i64 t.2.1, .int .i64 t.2.2.1, .int .i64 t.2.2.2.1, .int .i64 t.2.2.2.2.1, .bool t.2.2.2.2.2] 2 _ _ rfl, part_int #[.int .i64 t.1, .int .i64 t.2.1, .int .i64 t.2.2.1, .int .i64 t.2.2.2.1, .int .i64 t.2.2.2.2.1, .bool t.2.2.2.2.2] 3 _ _ rfl, part_int #[.int .i64 t.1, .int .i64 t.2.1, .int .i64 t.2.2.1, .int .i64 t.2.2.2.1, .int .i64 t.2.2.2.2.1, .bool t.2.2.2.2.2] 4 _ _ rfl, part_bool #[.int .i64 t.1, .int .i64 t.2.1, .int .i64 t.2.2.1, .int .i64 t.2.2.2.1, .int .i64 t.2.2.2.2.1, .bool t.2.2.2.2.2] 5 _ _ rfl, equal_bool, equal_int, Result.andThen_ok]
  cases s.1 == t.1 <;> cases s.2.1 == t.2.1 <;> cases s.2.2.1 == t.2.2.1 <;> cases s.2.2.2.1 == t.2.2.2.1 <;> cases s.2.2.2.2.1 == t.2.2.2.2.1 <;> cases s.2.2.2.2.2 == t.2.2.2.2.2 <;> simp
theorem eqlG (s t : GtT) (w : World) : (binOp .eql 37 (gV s) (gV t)).run Try.prog w = .ok (.bool (decide (s = t))) w := by
  simp only [binOp]
  simp [Op.equal, Op.maxDepth, eqG]
theorem neqG (s t : GtT) (w : World) : (binOp .neq 37 (gV s) (gV t)).run Try.prog w = .ok (.bool (!decide (s = t))) w := by
  simp only [binOp]
  simp [Op.equal, Op.maxDepth, eqG]
set_option maxRecDepth 100000 in
theorem eqR (s t : GtT) (w : World) : (Op.equalIn 10000 32 (gV s) (gV t)).run Try.prog w = .ok (decide (s = t)) w := by
  have hS : Try.prog.underlying 32 = some (.struct (Try.prog.fieldsOf 32)) := by kernel_rfl
  have hd : decide (s = t) = (s.1 == t.1 && (s.2.1 == t.2.1 && (s.2.2.1 == t.2.2.1 && (s.2.2.2.1 == t.2.2.2.1 && (s.2.2.2.2.1 == t.2.2.2.2.1 && (s.2.2.2.2.2 == t.2.2.2.2.2)))))) := by
    obtain ⟨x0, x1, x2, x3, x4, x5⟩ := s
    obtain ⟨y0, y1, y2, y3, y4, y5⟩ := t
    rw [Bool.eq_iff_iff]
    simp
  rw [hd, show (10000 : Nat) = 9999 + 1 from rfl, run_equalIn_struct w 9999 32 _ _ hS (by kernel_rfl)]
  simp only [Program.fieldsOf, Try.underlying32, Op.eqFields]
  simp only [Sem.run_bind, Sem.run_ite, part_int #[.int .i64 s.1, .int .i64 s.2.1, .int .i64 s.2.2.1, .int .i64 s.2.2.2.1, .int .i64 s.2.2.2.2.1, .bool s.2.2.2.2.2] 0 _ _ rfl, part_int #[.int .i64 s.1, .int .i64 s.2.1, .int .i64 s.2.2.1, .int .i64 s.2.2.2.1, .int .i64 s.2.2.2.2.1, .bool s.2.2.2.2.2] 1 _ _ rfl, part_int #[.int .i64 s.1, .int .i64 s.2.1, .int .i64 s.2.2.1, .int .i64 s.2.2.2.1, .int .i64 s.2.2.2.2.1, .bool s.2.2.2.2.2] 2 _ _ rfl, part_int #[.int .i64 s.1, .int .i64 s.2.1, .int .i64 s.2.2.1, .int .i64 s.2.2.2.1, .int .i64 s.2.2.2.2.1, .bool s.2.2.2.2.2] 3 _ _ rfl, part_int #[.int .i64 s.1, .int .i64 s.2.1, .int .i64 s.2.2.1, .int .i64 s.2.2.2.1, .int .i64 s.2.2.2.2.1, .bool s.2.2.2.2.2] 4 _ _ rfl, part_bool #[.int .i64 s.1, .int .i64 s.2.1, .int .i64 s.2.2.1, .int .i64 s.2.2.2.1, .int .i64 s.2.2.2.2.1, .bool s.2.2.2.2.2] 5 _ _ rfl, part_int #[.int .i64 t.1, .int .i64 t.2.1, .int .i64 t.2.2.1, .int .i64 t.2.2.2.1, .int .i64 t.2.2.2.2.1, .bool t.2.2.2.2.2] 0 _ _ rfl, part_int #[.int .i64 t.1, .int .i64 t.2.1, .int .i64 t.2.2.1, .int .i64 t.2.2.2.1, .int .i64 t.2.2.2.2.1, .bool t.2.2.2.2.2] 1 _ _ rfl, part_int #[.int .i64 t.1, .int .i64 t.2.1, .int .i64 t.2.2.1, .int .i64 t.2.2.2.1, .int .i64 t.2.2.2.2.1, .bool t.2.2.2.2.2] 2 _ _ rfl, part_int #[.int .i64 t.1, .int .i64 t.2.1, .int .i64 t.2.2.1, .int .i64 t.2.2.2.1, .int .i64 t.2.2.2.2.1, .bool t.2.2.2.2.2] 3 _ _ rfl, part_int #[.int .i64 t.1, .int .i64 t.2.1, .int .i64 t.2.2.1, .int .i64 t.2.2.2.1, .int .i64 t.2.2.2.2.1, .bool t.2.2.2.2.2] 4 _ _ rfl, part_bool #[.int .i64 t.1, .int .i64 t.2.1, .int .i64 t.2.2.1, .int .i64 t.2.2.2.1, .int .i64 t.2.2.2.2.1, .bool t.2.2.2.2.2] 5 _ _ rfl, equal_bool, equal_int, Result.andThen_ok]
  cases s.1 == t.1 <;> cases s.2.1 == t.2.1 <;> cases s.2.2.1 == t.2.2.1 <;> cases s.2.2.2.1 == t.2.2.2.1 <;> cases s.2.2.2.2.1 == t.2.2.2.2.1 <;> cases s.2.2.2.2.2 == t.2.2.2.2.2 <;> simp
theorem eqlR (s t : GtT) (w : World) : (binOp .eql 32 (gV s) (gV t)).run Try.prog w = .ok (.bool (decide (s = t))) w := by
  simp only [binOp]
  simp [Op.equal, Op.maxDepth, eqR]
theorem neqR (s t : GtT) (w : World) : (binOp .neq 32 (gV s) (gV t)).run Try.prog w = .ok (.bool (!decide (s = t))) w := by
  simp only [binOp]
  simp [Op.equal, Op.maxDepth, eqR]
end Gr
end Go.Proofs.Ytnilcmmilplbgaa
