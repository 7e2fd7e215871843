/-
  Structs held against each other. Conditions: none.
-/
import Derived.Test.YtddiapihopgpbaaWhBase
import Derived.Laws.StructEq
namespace Go.Proofs.Ytddiapihopgpbaa
open Go.RowKit
namespace Wh
theorem part_int (xs : Array Value) (k : Nat) (a : Int) (w : World) (h : xs[k]? = some (.int .i64 a)) : (part 3 xs k).run Try.prog w = .ok (.int .i64 a) w := by
  unfold part
  rw [Sem.run_bind, Try.isAgg3]
  simp only [Result.andThen_ok, Bool.false_eq_true, if_false, h]
  rfl
theorem equal_int (a b : Int) (w : World) : (Op.equalIn 9999 3 (.int .i64 a) (.int .i64 b)).run Try.prog w = .ok (a == b) w := by
  rw [show (9999 : Nat) = 9998 + 1 from rfl, Op.equalIn]
  simp [run_underlying Try.underlying3]
theorem part_u64 (xs : Array Value) (k : Nat) (a : Int) (w : World) (h : xs[k]? = some (.int .u64 a)) : (part 22 xs k).run Try.prog w = .ok (.int .u64 a) w := by
  unfold part
  rw [Sem.run_bind, Try.isAgg22]
  simp only [Result.andThen_ok, Bool.false_eq_true, if_false, h]
  rfl
theorem equal_u64 (a b : Int) (w : World) : (Op.equalIn 9999 22 (.int .u64 a) (.int .u64 b)).run Try.prog w = .ok (a == b) w := by
  rw [show (9999 : Nat) = 9998 + 1 from rfl, Op.equalIn]
  simp [run_underlying Try.underlying22]
set_option maxRecDepth 100000 in
theorem eqD (s t : PrT) (w : World) : (Op.equalIn 10000 42 (pV s) (pV t)).run Try.prog w = .ok (decide (s = t)) w := by
  have hS : Try.prog.underlying 42 = some (.struct (Try.prog.fieldsOf 42)) := by kernel_rfl
  have hd : decide (s = t) = (s.1 == t.1 && (s.2 == t.2)) := by
    obtain ⟨x0, x1⟩ := s
    obtain ⟨y0, y1⟩ := t
    rw [Bool.eq_iff_iff]
    simp
  rw [hd, show (10000 : Nat) = 9999 + 1 from rfl, run_equalIn_struct w 9999 42 _ _ hS (by kernel_rfl)]
  simp only [Program.fieldsOf, Try.underlying42, Op.eqFields]
  simp only [Sem.run_bind, Sem.run_ite, part_int #[.int .i64 s.1, .int .u64 s.2] 0 _ _ rfl, part_u64 #[.int .i64 s.1, .int .u64 s.2] 1 _ _ rfl, part_int #[.int .i64 t.1, .int .u64 t.2] 0 _ _ rfl, part_u64 #[.int .i64 t.1, .int .u64 t.2] 1 _ _ rfl, equal_int, equal_u64, Result.andThen_ok]
  cases s.1 == t.1 <;> cases s.2 == t.2 <;> simp
theorem eqlD (s t : PrT) (w : World) : (binOp .eql 42 (pV s) (pV t)).run Try.prog w = .ok (.bool (decide (s = t))) w := by
  simp only [binOp]
  simp [Op.equal, Op.maxDepth, eqD]
theorem neqD (s t : PrT) (w : World) : (binOp .neq 42 (pV s) (pV t)).run Try.prog w = .ok (.bool (!decide (s = t))) w := by
  simp only [binOp]
  simp [Op.equal, Op.maxDepth, eqD]
end Wh
end Go.Proofs.Ytddiapihopgpbaa
