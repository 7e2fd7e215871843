/-
  Two entries are told the same just if all their fields are; no condition.
-/
import Derived.Test.YtdjglmfilhodlaaEnMake
import Derived.Laws.StructEq
namespace Go.Proofs.Ytdjglmfilhodlaa
open Go.RowKit Nt
namespace En
set_option maxRecDepth 100000 in
set_option maxHeartbeats 1000000 in
theorem eqEnt (a0 a1 a2 a3 b0 b1 b2 b3 : Bool) (f g : Int) (w : World) : (Op.equalIn 10000 50 (.agg #[.bool a0, .bool a1, .bool a2, .bool a3, .int .i64 f]) (.agg #[.bool b0, .bool b1, .bool b2, .bool b3, .int .i64 g])).run Try.prog w = .ok (a0 == b0 && a1 == b1 && a2 == b2 && a3 == b3 && f == g) w := by
  have hS : Try.prog.underlying 50 = some (.struct (Try.prog.fieldsOf 50)) := by kernel_rfl
  have u3 := Try.underlying4
  have a3' := Try.isAgg4
  have z3 := Try.sizeOf4
  have u4 := Try.underlying3
  have a4' := Try.isAgg3
  have z4 := Try.sizeOf3
  rw [show (10000 : Nat) = 9999 + 1 from rfl, run_equalIn_struct w 9999 50 _ _ hS (by kernel_rfl)]
  simp only [Program.fieldsOf, Try.underlying50]
  by_cases e0 : a0 = b0
  · subst e0
    by_cases e1 : a1 = b1
    · subst e1
      by_cases e2 : a2 = b2
      · subst e2
        by_cases e3 : a3 = b3
        · subst e3
          go_simp
          split <;> simp_all
        · have d3 : (a3 == b3) = false := by simpa using e3
          go_simp
      · have d2 : (a2 == b2) = false := by simpa using e2
        go_simp
    · have d1 : (a1 == b1) = false := by simpa using e1
      go_simp
  · have d0 : (a0 == b0) = false := by simpa using e0
    go_simp
set_option maxRecDepth 100000 in
set_option maxHeartbeats 1000000 in
theorem eqRef (a0 a1 a2 a3 b0 b1 b2 b3 : Bool) (f g : Int) (w : World) : (Op.equalIn 10000 83 (.agg #[.bool a0, .bool a1, .bool a2, .bool a3, .int .i64 f]) (.agg #[.bool b0, .bool b1, .bool b2, .bool b3, .int .i64 g])).run Try.prog w = .ok (a0 == b0 && a1 == b1 && a2 == b2 && a3 == b3 && f == g) w := by
  have hS : Try.prog.underlying 83 = some (.struct (Try.prog.fieldsOf 83)) := by kernel_rfl
  have u3 := Try.underlying4
  have a3' := Try.isAgg4
  have z3 := Try.sizeOf4
  have u4 := Try.underlying3
  have a4' := Try.isAgg3
  have z4 := Try.sizeOf3
  rw [show (10000 : Nat) = 9999 + 1 from rfl, run_equalIn_struct w 9999 83 _ _ hS (by kernel_rfl)]
  simp only [Program.fieldsOf, Try.underlying83]
  by_cases e0 : a0 = b0
  · subst e0
    by_cases e1 : a1 = b1
    · subst e1
      by_cases e2 : a2 = b2
      · subst e2
        by_cases e3 : a3 = b3
        · subst e3
          go_simp
          split <;> simp_all
        · have d3 : (a3 == b3) = false := by simpa using e3
          go_simp
      · have d2 : (a2 == b2) = false := by simpa using e2
        go_simp
    · have d1 : (a1 == b1) = false := by simpa using e1
      go_simp
  · have d0 : (a0 == b0) = false := by simpa using e0
    go_simp
end En
end Go.Proofs.Ytdjglmfilhodlaa
