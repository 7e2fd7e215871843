/-
  The three words that alive puts, and what they come to; hits are told the same as themselves. No condition.
-/
import Derived.Test.YtdjglmfilhodlaaWkBoth
import Derived.Laws.StructEq
namespace Go.Proofs.Ytdjglmfilhodlaa
open Go.RowKit Nt
namespace Wk
open Ph En
/-- The three words. -/
def xA : Puts := ⟨fun k => match k with | 0 => 0 | 1 => 4 | _ => 264, fun k => match k with | 0 => 257 | 1 => 4111 | _ => 775⟩
/-- The bytes that they leave. -/
def zA : Nat → Int := zOf 80 xA 3
theorem walkA : walkS 80 zA 0 530 1 = ⟨0, 2, 3, true, true, false⟩ := by kernel_rfl
theorem walkB : walkS 80 zA 0 17157 2 = ⟨0, 1, 19, true, true, true⟩ := by kernel_rfl
theorem walkC : walkS 80 zA 0 32768 0 = ⟨2, 1, 0, false, false, false⟩ := by kernel_rfl
theorem lookA : lookS 80 zA 0 2 = ⟨⟨true, true, true, false, 3⟩, true⟩ := by kernel_rfl
theorem pagesA : pagesL 80 zA 0 4096 = 2 :: List.range' 64 64 := by kernel_rfl
set_option maxRecDepth 100000 in
set_option maxHeartbeats 1000000 in
theorem eqHit (f r F : Int) (W X B : Bool) (w : World) : (Op.equalIn 10000 62 (.agg #[.int .i64 f, .int .i64 r, .int .i64 F, .bool W, .bool X, .bool B]) (.agg #[.int .i64 f, .int .i64 r, .int .i64 F, .bool W, .bool X, .bool B])).run Try.prog w = .ok true w := by
  have hS : Try.prog.underlying 62 = some (.struct (Try.prog.fieldsOf 62)) := by kernel_rfl
  have u3 := Try.underlying4
  have a3' := Try.isAgg4
  have z3 := Try.sizeOf4
  have u4 := Try.underlying3
  have a4' := Try.isAgg3
  have z4 := Try.sizeOf3
  rw [show (10000 : Nat) = 9999 + 1 from rfl, run_equalIn_struct w 9999 62 _ _ hS (by kernel_rfl)]
  simp only [Program.fieldsOf, Try.underlying62]
  go_simp
set_option maxRecDepth 100000 in
set_option maxHeartbeats 1000000 in
theorem eqRHit (f r F : Int) (W X B : Bool) (w : World) : (Op.equalIn 10000 112 (.agg #[.int .i64 f, .int .i64 r, .int .i64 F, .bool W, .bool X, .bool B]) (.agg #[.int .i64 f, .int .i64 r, .int .i64 F, .bool W, .bool X, .bool B])).run Try.prog w = .ok true w := by
  have hS : Try.prog.underlying 112 = some (.struct (Try.prog.fieldsOf 112)) := by kernel_rfl
  have u3 := Try.underlying4
  have a3' := Try.isAgg4
  have z3 := Try.sizeOf4
  have u4 := Try.underlying3
  have a4' := Try.isAgg3
  have z4 := Try.sizeOf3
  rw [show (10000 : Nat) = 9999 + 1 from rfl, run_equalIn_struct w 9999 112 _ _ hS (by kernel_rfl)]
  simp only [Program.fieldsOf, Try.underlying112]
  go_simp
end Wk
end Go.Proofs.Ytdjglmfilhodlaa
