/-
  What entry's Encode and Both answer, at every argument; no condition but that each argument is of its Go type.
-/
import Derived.Test.YtdjglmfilhodlaaEnEq
namespace Go.Proofs.Ytdjglmfilhodlaa
open Go.RowKit Nt
namespace En
/-- How much of the frame comes back. -/
def eF (V : Bool) (F : Int) : Int := if V then F % 65536 else 0
theorem decode_lw (V W X B : Bool) (F : Int) (w : World) :
    Calls Try.prog 40 #[.int .u32 (lw V W X B F)] w fun e w' => e = .returned (.agg #[.bool V, .bool (V && W), .bool (V && X), .bool (V && B), .int .i64 (eF V F)]) ∧ Below w.heap.size w w' := by
  have l := lw_lt V W X B F
  have d := decode_any (lw V W X B F) w l.1 (by omega)
  obtain ⟨e0, e1, e2, e3, e4⟩ := lw_dec V W X B F
  rw [e0, e1, e2, e3, e4] at d
  exact d
theorem gd_eq (V W X B : Bool) (F : Int) : (V == V && (V && W) == W && (V && X) == X && (V && B) == B && (if V then F % 65536 else 0) == F) = gd V W X B F := by
  unfold gd
  rw [Bool.eq_iff_iff]
  cases V <;> cases W <;> cases X <;> cases B <;> simp <;> omega
theorem eqLw (V W X B : Bool) (F : Int) (w : World) : (Op.equalIn 10000 50 (.agg #[.bool V, .bool (V && W), .bool (V && X), .bool (V && B), .int .i64 (eF V F)]) (.agg #[.bool V, .bool W, .bool X, .bool B, .int .i64 F])).run Try.prog w = .ok (gd V W X B F) w := by
  rw [eqEnt]
  exact congrArg (fun x => Result.ok x w) (gd_eq V W X B F)
/-- What Encode answers. -/
def encN (V W X B : Bool) (F : Int) : Int := if gd V W X B F then lw V W X B F else 0
end En
end Go.Proofs.Ytdjglmfilhodlaa
