/-
  Operations that yield one value in every world that keeps a condition: for regions that draw their order; no condition.
-/
import Derived.Test.YtalaalpafafpbaaDoorMtRefOn
import Derived.Test.YtalaalpafafpbaaDoorMtRun
import Derived.Deep.RegionHeld3
namespace Go.Proofs.YtalaalpafafpbaaDoor
open Go.RowKit
namespace Mt
variable {ops : Array Oper} {S : World → Prop} {o : Oper} {a : Act} {v : Value} {x : Operand}
theorem y_off (h : Region.wanted o (yielded ops a.tmps) = false) : YieldsIf Tryd.prog ops S o undef a := .inr ⟨h, rfl⟩
theorem y_run (hw : Region.wanted o (yielded ops a.tmps) = true) (h : ∀ w, (execOp a.eval o).run Tryd.prog w = .ok (.value v) w) : YieldsIf Tryd.prog ops S o v a := .inl ⟨hw, fun w _ => h w⟩
theorem load_int (w : World) (b i : Nat) (z : Int) (h : w.cell? ⟨b, i, none⟩ = some (.int .i64 z)) (hx : a.eval x = .pointer (some ⟨b, i, none⟩)) (ho : o.op = .load 3 x) : (execOp a.eval o).run Tryd.prog w = .ok (.value (.int .i64 z)) w := by
  unfold execOp
  simp only [ho, hx]
  go_simp
theorem load_u64 (w : World) (b i : Nat) (z : Int) (h : w.cell? ⟨b, i, none⟩ = some (.int .u64 z)) (hx : a.eval x = .pointer (some ⟨b, i, none⟩)) (ho : o.op = .load 33 x) : (execOp a.eval o).run Tryd.prog w = .ok (.value (.int .u64 z)) w := by
  unfold execOp
  simp only [ho, hx]
  go_simp
theorem load_bool (w : World) (b i : Nat) (z : Bool) (h : w.cell? ⟨b, i, none⟩ = some (.bool z)) (hx : a.eval x = .pointer (some ⟨b, i, none⟩)) (ho : o.op = .load 4 x) : (execOp a.eval o).run Tryd.prog w = .ok (.value (.bool z)) w := by
  unfold execOp
  simp only [ho, hx]
  go_simp
theorem y_int (b i : Nat) (z : Int) (hw : Region.wanted o (yielded ops a.tmps) = true) (hS : ∀ w, S w → w.cell? ⟨b, i, none⟩ = some (.int .i64 z)) (x : Operand) (hx : a.eval x = .pointer (some ⟨b, i, none⟩)) (ho : o.op = .load 3 x) : YieldsIf Tryd.prog ops S o (.int .i64 z) a := .inl ⟨hw, fun w h => load_int w b i z (hS w h) hx ho⟩
theorem y_u64 (b i : Nat) (z : Int) (hw : Region.wanted o (yielded ops a.tmps) = true) (hS : ∀ w, S w → w.cell? ⟨b, i, none⟩ = some (.int .u64 z)) (x : Operand) (hx : a.eval x = .pointer (some ⟨b, i, none⟩)) (ho : o.op = .load 33 x) : YieldsIf Tryd.prog ops S o (.int .u64 z) a := .inl ⟨hw, fun w h => load_u64 w b i z (hS w h) hx ho⟩
theorem y_bool (b i : Nat) (z : Bool) (hw : Region.wanted o (yielded ops a.tmps) = true) (hS : ∀ w, S w → w.cell? ⟨b, i, none⟩ = some (.bool z)) (x : Operand) (hx : a.eval x = .pointer (some ⟨b, i, none⟩)) (ho : o.op = .load 4 x) : YieldsIf Tryd.prog ops S o (.bool z) a := .inl ⟨hw, fun w h => load_bool w b i z (hS w h) hx ho⟩
theorem y_neq (z : Int) (hw : Region.wanted o (yielded ops a.tmps) = true) (x y : Operand) (hx : a.eval x = .int .i64 z) (hy : a.eval y = .int .i64 z) (ho : o.op = .binOp .neq 26 x y 26) : YieldsIf Tryd.prog ops S o (.bool false) a := .inl ⟨hw, fun w _ => by
  unfold execOp
  simp only [ho, hx, hy]
  go_simp⟩
end Mt
end Go.Proofs.YtalaalpafafpbaaDoor
