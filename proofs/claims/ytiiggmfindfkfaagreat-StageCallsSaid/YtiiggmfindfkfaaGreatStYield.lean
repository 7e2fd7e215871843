/-
  Operations that yield one value in every world that keeps a condition: for regions that draw their order; no condition.
-/
import Derived.Test.YtiiggmfindfkfaaGreatStWhole
import Derived.Deep.RegionHeld3
namespace Go.Proofs.YtiiggmfindfkfaaGreat
open Go.RowKit
namespace St
section
variable {ops : Array Oper} {S : World → Prop} {o : Oper} {a : Act} {v : Value}
theorem y_run (hw : Region.wanted o (yielded ops a.tmps) = true) (h : ∀ w, (execOp a.eval o).run Tryz.prog w = .ok (.value v) w) : YieldsIf Tryz.prog ops S o v a := .inl ⟨hw, fun w _ => h w⟩
theorem load_int (w : World) (b i : Nat) (z : Int) (x : Operand) (h : w.cell? ⟨b, i, none⟩ = some (.int .i64 z)) (hx : a.eval x = .pointer (some ⟨b, i, none⟩)) (ho : o.op = .load 3 x) : (execOp a.eval o).run Tryz.prog w = .ok (.value (.int .i64 z)) w := by
  unfold execOp
  simp only [ho, hx]
  go_simp
theorem load_bool (w : World) (b i : Nat) (z : Bool) (x : Operand) (h : w.cell? ⟨b, i, none⟩ = some (.bool z)) (hx : a.eval x = .pointer (some ⟨b, i, none⟩)) (ho : o.op = .load 4 x) : (execOp a.eval o).run Tryz.prog w = .ok (.value (.bool z)) w := by
  unfold execOp
  simp only [ho, hx]
  go_simp
theorem load_sp (w : World) (b i : Nat) (z : Option Addr) (x : Operand) (h : w.cell? ⟨b, i, none⟩ = some (.pointer z)) (hx : a.eval x = .pointer (some ⟨b, i, none⟩)) (ho : o.op = .load 34 x) : (execOp a.eval o).run Tryz.prog w = .ok (.value (.pointer z)) w := by
  unfold execOp
  simp only [ho, hx]
  go_simp
theorem load_mp (w : World) (b i : Nat) (z : Option Addr) (x : Operand) (h : w.cell? ⟨b, i, none⟩ = some (.pointer z)) (hx : a.eval x = .pointer (some ⟨b, i, none⟩)) (ho : o.op = .load 31 x) : (execOp a.eval o).run Tryz.prog w = .ok (.value (.pointer z)) w := by
  unfold execOp
  simp only [ho, hx]
  go_simp
theorem y_int (b i : Nat) (z : Int) (x : Operand) (hw : Region.wanted o (yielded ops a.tmps) = true) (hS : ∀ w, S w → w.cell? ⟨b, i, none⟩ = some (.int .i64 z)) (hx : a.eval x = .pointer (some ⟨b, i, none⟩)) (ho : o.op = .load 3 x) : YieldsIf Tryz.prog ops S o (.int .i64 z) a := .inl ⟨hw, fun w h => load_int w b i z x (hS w h) hx ho⟩
theorem y_bool (b i : Nat) (z : Bool) (x : Operand) (hw : Region.wanted o (yielded ops a.tmps) = true) (hS : ∀ w, S w → w.cell? ⟨b, i, none⟩ = some (.bool z)) (hx : a.eval x = .pointer (some ⟨b, i, none⟩)) (ho : o.op = .load 4 x) : YieldsIf Tryz.prog ops S o (.bool z) a := .inl ⟨hw, fun w h => load_bool w b i z x (hS w h) hx ho⟩
theorem y_sp (b i : Nat) (z : Option Addr) (x : Operand) (hw : Region.wanted o (yielded ops a.tmps) = true) (hS : ∀ w, S w → w.cell? ⟨b, i, none⟩ = some (.pointer z)) (hx : a.eval x = .pointer (some ⟨b, i, none⟩)) (ho : o.op = .load 34 x) : YieldsIf Tryz.prog ops S o (.pointer z) a := .inl ⟨hw, fun w h => load_sp w b i z x (hS w h) hx ho⟩
theorem y_mp (b i : Nat) (z : Option Addr) (x : Operand) (hw : Region.wanted o (yielded ops a.tmps) = true) (hS : ∀ w, S w → w.cell? ⟨b, i, none⟩ = some (.pointer z)) (hx : a.eval x = .pointer (some ⟨b, i, none⟩)) (ho : o.op = .load 31 x) : YieldsIf Tryz.prog ops S o (.pointer z) a := .inl ⟨hw, fun w h => load_mp w b i z x (hS w h) hx ho⟩
end
end St
end Go.Proofs.YtiiggmfindfkfaaGreat
