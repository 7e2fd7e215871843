/-
  How an instruction that comes in by value is opened, and read again; no condition.
-/
import Derived.Test.YtebnjhecopmekaaDoorIsaLaid
import Derived.Lib.SmallJoins
import Derived.ChangeOld
namespace Go.Proofs.YtebnjhecopmekaaDoor
open Go.ChangeShapes Go.WideShapes Go.ChangeAt Go.RowKit Go.Joins

theorem cellsIns : Tryd.prog.cellsOf 23 = 4 := by kernel_rfl
/-- Four numbers that an int holds. -/
def Wf4 (o a b i : Int) : Prop := (Lit.int .i64 o).wf = true ∧ (Lit.int .i64 a).wf = true ∧ (Lit.int .i64 b).wf = true ∧ (Lit.int .i64 i).wf = true
set_option maxRecDepth 100000 in
theorem ins_open {H : Type} {enc : TypeId × Value → H} {w : World} {base b0 : Nat} {sp : Nat → Bool} {held : Bool} {r : Reach} {v : Value} {d : DataW H} {p : List MemPlace}
    (hval : Value.okWide Tryd.prog w r b0 23 v) (h : DataW.Trod enc Tryd.prog w base sp held 23 v d p) :
    ∃ o a b i : Int, v = .agg #[.int .i64 o, .int .i64 a, .int .i64 b, .int .i64 i] ∧ d = .agg [.lit (.int .i64 o), .lit (.int .i64 a), .lit (.int .i64 b), .lit (.int .i64 i)] ∧ p = [] ∧ Wf4 o a b i := by
  obtain ⟨c0, c1, c2, c3, y0, y1, y2, y3, m, rfl, rfl, rfl, hy0, hy1, hy2, hy3⟩ := open_agg4 Tryd.underlying23 (by kernel_rfl) cellsIns hval h
  obtain ⟨a, e0, rfl, wa⟩ := DataW.trod_int Tryd.underlying3 hy0
  obtain ⟨b, e1, rfl, wb⟩ := DataW.trod_int Tryd.underlying3 hy1
  obtain ⟨c, e2, rfl, wc⟩ := DataW.trod_int Tryd.underlying3 hy2
  obtain ⟨d, e3, rfl, wd⟩ := DataW.trod_int Tryd.underlying3 hy3
  simp at e0 e1 e2 e3
  subst e0 e1 e2 e3
  exact ⟨a, b, c, d, rfl, rfl, rfl, wa, wb, wc, wd⟩
set_option maxRecDepth 100000 in
theorem ins_shut {H : Type} {enc : TypeId × Value → H} {o a b i : Int} (hw : Wf4 o a b i) (W' : World) (sp : Nat → Bool) :
    DataW.Trod enc Tryd.prog W' 0 sp true 23 (.agg #[.int .i64 o, .int .i64 a, .int .i64 b, .int .i64 i]) (.agg [.lit (.int .i64 o), .lit (.int .i64 a), .lit (.int .i64 b), .lit (.int .i64 i)]) [] := by
  obtain ⟨wa, wb, wc, wd⟩ := hw
  exact shut_agg4 (y0 := (.lit (.int .i64 o), [])) (y1 := (.lit (.int .i64 a), [])) (y2 := (.lit (.int .i64 b), [])) (y3 := (.lit (.int .i64 i), [])) Tryd.underlying23 (by kernel_rfl) cellsIns ⟨1, by simp [DataW.trod, Tryd.underlying3, wa]⟩ ⟨1, by simp [DataW.trod, Tryd.underlying3, wb]⟩ ⟨1, by simp [DataW.trod, Tryd.underlying3, wc]⟩ ⟨1, by simp [DataW.trod, Tryd.underlying3, wd]⟩
end Go.Proofs.YtebnjhecopmekaaDoor
