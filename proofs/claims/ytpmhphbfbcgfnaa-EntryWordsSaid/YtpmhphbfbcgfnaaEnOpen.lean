/-
  An entry by value, opened when it comes in; no condition.
-/
import Derived.Test.YtpmhphbfbcgfnaaEnAlive
import Derived.ProofKit
import Derived.LaidMore
import Derived.OpenShut
import Derived.ShutString
import Derived.ChangeOld
import Derived.SizedLaws
import Derived.Deep.Slices
import Derived.Deep.Grids
import Derived.Deep.Modes
import Derived.Lib.SmallJoins
namespace Go.Proofs.Ytpmhphbfbcgfnaa
open Go.ChangeShapes Go.WideShapes Go.ChangeAt Go.RowKit Go.Deep Go.Joins
namespace En
theorem own : ownKnob Try.prog.godebug = none := by kernel_rfl
theorem laidOut : laidOutB Try.prog = true := by kernel_rfl
theorem cellsBool : Try.prog.cellsOf 4 = 1 := by kernel_rfl
theorem cellsInt : Try.prog.cellsOf 3 = 1 := by kernel_rfl
theorem cellsEnt : Try.prog.cellsOf 23 = 5 := by kernel_rfl
theorem take_one {l : List Value} {j : Nat} {v : Value} (h : (l.drop j).take 1 = [v]) : l[j]? = some v := by
  have := congrArg (·[0]?) h
  simpa [List.getElem?_take, List.getElem?_drop] using this
theorem array5 {α : Type} {a : Array α} (h : a.size = 5) : ∃ x y z u v, a = #[x, y, z, u, v] := by
  obtain ⟨l⟩ := a
  match l, h with
  | [x, y, z, u, v], _ => exact ⟨x, y, z, u, v, rfl⟩
set_option maxRecDepth 100000 in
theorem ent_open {H : Type} {enc : TypeId × Value → H} {w : World} {base b0 : Nat} {sp : Nat → Bool} {held : Bool} {r : Reach} {v : Value} {d : DataW H} {p : List MemPlace}
    (hval : Value.okWide Try.prog w r b0 23 v) (h : DataW.Trod enc Try.prog w base sp held 23 v d p) :
    ∃ (V W X B : Bool) (F : Int), v = .agg #[.bool V, .bool W, .bool X, .bool B, .int .i64 F] ∧ p = [] := by
  obtain ⟨cs, rfl, hsz⟩ := okWide_struct Try.underlying23 hval
  obtain ⟨v0, v1, v2, v3, v4, rfl⟩ := array5 (hsz.trans cellsEnt)
  obtain ⟨fuel, hf⟩ := h
  obtain ⟨xs, n, _, hx, hl, hlen, hel⟩ := DataW.trod_struct Try.underlying23 hf
  match xs, hlen with
  | [y0, y1, y2, y3, y4], _ =>
    have k0 : DataW.trod enc Try.prog w base sp held n 4 (List.take (Try.prog.cellsOf 4) (List.drop 0 (Value.agg #[v0, v1, v2, v3, v4]).cells.toList)) = some y0 := hel 0 _ rfl
    rw [cellsBool] at k0
    obtain ⟨a0, e0, f0⟩ := DataW.trod_bool Try.underlying4 k0
    have k1 : DataW.trod enc Try.prog w base sp held n 4 (List.take (Try.prog.cellsOf 4) (List.drop 1 (Value.agg #[v0, v1, v2, v3, v4]).cells.toList)) = some y1 := hel 1 _ rfl
    rw [cellsBool] at k1
    obtain ⟨a1, e1, f1⟩ := DataW.trod_bool Try.underlying4 k1
    have k2 : DataW.trod enc Try.prog w base sp held n 4 (List.take (Try.prog.cellsOf 4) (List.drop 2 (Value.agg #[v0, v1, v2, v3, v4]).cells.toList)) = some y2 := hel 2 _ rfl
    rw [cellsBool] at k2
    obtain ⟨a2, e2, f2⟩ := DataW.trod_bool Try.underlying4 k2
    have k3 : DataW.trod enc Try.prog w base sp held n 4 (List.take (Try.prog.cellsOf 4) (List.drop 3 (Value.agg #[v0, v1, v2, v3, v4]).cells.toList)) = some y3 := hel 3 _ rfl
    rw [cellsBool] at k3
    obtain ⟨a3, e3, f3⟩ := DataW.trod_bool Try.underlying4 k3
    have k4 : DataW.trod enc Try.prog w base sp held n 3 (List.take (Try.prog.cellsOf 3) (List.drop 4 (Value.agg #[v0, v1, v2, v3, v4]).cells.toList)) = some y4 := hel 4 _ rfl
    rw [cellsInt] at k4
    obtain ⟨a4, e4, f4, _⟩ := DataW.trod_int Try.underlying3 k4
    have g0 := take_one e0
    have g1 := take_one e1
    have g2 := take_one e2
    have g3 := take_one e3
    have g4 := take_one e4
    simp [Value.cells] at g0 g1 g2 g3 g4
    subst g0 g1 g2 g3 g4 f0 f1 f2 f3 f4
    exact ⟨_, _, _, _, _, rfl, by simpa using (congrArg (·.2) hx)⟩
end En
end Go.Proofs.Ytpmhphbfbcgfnaa
