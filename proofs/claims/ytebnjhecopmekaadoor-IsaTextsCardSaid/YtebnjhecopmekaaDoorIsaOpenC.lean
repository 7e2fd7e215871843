/-
  How a slice of instructions that comes in is opened; no condition.
-/
import Derived.Test.YtebnjhecopmekaaDoorIsaOpenB
import Derived.Test.YtebnjhecopmekaaDoorIsaOpen
import Derived.Test.YtebnjhecopmekaaDoorIsaTextsMath
import Derived.Deep.Slices
namespace Go.Proofs.YtebnjhecopmekaaDoor
open Go.ChangeShapes Go.WideShapes Go.ChangeAt Go.RowKit Go.Deep

/-- A row of instructions lies in the world. -/
def InsAt (w : World) (b off len : Nat) (x : Inss) : Prop := ∀ k, k < len →
  w.cell? ⟨b, off + k * 4, none⟩ = some (.int .i64 (x.o k)) ∧ w.cell? ⟨b, off + k * 4 + 1, none⟩ = some (.int .i64 (x.a k)) ∧ w.cell? ⟨b, off + k * 4 + 2, none⟩ = some (.int .i64 (x.b k)) ∧ w.cell? ⟨b, off + k * 4 + 3, none⟩ = some (.int .i64 (x.i k))
theorem InsAt.kept {w w' : World} {b off len : Nat} {x : Inss} (h : InsAt w b off len x) (hb : Below w.heap.size w w') : InsAt w' b off len x := fun k hk => by
  obtain ⟨c0, c1, c2, c3⟩ := h k hk
  exact ⟨keep hb c0, keep hb c1, keep hb c2, keep hb c3⟩
/-- One instruction's four numbers. -/
def four4 (W : World) (a : Addr) (i : Nat) (v : Int × Int × Int × Int) : Prop :=
  W.cell? (a.add (i * 4)) = some (.int .i64 v.1) ∧ W.cell? (a.add (i * 4 + 1)) = some (.int .i64 v.2.1) ∧ W.cell? (a.add (i * 4 + 2)) = some (.int .i64 v.2.2.1) ∧ W.cell? (a.add (i * 4 + 3)) = some (.int .i64 v.2.2.2)
theorem take_one {l : List Value} {j : Nat} {v : Value} (h : (l.drop j).take 1 = [v]) : l[j]? = some v := by
  have := congrArg (·[0]?) h
  simpa [List.getElem?_take, List.getElem?_drop] using this
set_option maxRecDepth 100000 in
theorem inss_open {H : Type} {enc : TypeId × Value → H} {W : World} {base : Nat} {v : Value} {d : DataW H} {p : List MemPlace}
    (hval : Value.okWide Tryd.prog W .any base 42 v) (h : DataW.Trod enc Tryd.prog W 0 (fun _ => true) true 42 v d p) :
    ∃ a len cap, v = .slice a len cap ∧ len ≤ maxLen ∧ (∀ x ∈ p, x.block < W.heap.size) ∧ (0 < len → ∃ b off x, a = some ⟨b, off, none⟩ ∧ InsAt W b off len x) := by
  obtain ⟨a, len, cap, rfl⟩ := okWide_slice Tryd.underlying42 hval
  have lt0 : ∀ x ∈ p, x.block < W.heap.size := by obtain ⟨m, hm⟩ := h; exact DataW.trod_lt m _ _ _ hm
  obtain ⟨fuel, hf⟩ := h
  rcases open_slice Tryd.underlying42 hf with ⟨hcs, _⟩ | ⟨x, l, c, m, n, D, Pl, hcs, _, hl, hm, hmm, _, hi⟩
  · simp [Value.cells] at hcs
    obtain ⟨rfl, rfl, rfl⟩ := hcs
    exact ⟨_, _, _, rfl, by unfold maxLen; omega, lt0, fun h => by omega⟩
  · simp [Value.cells] at hcs
    obtain ⟨rfl, rfl, rfl⟩ := hcs
    refine ⟨_, _, _, rfl, by omega, lt0, fun hn => ?_⟩
    have hmc : len ≤ m := by rw [hmm]; split <;> omega
    have each : ∀ i, i < len → ∃ v, four4 W x i v := by
      intro i him
      obtain ⟨cs', hc, ht'⟩ := hi i (by omega)
      rw [cellsIns] at hc
      obtain ⟨_, hcl, hat⟩ := World.cells?_some hc
      obtain ⟨y0, y1, y2, y3, n', _, k0, k1, k2, k3⟩ := trod_struct4 Tryd.underlying23 ht'
      simp only [cellsInt] at k0 k1 k2 k3
      obtain ⟨i0, c0, _, _⟩ := DataW.trod_int Tryd.underlying3 k0
      obtain ⟨i1, c1, _, _⟩ := DataW.trod_int Tryd.underlying3 k1
      obtain ⟨i2, c2, _, _⟩ := DataW.trod_int Tryd.underlying3 k2
      obtain ⟨i3, c3, _, _⟩ := DataW.trod_int Tryd.underlying3 k3
      refine ⟨(i0, i1, i2, i3), ?_, ?_, ?_, ?_⟩
      · have := (hat 0 (by decide)).trans (take_one c0); rw [Go.Deep.add_add] at this; exact this
      · have := (hat 1 (by decide)).trans (take_one c1); rw [Go.Deep.add_add] at this; exact this
      · have := (hat 2 (by decide)).trans (take_one c2); rw [Go.Deep.add_add] at this; exact this
      · have := (hat 3 (by decide)).trans (take_one c3); rw [Go.Deep.add_add] at this; exact this
    have all : ∀ i, ∃ v, i < len → four4 W x i v := fun i => by
      by_cases h : i < len
      · obtain ⟨v, hv⟩ := each i h; exact ⟨v, fun _ => hv⟩
      · exact ⟨(0, 0, 0, 0), fun h' => absurd h' h⟩
    obtain ⟨b, off, spot⟩ := x
    obtain ⟨v0, hv0⟩ := each 0 hn
    have hs : spot = none := by simpa [Addr.add] using World.cell?_spot hv0.1
    subst hs
    refine ⟨b, off, ⟨fun k => (Classical.choose (all k)).1, fun k => (Classical.choose (all k)).2.1, fun k => (Classical.choose (all k)).2.2.1, fun k => (Classical.choose (all k)).2.2.2⟩, rfl, fun k hk => ?_⟩
    obtain ⟨e0, e1, e2, e3⟩ := Classical.choose_spec (all k) hk
    rw [add_eq] at e0 e1 e2 e3
    exact ⟨e0, e1, e2, e3⟩
end Go.Proofs.YtebnjhecopmekaaDoor
