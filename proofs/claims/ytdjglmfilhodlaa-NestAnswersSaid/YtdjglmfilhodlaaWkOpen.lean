/-
  A row of words at addresses, and a row of words, opened when they come in; no condition.
-/
import Derived.Test.YtdjglmfilhodlaaWkAlive
import Derived.ProofKit
import Derived.OpenShut
import Derived.ShutString
import Derived.ChangeOld
import Derived.SizedLaws
import Derived.Deep.Slices
import Derived.Deep.Modes
namespace Go.Proofs.Ytdjglmfilhodlaa
open Go.ChangeShapes Go.WideShapes Go.ChangeAt Go.RowKit Go.Deep
namespace Wk
theorem own : ownKnob Try.prog.godebug = none := by kernel_rfl
theorem laidOut : laidOutB Try.prog = true := by kernel_rfl
theorem cellsU32 : Try.prog.cellsOf 23 = 1 := by kernel_rfl
theorem cellsPut : Try.prog.cellsOf 58 = 2 := by kernel_rfl
theorem take_one {l : List Value} {j : Nat} {v : Value} (h : (l.drop j).take 1 = [v]) : l[j]? = some v := by
  have := congrArg (·[0]?) h
  simpa [List.getElem?_take, List.getElem?_drop] using this
theorem trod_struct2 {H : Type} {enc : TypeId × Value → H} {w : World} {base : Nat} {spare : Nat → Bool} {held : Bool} {t : TypeId} {f0 f1 : Field} {fuel : Nat} {cs : List Value} {x : DataW H × List MemPlace} (ht : Try.prog.underlying t = some (.struct #[f0, f1])) (h : DataW.trod enc Try.prog w base spare held fuel t cs = some x) :
    ∃ y0 y1 n, DataW.trod enc Try.prog w base spare held n f0.type ((cs.drop f0.offset).take (Try.prog.cellsOf f0.type)) = some y0 ∧
      DataW.trod enc Try.prog w base spare held n f1.type ((cs.drop f1.offset).take (Try.prog.cellsOf f1.type)) = some y1 := by
  obtain ⟨xs, n, _, rfl, hl, hlen, hf⟩ := DataW.trod_struct ht h
  match xs, hlen with
  | [y0, y1], _ => exact ⟨y0, y1, n, by simpa using hf 0 f0 rfl, by simpa using hf 1 f1 rfl⟩
/-- One of them, at an address. -/
structure OneAt (W : World) (a : Addr) (i ad : Nat) (vl : Int) : Prop where
  c0 : W.cell? (a.add (i * 2)) = some (.int .u32 ad)
  c1 : W.cell? (a.add (i * 2 + 1)) = some (.int .u32 vl)
  ad : ad < 4294967296
  v0 : 0 ≤ vl
  v1 : vl < 4294967296
set_option maxRecDepth 100000 in
theorem puts_open {H : Type} {enc : TypeId × Value → H} {W : World} {base : Nat} {v : Value} {d : DataW H} {p : List MemPlace}
    (hval : Value.okWide Try.prog W .any base 22 v) (h : DataW.Trod enc Try.prog W 0 (fun _ => true) true 22 v d p)
    (_ : ∀ n ∈ d.weights Try.prog 22, n ≤ reachBytes) :
    ∃ a len cap x, v = .slice a len cap ∧ len ≤ maxLen ∧ (∀ x ∈ p, x.block < W.heap.size) ∧ PutsIn W.heap.size W a len x := by
  obtain ⟨a, len, cap, rfl⟩ := okWide_slice Try.underlying22 hval
  have lt0 : ∀ x ∈ p, x.block < W.heap.size := by obtain ⟨m, hm⟩ := h; exact DataW.trod_lt m _ _ _ hm
  obtain ⟨fuel, hf⟩ := h
  rcases open_slice Try.underlying22 hf with ⟨hcs, _⟩ | ⟨x, l, c, m, n, D, Pl, hcs, _, hl, hm, hmm, hx, hi⟩
  · simp [Value.cells] at hcs
    obtain ⟨rfl, rfl, rfl⟩ := hcs
    exact ⟨_, _, _, ⟨fun _ => 0, fun _ => 0⟩, rfl, by unfold maxLen; omega, lt0, fun h => by omega⟩
  · simp [Value.cells] at hcs
    obtain ⟨rfl, rfl, rfl⟩ := hcs
    have hmc : len ≤ m := by rw [hmm]; split <;> omega
    have each : ∀ i, i < len → ∃ (o : Nat × Int), OneAt W x i o.1 o.2 := by
      intro i him
      obtain ⟨cs', hc, ht'⟩ := hi i (by omega)
      rw [cellsPut] at hc
      obtain ⟨_, hcl, hat⟩ := World.cells?_some hc
      obtain ⟨y0, y1, n', k0, k1⟩ := trod_struct2 Try.underlying58 ht'
      simp only [cellsU32] at k0 k1
      obtain ⟨i0, c0, _, w0⟩ := DataW.trod_int Try.underlying23 k0
      obtain ⟨i1, c1, _, w1⟩ := DataW.trod_int Try.underlying23 k1
      have b0 := bounds_u32 w0
      have b1 := bounds_u32 w1
      obtain ⟨i0, rfl⟩ := Int.eq_ofNat_of_zero_le b0.1
      refine ⟨⟨i0, i1⟩, ?_, ?_, by omega, b1.1, by omega⟩
      · have := (hat 0 (by decide)).trans (take_one c0); rw [Go.Deep.add_add] at this; exact this
      · have := (hat 1 (by decide)).trans (take_one c1); rw [Go.Deep.add_add] at this; exact this
    have all : ∀ i, ∃ (o : Nat × Int), i < len → OneAt W x i o.1 o.2 := fun i => by
      by_cases h : i < len
      · obtain ⟨o, ho⟩ := each i h; exact ⟨o, fun _ => ho⟩
      · exact ⟨⟨0, 0⟩, fun h' => absurd h' h⟩
    refine ⟨_, _, _, ⟨fun k => (Classical.choose (all k)).1, fun k => (Classical.choose (all k)).2⟩, rfl, by omega, lt0, fun hn => ?_⟩
    obtain ⟨b, off, spot⟩ := x
    obtain ⟨v0, hv0⟩ := each 0 hn
    have hs : spot = none := by simpa [Addr.add] using World.cell?_spot hv0.c0
    subst hs
    refine ⟨b, off, rfl, World.block_lt_of_cell? W _ (show W.cell? ⟨b, off + 0, none⟩ = _ from by have := hv0.c0; rw [Ph.add_eq] at this; simpa using this), fun k hk => ?_⟩
    have q := Classical.choose_spec (all k) hk
    obtain ⟨e0, e1, q5, q6, q7⟩ := q
    rw [Ph.add_eq] at e0 e1
    exact ⟨e0, e1, q5, q6, q7⟩
/-- A row of words lies in old blocks. -/
def WordsIn (B : Nat) (w : World) (pa : Option Addr) (len : Nat) (y : Nat → Nat) : Prop := (0 < len → ∃ b off, pa = some ⟨b, off, none⟩ ∧ b < B ∧ ∀ j, j < len → w.cell? ⟨b, off + j, none⟩ = some (.int .u32 (y j))) ∧ ∀ j, j < len → y j < 4294967296
theorem WordsIn.kept {B : Nat} {w w' : World} {pa : Option Addr} {len : Nat} {y : Nat → Nat} {S : List Nat} (h : WordsIn B w pa len y) (ho : Ph.Only S w w') (hs : ∀ x ∈ S, B ≤ x) : WordsIn B w' pa len y := by
  refine ⟨fun hn => ?_, h.2⟩
  obtain ⟨b, off, e, hb, hc⟩ := h.1 hn
  exact ⟨b, off, e, hb, fun j hj => (ho.cell (World.block_lt_of_cell? w _ (hc j hj)) (fun x => by have h2 : B ≤ b := hs _ x; omega) _).trans (hc j hj)⟩
set_option maxRecDepth 100000 in
theorem words_open {H : Type} {enc : TypeId × Value → H} {W : World} {base : Nat} {v : Value} {d : DataW H} {p : List MemPlace}
    (hval : Value.okWide Try.prog W .any base 24 v) (h : DataW.Trod enc Try.prog W 0 (fun _ => true) true 24 v d p)
    (_ : ∀ n ∈ d.weights Try.prog 24, n ≤ reachBytes) :
    ∃ a len cap y, v = .slice a len cap ∧ len ≤ maxLen ∧ (∀ x ∈ p, x.block < W.heap.size) ∧ WordsIn W.heap.size W a len y := by
  obtain ⟨a, len, cap, rfl⟩ := okWide_slice Try.underlying24 hval
  have lt0 : ∀ x ∈ p, x.block < W.heap.size := by obtain ⟨m, hm⟩ := h; exact DataW.trod_lt m _ _ _ hm
  obtain ⟨fuel, hf⟩ := h
  rcases open_ints Try.underlying24 Try.underlying23 (by kernel_rfl) hf with ⟨hcs, _⟩ | ⟨a, l, c, zs, hcs, hlen, hl, hm, hz, hx, hcell, hwz⟩
  · simp [Value.cells] at hcs
    obtain ⟨rfl, rfl, rfl⟩ := hcs
    exact ⟨_, _, _, fun _ => 0, rfl, by unfold maxLen; omega, lt0, fun h => by omega, fun j hj => by omega⟩
  · simp [Value.cells] at hcs
    obtain ⟨rfl, rfl, rfl⟩ := hcs
    have hzl : len ≤ zs.length := by rw [hz]; split <;> omega
    have hy : ∀ j, j < len → 0 ≤ zs.getD j 0 ∧ zs.getD j 0 < 4294967296 := fun j hj => by
      have := bounds_u32 (hwz (zs.getD j 0) (by rw [List.getD_eq_getElem?_getD, List.getElem?_eq_getElem (by omega)]; exact List.getElem_mem _))
      exact ⟨this.1, by omega⟩
    refine ⟨_, _, _, fun j => (zs.getD j 0).toNat, rfl, by omega, lt0, fun hn => ?_, fun j hj => by have := hy j hj; show (zs.getD j 0).toNat < 4294967296; omega⟩
    obtain ⟨b, off, spot⟩ := a
    have hs : spot = none := by simpa [Addr.add] using World.cell?_spot (hcell 0 (by omega))
    subst hs
    have hcc : ∀ j, j < len → W.cell? ⟨b, off + j, none⟩ = some (.int .u32 ((zs.getD j 0).toNat : Nat)) := fun j hj => by
      rw [Int.toNat_of_nonneg (hy j hj).1, ← Ph.add_eq]
      exact hcell j (by omega)
    exact ⟨b, off, rfl, World.block_lt_of_cell? W _ (hcc 0 hn), hcc⟩
end Wk
end Go.Proofs.Ytdjglmfilhodlaa
