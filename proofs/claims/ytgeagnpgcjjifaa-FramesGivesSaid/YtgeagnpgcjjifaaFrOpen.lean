/-
  A row of calls, opened when it comes in; what lies in old blocks stays. Conditions: none.
-/
import Derived.Test.YtgeagnpgcjjifaaFrBase
import Derived.ProofKit
import Derived.LaidMore
import Derived.OpenShut
import Derived.ShutString
import Derived.ChangeOld
import Derived.SizedLaws
import Derived.Deep.Slices
import Derived.Deep.Grids
import Derived.Deep.Modes
namespace Go.Proofs.Ytgeagnpgcjjifaa
open Go.ChangeShapes Go.WideShapes Go.ChangeAt Go.RowKit Go.Deep
namespace Fr
open Ph (Only)
theorem own : ownKnob Try.prog.godebug = none := by kernel_rfl
theorem laidOut : laidOutB Try.prog = true := by kernel_rfl
theorem cellsInt : Try.prog.cellsOf 3 = 1 := by kernel_rfl
theorem cellsCall : Try.prog.cellsOf 32 = 4 := by kernel_rfl
theorem take_one {l : List Value} {j : Nat} {v : Value} (h : (l.drop j).take 1 = [v]) : l[j]? = some v := by
  have := congrArg (·[0]?) h
  simpa [List.getElem?_take, List.getElem?_drop] using this
theorem addr_eq (b off k : Nat) : ({ block := b, off := off } : Addr).add k = ⟨b, off + k, none⟩ := by simp [Addr.add]
/-- A call: What, Owner, To, Frame. -/
abbrev CallT := Int × Int × Int × Int
abbrev callV (c : CallT) : Value := .agg #[.int .i64 c.1, .int .i64 c.2.1, .int .i64 c.2.2.1, .int .i64 c.2.2.2]
/-- The cells of a call. -/
structure CallAt (W : World) (b off k : Nat) (c : CallT) : Prop where
  c0 : W.cell? ⟨b, off + k * 4, none⟩ = some (.int .i64 c.1)
  c1 : W.cell? ⟨b, off + k * 4 + 1, none⟩ = some (.int .i64 c.2.1)
  c2 : W.cell? ⟨b, off + k * 4 + 2, none⟩ = some (.int .i64 c.2.2.1)
  c3 : W.cell? ⟨b, off + k * 4 + 3, none⟩ = some (.int .i64 c.2.2.2)
theorem CallAt.kept {w w' : World} {b off k : Nat} {c : CallT} {S : List Nat} (h : CallAt w b off k c) (ho : Only S w w') (hb : b ∉ S) : CallAt w' b off k c := by
  have hl := World.block_lt_of_cell? w _ h.c0
  exact ⟨(ho.cell hl hb _).trans h.c0, (ho.cell hl hb _).trans h.c1, (ho.cell hl hb _).trans h.c2, (ho.cell hl hb _).trans h.c3⟩
/-- A row of calls lies in old blocks. -/
def FCalls (B : Nat) (w : World) (pa : Option Addr) (len : Nat) (y : Nat → CallT) : Prop := 0 < len → ∃ b off, pa = some ⟨b, off, none⟩ ∧ b < B ∧ ∀ k, k < len → CallAt w b off k (y k)
theorem FCalls.at {w w' : World} {pa : Option Addr} {len : Nat} {y : Nat → CallT} (h : FCalls w.heap.size w pa len y) (hb : Below w.heap.size w w') {i : Nat} (hi : i < len) : ∃ b off, pa = some ⟨b, off, none⟩ ∧ b < w.heap.size ∧ CallAt w' b off i (y i) := by
  obtain ⟨b, off, e, hl, hc⟩ := h (by omega)
  have c := hc i hi
  exact ⟨b, off, e, hl, (hb.cell (p := ⟨b, _, none⟩) hl).trans c.c0, (hb.cell (p := ⟨b, _, none⟩) hl).trans c.c1, (hb.cell (p := ⟨b, _, none⟩) hl).trans c.c2, (hb.cell (p := ⟨b, _, none⟩) hl).trans c.c3⟩
set_option maxRecDepth 100000 in
theorem fcalls_open {H : Type} {enc : TypeId × Value → H} {W : World} {base : Nat} {v : Value} {d : DataW H} {p : List MemPlace}
    (hval : Value.okWide Try.prog W .any base 22 v) (h : DataW.Trod enc Try.prog W 0 (fun _ => true) true 22 v d p)
    (_ : ∀ n ∈ d.weights Try.prog 22, n ≤ reachBytes) :
    ∃ a len cap y, v = .slice a len cap ∧ (len ≤ cap ∧ cap ≤ maxLen) ∧ (∀ x ∈ p, x.block < W.heap.size) ∧ FCalls W.heap.size W a len y := by
  obtain ⟨a, len, cap, rfl⟩ := okWide_slice Try.underlying22 hval
  have lt0 : ∀ x ∈ p, x.block < W.heap.size := by obtain ⟨m, hm⟩ := h; exact DataW.trod_lt m _ _ _ hm
  obtain ⟨fuel, hf⟩ := h
  rcases open_slice Try.underlying22 hf with ⟨hcs, _⟩ | ⟨x, l, c, m, n, D, Pl, hcs, _, hl, hm, hmm, hx, hi⟩
  · simp [Value.cells] at hcs
    obtain ⟨rfl, rfl, rfl⟩ := hcs
    exact ⟨_, _, _, fun _ => (0, 0, 0, 0), rfl, ⟨Nat.le_refl _, by unfold maxLen; omega⟩, lt0, fun h => by omega⟩
  · simp [Value.cells] at hcs
    obtain ⟨rfl, rfl, rfl⟩ := hcs
    have hmc : len ≤ m := by rw [hmm]; split <;> omega
    have each : ∀ i, i < len → ∃ (h : CallT), W.cell? (x.add (i * 4)) = some (.int .i64 h.1) ∧ W.cell? (x.add (i * 4 + 1)) = some (.int .i64 h.2.1) ∧ W.cell? (x.add (i * 4 + 2)) = some (.int .i64 h.2.2.1) ∧ W.cell? (x.add (i * 4 + 3)) = some (.int .i64 h.2.2.2) := by
      intro i him
      obtain ⟨cs', hc, ht'⟩ := hi i (by omega)
      rw [cellsCall] at hc
      obtain ⟨_, hcl, hat⟩ := World.cells?_some hc
      obtain ⟨xs, n', _, _, _, hlen, hel⟩ := DataW.trod_struct Try.underlying32 ht'
      match xs, hlen with
      | [y0, y1, y2, y3], _ =>
        have k0 : DataW.trod enc Try.prog W 0 _ true n' 3 (List.take (Try.prog.cellsOf 3) (List.drop 0 cs')) = some y0 := hel 0 _ rfl
        have k1 : DataW.trod enc Try.prog W 0 _ true n' 3 (List.take (Try.prog.cellsOf 3) (List.drop 1 cs')) = some y1 := hel 1 _ rfl
        have k2 : DataW.trod enc Try.prog W 0 _ true n' 3 (List.take (Try.prog.cellsOf 3) (List.drop 2 cs')) = some y2 := hel 2 _ rfl
        have k3 : DataW.trod enc Try.prog W 0 _ true n' 3 (List.take (Try.prog.cellsOf 3) (List.drop 3 cs')) = some y3 := hel 3 _ rfl
        rw [cellsInt] at k0 k1 k2 k3
        obtain ⟨a0, f0, _, _⟩ := DataW.trod_int Try.underlying3 k0
        obtain ⟨a1, f1, _, _⟩ := DataW.trod_int Try.underlying3 k1
        obtain ⟨a2, f2, _, _⟩ := DataW.trod_int Try.underlying3 k2
        obtain ⟨a3, f3, _, _⟩ := DataW.trod_int Try.underlying3 k3
        refine ⟨(a0, a1, a2, a3), ?_, ?_, ?_, ?_⟩
        · have := (hat 0 (by decide)).trans (take_one f0); rw [Go.Deep.add_add] at this; exact this
        · have := (hat 1 (by decide)).trans (take_one f1); rw [Go.Deep.add_add] at this; exact this
        · have := (hat 2 (by decide)).trans (take_one f2); rw [Go.Deep.add_add] at this; exact this
        · have := (hat 3 (by decide)).trans (take_one f3); rw [Go.Deep.add_add] at this; exact this
    have all : ∀ i, ∃ (h : CallT), i < len → W.cell? (x.add (i * 4)) = some (.int .i64 h.1) ∧ W.cell? (x.add (i * 4 + 1)) = some (.int .i64 h.2.1) ∧ W.cell? (x.add (i * 4 + 2)) = some (.int .i64 h.2.2.1) ∧ W.cell? (x.add (i * 4 + 3)) = some (.int .i64 h.2.2.2) := fun i => by
      by_cases h : i < len
      · obtain ⟨o, ho⟩ := each i h; exact ⟨o, fun _ => ho⟩
      · exact ⟨(0, 0, 0, 0), fun h' => absurd h' h⟩
    clear each hi hf
    obtain ⟨g, hg⟩ := Classical.axiomOfChoice all
    refine ⟨_, _, _, g, rfl, ⟨hl, hm⟩, lt0, fun hn => ?_⟩
    obtain ⟨b, off, spot⟩ := x
    have hv0 := (hg 0 hn).1
    have hs : spot = none := by simpa [Addr.add] using World.cell?_spot hv0
    subst hs
    refine ⟨b, off, rfl, World.block_lt_of_cell? W _ (show W.cell? ⟨b, off + 0 * 4, none⟩ = _ from by have := hv0; rw [addr_eq] at this; exact this), fun k hk => ?_⟩
    obtain ⟨e0, e1, e2, e3⟩ := hg k hk
    rw [addr_eq] at e0 e1 e2 e3
    exact ⟨e0, e1, e2, e3⟩
end Fr
end Go.Proofs.Ytgeagnpgcjjifaa
