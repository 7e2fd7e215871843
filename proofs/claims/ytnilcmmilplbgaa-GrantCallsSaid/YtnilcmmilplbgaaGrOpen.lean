/-
  A row of calls, opened when it comes in; what lies in old blocks stays. Conditions: none.
-/
import Derived.Test.YtnilcmmilplbgaaPhBase
import Derived.ProofKit
import Derived.LaidMore
import Derived.OpenShut
import Derived.ShutString
import Derived.ChangeOld
import Derived.SizedLaws
import Derived.Deep.Slices
import Derived.Deep.Grids
import Derived.Deep.Modes
namespace Go.Proofs.Ytnilcmmilplbgaa
open Go.ChangeShapes Go.WideShapes Go.ChangeAt Go.RowKit Go.Deep
namespace Gr
open Ph (Only)
theorem ownK : ownKnob Try.prog.godebug = none := by kernel_rfl
theorem laidOut : laidOutB Try.prog = true := by kernel_rfl
theorem cells_bool : Try.prog.cellsOf 4 = 1 := by kernel_rfl
theorem cells_int : Try.prog.cellsOf 3 = 1 := by kernel_rfl
theorem cellsCall : Try.prog.cellsOf 30 = 6 := by kernel_rfl
theorem take_one {l : List Value} {j : Nat} {v : Value} (h : (l.drop j).take 1 = [v]) : l[j]? = some v := by
  have := congrArg (·[0]?) h
  simpa [List.getElem?_take, List.getElem?_drop] using this
theorem addr_eq (b off k : Nat) : ({ block := b, off := off } : Addr).add k = ⟨b, off + k, none⟩ := by simp [Addr.add]
/-- A call. -/
abbrev GCallsT := Int × Int × Int × Int × Int × Bool
abbrev GCallsV (c : GCallsT) : Value := .agg #[.int .i64 c.1, .int .i64 c.2.1, .int .i64 c.2.2.1, .int .i64 c.2.2.2.1, .int .i64 c.2.2.2.2.1, .bool c.2.2.2.2.2]
/-- The cells of a call. -/
structure GCallsAt (W : World) (b off k : Nat) (c : GCallsT) : Prop where
  c0 : W.cell? ⟨b, off + k * 6, none⟩ = some (.int .i64 c.1)
  c1 : W.cell? ⟨b, off + k * 6 + 1, none⟩ = some (.int .i64 c.2.1)
  c2 : W.cell? ⟨b, off + k * 6 + 2, none⟩ = some (.int .i64 c.2.2.1)
  c3 : W.cell? ⟨b, off + k * 6 + 3, none⟩ = some (.int .i64 c.2.2.2.1)
  c4 : W.cell? ⟨b, off + k * 6 + 4, none⟩ = some (.int .i64 c.2.2.2.2.1)
  c5 : W.cell? ⟨b, off + k * 6 + 5, none⟩ = some (.bool c.2.2.2.2.2)
  w0 : (Lit.int .i64 c.1).wf = true
  w1 : (Lit.int .i64 c.2.1).wf = true
  w2 : (Lit.int .i64 c.2.2.1).wf = true
  w3 : (Lit.int .i64 c.2.2.2.1).wf = true
  w4 : (Lit.int .i64 c.2.2.2.2.1).wf = true
theorem GCallsAt.kept {w w' : World} {b off k : Nat} {c : GCallsT} {S : List Nat} (h : GCallsAt w b off k c) (ho : Only S w w') (hb : b ∉ S) : GCallsAt w' b off k c := by
  have hl := World.block_lt_of_cell? w _ h.c0
  exact ⟨(ho.cell hl hb _).trans h.c0, (ho.cell hl hb _).trans h.c1, (ho.cell hl hb _).trans h.c2, (ho.cell hl hb _).trans h.c3, (ho.cell hl hb _).trans h.c4, (ho.cell hl hb _).trans h.c5, h.w0, h.w1, h.w2, h.w3, h.w4⟩
/-- A row of calls lies in old blocks. -/
def GCalls (B : Nat) (w : World) (pa : Option Addr) (len : Nat) (y : Nat → GCallsT) : Prop := 0 < len → ∃ b off, pa = some ⟨b, off, none⟩ ∧ b < B ∧ ∀ k, k < len → GCallsAt w b off k (y k)
theorem GCalls.at {w w' : World} {pa : Option Addr} {len : Nat} {y : Nat → GCallsT} (h : GCalls w.heap.size w pa len y) (hb : Below w.heap.size w w') {i : Nat} (hi : i < len) : ∃ b off, pa = some ⟨b, off, none⟩ ∧ b < w.heap.size ∧ GCallsAt w' b off i (y i) := by
  obtain ⟨b, off, e, hl, hc⟩ := h (by omega)
  have h := hc i hi
  exact ⟨b, off, e, hl, (hb.cell (p := ⟨b, _, none⟩) hl).trans h.c0, (hb.cell (p := ⟨b, _, none⟩) hl).trans h.c1, (hb.cell (p := ⟨b, _, none⟩) hl).trans h.c2, (hb.cell (p := ⟨b, _, none⟩) hl).trans h.c3, (hb.cell (p := ⟨b, _, none⟩) hl).trans h.c4, (hb.cell (p := ⟨b, _, none⟩) hl).trans h.c5, h.w0, h.w1, h.w2, h.w3, h.w4⟩
set_option maxRecDepth 100000 in
theorem gcalls_open {H : Type} {enc : TypeId × Value → H} {W : World} {base : Nat} {v : Value} {d : DataW H} {p : List MemPlace}
    (hval : Value.okWide Try.prog W .any base 22 v) (h : DataW.Trod enc Try.prog W 0 (fun _ => true) true 22 v d p)
    (_ : ∀ n ∈ d.weights Try.prog 22, n ≤ reachBytes) :
    ∃ a len cap y, v = .slice a len cap ∧ (len ≤ cap ∧ cap ≤ maxLen) ∧ (∀ x ∈ p, x.block < W.heap.size) ∧ GCalls W.heap.size W a len y := by
  obtain ⟨a, len, cap, rfl⟩ := okWide_slice Try.underlying22 hval
  have lt0 : ∀ x ∈ p, x.block < W.heap.size := by obtain ⟨m, hm⟩ := h; exact DataW.trod_lt m _ _ _ hm
  obtain ⟨fuel, hf⟩ := h
  rcases open_slice Try.underlying22 hf with ⟨hcs, _⟩ | ⟨x, l, c, m, n, D, Pl, hcs, _, hl, hm, hmm, hx, hi⟩
  · simp [Value.cells] at hcs
    obtain ⟨rfl, rfl, rfl⟩ := hcs
    exact ⟨_, _, _, fun _ => (0, 0, 0, 0, 0, false), rfl, ⟨Nat.le_refl _, by unfold maxLen; omega⟩, lt0, fun h => by omega⟩
  · simp [Value.cells] at hcs
    obtain ⟨rfl, rfl, rfl⟩ := hcs
    have hmc : len ≤ m := by rw [hmm]; split <;> omega
    have each : ∀ i, i < len → ∃ (h : GCallsT), W.cell? (x.add (i * 6)) = some (.int .i64 h.1) ∧ W.cell? (x.add (i * 6 + 1)) = some (.int .i64 h.2.1) ∧ W.cell? (x.add (i * 6 + 2)) = some (.int .i64 h.2.2.1) ∧ W.cell? (x.add (i * 6 + 3)) = some (.int .i64 h.2.2.2.1) ∧ W.cell? (x.add (i * 6 + 4)) = some (.int .i64 h.2.2.2.2.1) ∧ W.cell? (x.add (i * 6 + 5)) = some (.bool h.2.2.2.2.2) ∧ (Lit.int .i64 h.1).wf = true ∧ (Lit.int .i64 h.2.1).wf = true ∧ (Lit.int .i64 h.2.2.1).wf = true ∧ (Lit.int .i64 h.2.2.2.1).wf = true ∧ (Lit.int .i64 h.2.2.2.2.1).wf = true := by
      intro i him
      obtain ⟨cs', hc, ht'⟩ := hi i (by omega)
      rw [cellsCall] at hc
      obtain ⟨_, hcl, hat⟩ := World.cells?_some hc
      obtain ⟨xs, n', _, _, _, hlen, hel⟩ := DataW.trod_struct Try.underlying30 ht'
      match xs, hlen with
      | [y0, y1, y2, y3, y4, y5], _ =>
        have k0 : DataW.trod enc Try.prog W 0 _ true n' 3 (List.take (Try.prog.cellsOf 3) (List.drop 0 cs')) = some y0 := hel 0 _ rfl
        have k1 : DataW.trod enc Try.prog W 0 _ true n' 3 (List.take (Try.prog.cellsOf 3) (List.drop 1 cs')) = some y1 := hel 1 _ rfl
        have k2 : DataW.trod enc Try.prog W 0 _ true n' 3 (List.take (Try.prog.cellsOf 3) (List.drop 2 cs')) = some y2 := hel 2 _ rfl
        have k3 : DataW.trod enc Try.prog W 0 _ true n' 3 (List.take (Try.prog.cellsOf 3) (List.drop 3 cs')) = some y3 := hel 3 _ rfl
        have k4 : DataW.trod enc Try.prog W 0 _ true n' 3 (List.take (Try.prog.cellsOf 3) (List.drop 4 cs')) = some y4 := hel 4 _ rfl
        have k5 : DataW.trod enc Try.prog W 0 _ true n' 4 (List.take (Try.prog.cellsOf 4) (List.drop 5 cs')) = some y5 := hel 5 _ rfl
        rw [cells_bool] at k5
        rw [cells_int] at k0 k1 k2 k3 k4
        obtain ⟨a0, f0, _, u0⟩ := DataW.trod_int Try.underlying3 k0
        obtain ⟨a1, f1, _, u1⟩ := DataW.trod_int Try.underlying3 k1
        obtain ⟨a2, f2, _, u2⟩ := DataW.trod_int Try.underlying3 k2
        obtain ⟨a3, f3, _, u3⟩ := DataW.trod_int Try.underlying3 k3
        obtain ⟨a4, f4, _, u4⟩ := DataW.trod_int Try.underlying3 k4
        obtain ⟨a5, f5, _⟩ := DataW.trod_bool Try.underlying4 k5
        refine ⟨(a0, a1, a2, a3, a4, a5), ?_, ?_, ?_, ?_, ?_, ?_, u0, u1, u2, u3, u4⟩
        · have := (hat 0 (by decide)).trans (take_one f0); rw [Go.Deep.add_add] at this; exact this
        · have := (hat 1 (by decide)).trans (take_one f1); rw [Go.Deep.add_add] at this; exact this
        · have := (hat 2 (by decide)).trans (take_one f2); rw [Go.Deep.add_add] at this; exact this
        · have := (hat 3 (by decide)).trans (take_one f3); rw [Go.Deep.add_add] at this; exact this
        · have := (hat 4 (by decide)).trans (take_one f4); rw [Go.Deep.add_add] at this; exact this
        · have := (hat 5 (by decide)).trans (take_one f5); rw [Go.Deep.add_add] at this; exact this
    have all : ∀ i, ∃ (h : GCallsT), i < len → W.cell? (x.add (i * 6)) = some (.int .i64 h.1) ∧ W.cell? (x.add (i * 6 + 1)) = some (.int .i64 h.2.1) ∧ W.cell? (x.add (i * 6 + 2)) = some (.int .i64 h.2.2.1) ∧ W.cell? (x.add (i * 6 + 3)) = some (.int .i64 h.2.2.2.1) ∧ W.cell? (x.add (i * 6 + 4)) = some (.int .i64 h.2.2.2.2.1) ∧ W.cell? (x.add (i * 6 + 5)) = some (.bool h.2.2.2.2.2) ∧ (Lit.int .i64 h.1).wf = true ∧ (Lit.int .i64 h.2.1).wf = true ∧ (Lit.int .i64 h.2.2.1).wf = true ∧ (Lit.int .i64 h.2.2.2.1).wf = true ∧ (Lit.int .i64 h.2.2.2.2.1).wf = true := fun i => by
      by_cases h : i < len
      · obtain ⟨o, ho⟩ := each i h; exact ⟨o, fun _ => ho⟩
      · exact ⟨(0, 0, 0, 0, 0, false), fun h' => absurd h' h⟩
    clear each hi hf
    obtain ⟨g, hg⟩ := Classical.axiomOfChoice all
    refine ⟨_, _, _, g, rfl, ⟨hl, hm⟩, lt0, fun hn => ?_⟩
    obtain ⟨b, off, spot⟩ := x
    have hv0 := (hg 0 hn).1
    have hs : spot = none := by simpa [Addr.add] using World.cell?_spot hv0
    subst hs
    refine ⟨b, off, rfl, World.block_lt_of_cell? W _ (show W.cell? ⟨b, off + 0 * 6, none⟩ = _ from by have := hv0; rw [addr_eq] at this; exact this), fun k hk => ?_⟩
    obtain ⟨e0, e1, e2, e3, e4, e5, u0, u1, u2, u3, u4⟩ := hg k hk
    rw [addr_eq] at e0 e1 e2 e3 e4 e5
    exact ⟨e0, e1, e2, e3, e4, e5, u0, u1, u2, u3, u4⟩
end Gr
end Go.Proofs.Ytnilcmmilplbgaa
