/-
  A row of calls on a space, and a call by value, opened when they come in. Conditions: none.
-/
import Derived.Test.YtiiggmfindfkfaaGreatStAlive
import Derived.ProofKit
import Derived.LaidMore
import Derived.OpenShut
import Derived.ShutString
import Derived.ChangeOld
import Derived.SizedLaws
import Derived.Deep.Slices
import Derived.Deep.Grids
import Derived.Deep.Modes
namespace Go.Proofs.YtiiggmfindfkfaaGreat
open Go.ChangeShapes Go.WideShapes Go.ChangeAt Go.RowKit Go.Deep
namespace St
open Ph (Only)
theorem own : ownKnob Tryz.prog.godebug = none := by kernel_rfl
theorem laidOut : laidOutB Tryz.prog = true := by kernel_rfl
theorem cellsBool : Tryz.prog.cellsOf 4 = 1 := by kernel_rfl
theorem cellsInt : Tryz.prog.cellsOf 3 = 1 := by kernel_rfl
theorem cellsCall : Tryz.prog.cellsOf 38 = 5 := by kernel_rfl
theorem take_one {l : List Value} {j : Nat} {v : Value} (h : (l.drop j).take 1 = [v]) : l[j]? = some v := by
  have := congrArg (·[0]?) h
  simpa [List.getElem?_take, List.getElem?_drop] using this
theorem addr_eq (b off k : Nat) : ({ block := b, off := off } : Addr).add k = ⟨b, off + k, none⟩ := by simp [Addr.add]
theorem array5 {α : Type} {a : Array α} (h : a.size = 5) : ∃ x y z u v, a = #[x, y, z, u, v] := by
  obtain ⟨l⟩ := a
  match l, h with
  | [x, y, z, u, v], _ => exact ⟨x, y, z, u, v, rfl⟩
abbrev callV (c : Cq) : Value := .agg #[.int .i64 c.what, .int .i64 c.page, .int .i64 c.frame, .bool c.w, .bool c.e]
/-- The cells of a call. -/
structure CallAt (W : World) (b off k : Nat) (c : Cq) : Prop where
  c0 : W.cell? ⟨b, off + k * 5, none⟩ = some (.int .i64 c.what)
  c1 : W.cell? ⟨b, off + k * 5 + 1, none⟩ = some (.int .i64 c.page)
  c2 : W.cell? ⟨b, off + k * 5 + 2, none⟩ = some (.int .i64 c.frame)
  c3 : W.cell? ⟨b, off + k * 5 + 3, none⟩ = some (.bool c.w)
  c4 : W.cell? ⟨b, off + k * 5 + 4, none⟩ = some (.bool c.e)
/-- A row of calls lies in old blocks. -/
def SCalls (B : Nat) (w : World) (pa : Option Addr) (len : Nat) (y : Nat → Cq) : Prop := 0 < len → ∃ b off, pa = some ⟨b, off, none⟩ ∧ b < B ∧ ∀ k, k < len → CallAt w b off k (y k)
theorem SCalls.at {w w' : World} {pa : Option Addr} {len : Nat} {y : Nat → Cq} (h : SCalls w.heap.size w pa len y) (hb : Below w.heap.size w w') {i : Nat} (hi : i < len) : ∃ b off, pa = some ⟨b, off, none⟩ ∧ b < w.heap.size ∧ CallAt w' b off i (y i) := by
  obtain ⟨b, off, e, hl, hc⟩ := h (by omega)
  have c := hc i hi
  exact ⟨b, off, e, hl, (hb.cell (p := ⟨b, _, none⟩) hl).trans c.c0, (hb.cell (p := ⟨b, _, none⟩) hl).trans c.c1, (hb.cell (p := ⟨b, _, none⟩) hl).trans c.c2, (hb.cell (p := ⟨b, _, none⟩) hl).trans c.c3, (hb.cell (p := ⟨b, _, none⟩) hl).trans c.c4⟩
set_option maxRecDepth 100000 in
theorem scalls_open {H : Type} {enc : TypeId × Value → H} {W : World} {base : Nat} {v : Value} {d : DataW H} {p : List MemPlace}
    (hval : Value.okWide Tryz.prog W .any base 22 v) (h : DataW.Trod enc Tryz.prog W 0 (fun _ => true) true 22 v d p)
    (_ : ∀ n ∈ d.weights Tryz.prog 22, n ≤ reachBytes) :
    ∃ a len cap y, v = .slice a len cap ∧ (len ≤ cap ∧ cap ≤ maxLen) ∧ (∀ x ∈ p, x.block < W.heap.size) ∧ SCalls W.heap.size W a len y := by
  obtain ⟨a, len, cap, rfl⟩ := okWide_slice Tryz.underlying22 hval
  have lt0 : ∀ x ∈ p, x.block < W.heap.size := by obtain ⟨m, hm⟩ := h; exact DataW.trod_lt m _ _ _ hm
  obtain ⟨fuel, hf⟩ := h
  rcases open_slice Tryz.underlying22 hf with ⟨hcs, _⟩ | ⟨x, l, c, m, n, D, Pl, hcs, _, hl, hm, hmm, hx, hi⟩
  · simp [Value.cells] at hcs
    obtain ⟨rfl, rfl, rfl⟩ := hcs
    exact ⟨_, _, _, fun _ => ⟨0, 0, 0, false, false⟩, rfl, ⟨Nat.le_refl _, by unfold maxLen; omega⟩, lt0, fun h => by omega⟩
  · simp [Value.cells] at hcs
    obtain ⟨rfl, rfl, rfl⟩ := hcs
    have hmc : len ≤ m := by rw [hmm]; split <;> omega
    have each : ∀ i, i < len → ∃ (h : Cq), W.cell? (x.add (i * 5)) = some (.int .i64 h.what) ∧ W.cell? (x.add (i * 5 + 1)) = some (.int .i64 h.page) ∧ W.cell? (x.add (i * 5 + 2)) = some (.int .i64 h.frame) ∧ W.cell? (x.add (i * 5 + 3)) = some (.bool h.w) ∧ W.cell? (x.add (i * 5 + 4)) = some (.bool h.e) := by
      intro i him
      obtain ⟨cs', hc, ht'⟩ := hi i (by omega)
      rw [cellsCall] at hc
      obtain ⟨_, hcl, hat⟩ := World.cells?_some hc
      obtain ⟨xs, n', _, _, _, hlen, hel⟩ := DataW.trod_struct Tryz.underlying38 ht'
      match xs, hlen with
      | [y0, y1, y2, y3, y4], _ =>
        have k0 : DataW.trod enc Tryz.prog W 0 _ true n' 3 (List.take (Tryz.prog.cellsOf 3) (List.drop 0 cs')) = some y0 := hel 0 _ rfl
        rw [cellsInt] at k0
        obtain ⟨a0, f0, e0, _⟩ := DataW.trod_int Tryz.underlying3 k0
        have k1 : DataW.trod enc Tryz.prog W 0 _ true n' 3 (List.take (Tryz.prog.cellsOf 3) (List.drop 1 cs')) = some y1 := hel 1 _ rfl
        rw [cellsInt] at k1
        obtain ⟨a1, f1, e1, _⟩ := DataW.trod_int Tryz.underlying3 k1
        have k2 : DataW.trod enc Tryz.prog W 0 _ true n' 3 (List.take (Tryz.prog.cellsOf 3) (List.drop 2 cs')) = some y2 := hel 2 _ rfl
        rw [cellsInt] at k2
        obtain ⟨a2, f2, e2, _⟩ := DataW.trod_int Tryz.underlying3 k2
        have k3 : DataW.trod enc Tryz.prog W 0 _ true n' 4 (List.take (Tryz.prog.cellsOf 4) (List.drop 3 cs')) = some y3 := hel 3 _ rfl
        rw [cellsBool] at k3
        obtain ⟨a3, f3, e3⟩ := DataW.trod_bool Tryz.underlying4 k3
        have k4 : DataW.trod enc Tryz.prog W 0 _ true n' 4 (List.take (Tryz.prog.cellsOf 4) (List.drop 4 cs')) = some y4 := hel 4 _ rfl
        rw [cellsBool] at k4
        obtain ⟨a4, f4, e4⟩ := DataW.trod_bool Tryz.underlying4 k4
        refine ⟨⟨a0, a1, a2, a3, a4⟩, ?_, ?_, ?_, ?_, ?_⟩
        · have := (hat 0 (by decide)).trans (take_one f0); rw [Go.Deep.add_add] at this; exact this
        · have := (hat 1 (by decide)).trans (take_one f1); rw [Go.Deep.add_add] at this; exact this
        · have := (hat 2 (by decide)).trans (take_one f2); rw [Go.Deep.add_add] at this; exact this
        · have := (hat 3 (by decide)).trans (take_one f3); rw [Go.Deep.add_add] at this; exact this
        · have := (hat 4 (by decide)).trans (take_one f4); rw [Go.Deep.add_add] at this; exact this
    have all : ∀ i, ∃ (h : Cq), i < len → W.cell? (x.add (i * 5)) = some (.int .i64 h.what) ∧ W.cell? (x.add (i * 5 + 1)) = some (.int .i64 h.page) ∧ W.cell? (x.add (i * 5 + 2)) = some (.int .i64 h.frame) ∧ W.cell? (x.add (i * 5 + 3)) = some (.bool h.w) ∧ W.cell? (x.add (i * 5 + 4)) = some (.bool h.e) := fun i => by
      by_cases h : i < len
      · obtain ⟨o, ho⟩ := each i h; exact ⟨o, fun _ => ho⟩
      · exact ⟨⟨0, 0, 0, false, false⟩, fun h' => absurd h' h⟩
    clear each hi hf
    obtain ⟨g, hg⟩ := Classical.axiomOfChoice all
    refine ⟨_, _, _, g, rfl, ⟨hl, hm⟩, lt0, fun hn => ?_⟩
    obtain ⟨b, off, spot⟩ := x
    have hv0 := (hg 0 hn).1
    have hs : spot = none := by simpa [Addr.add] using World.cell?_spot hv0
    subst hs
    refine ⟨b, off, rfl, World.block_lt_of_cell? W _ (show W.cell? ⟨b, off + 0 * 5, none⟩ = _ from by have := hv0; rw [addr_eq] at this; exact this), fun k hk => ?_⟩
    obtain ⟨e0, e1, e2, e3, e4⟩ := hg k hk
    rw [addr_eq] at e0 e1 e2 e3 e4
    exact ⟨e0, e1, e2, e3, e4⟩
set_option maxRecDepth 100000 in
theorem scall_open {H : Type} {enc : TypeId × Value → H} {w : World} {base b0 : Nat} {sp : Nat → Bool} {held : Bool} {r : Reach} {v : Value} {d : DataW H} {p : List MemPlace}
    (hval : Value.okWide Tryz.prog w r b0 38 v) (h : DataW.Trod enc Tryz.prog w base sp held 38 v d p) :
    ∃ (c : Cq), v = callV c ∧ p = [] := by
  obtain ⟨cs, rfl, hsz⟩ := okWide_struct Tryz.underlying38 hval
  obtain ⟨v0, v1, v2, v3, v4, rfl⟩ := array5 (hsz.trans cellsCall)
  obtain ⟨fuel, hf⟩ := h
  obtain ⟨xs, n, _, hx, hl, hlen, hel⟩ := DataW.trod_struct Tryz.underlying38 hf
  match xs, hlen with
  | [y0, y1, y2, y3, y4], _ =>
    have k0 : DataW.trod enc Tryz.prog w base sp held n 3 (List.take (Tryz.prog.cellsOf 3) (List.drop 0 (Value.agg #[v0, v1, v2, v3, v4]).cells.toList)) = some y0 := hel 0 _ rfl
    rw [cellsInt] at k0
    obtain ⟨a0, f0, e0, _⟩ := DataW.trod_int Tryz.underlying3 k0
    have k1 : DataW.trod enc Tryz.prog w base sp held n 3 (List.take (Tryz.prog.cellsOf 3) (List.drop 1 (Value.agg #[v0, v1, v2, v3, v4]).cells.toList)) = some y1 := hel 1 _ rfl
    rw [cellsInt] at k1
    obtain ⟨a1, f1, e1, _⟩ := DataW.trod_int Tryz.underlying3 k1
    have k2 : DataW.trod enc Tryz.prog w base sp held n 3 (List.take (Tryz.prog.cellsOf 3) (List.drop 2 (Value.agg #[v0, v1, v2, v3, v4]).cells.toList)) = some y2 := hel 2 _ rfl
    rw [cellsInt] at k2
    obtain ⟨a2, f2, e2, _⟩ := DataW.trod_int Tryz.underlying3 k2
    have k3 : DataW.trod enc Tryz.prog w base sp held n 4 (List.take (Tryz.prog.cellsOf 4) (List.drop 3 (Value.agg #[v0, v1, v2, v3, v4]).cells.toList)) = some y3 := hel 3 _ rfl
    rw [cellsBool] at k3
    obtain ⟨a3, f3, e3⟩ := DataW.trod_bool Tryz.underlying4 k3
    have k4 : DataW.trod enc Tryz.prog w base sp held n 4 (List.take (Tryz.prog.cellsOf 4) (List.drop 4 (Value.agg #[v0, v1, v2, v3, v4]).cells.toList)) = some y4 := hel 4 _ rfl
    rw [cellsBool] at k4
    obtain ⟨a4, f4, e4⟩ := DataW.trod_bool Tryz.underlying4 k4
    have g0 := take_one f0
    have g1 := take_one f1
    have g2 := take_one f2
    have g3 := take_one f3
    have g4 := take_one f4
    simp [Value.cells] at g0 g1 g2 g3 g4
    subst g0 g1 g2 g3 g4 e0 e1 e2 e3 e4
    exact ⟨⟨a0, a1, a2, a3, a4⟩, rfl, by simpa using (congrArg (·.2) hx)⟩
end St
end Go.Proofs.YtiiggmfindfkfaaGreat
