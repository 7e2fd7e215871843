/-
  A row of calls, opened when it comes in; what lies in old blocks stays. Conditions: none.
-/
import Derived.Test.YtcajclalpmfafaaTlFill
import Derived.ProofKit
import Derived.LaidMore
import Derived.OpenShut
import Derived.ShutString
import Derived.ChangeOld
import Derived.SizedLaws
import Derived.Deep.Slices
import Derived.Deep.Grids
import Derived.Deep.Modes
namespace Go.Proofs.Ytcajclalpmfafaa
open Go.ChangeShapes Go.WideShapes Go.ChangeAt Go.RowKit Go.Deep
namespace Tl
open Ph (Only)
theorem own : ownKnob Try.prog.godebug = none := by kernel_rfl
theorem laidOut : laidOutB Try.prog = true := by kernel_rfl
theorem cellsBool : Try.prog.cellsOf 4 = 1 := by kernel_rfl
theorem cellsInt : Try.prog.cellsOf 3 = 1 := by kernel_rfl
theorem cellsSlot : Try.prog.cellsOf 31 = 5 := by kernel_rfl
theorem cellsCall : Try.prog.cellsOf 33 = 6 := by kernel_rfl
theorem take_one {l : List Value} {j : Nat} {v : Value} (h : (l.drop j).take 1 = [v]) : l[j]? = some v := by
  have := congrArg (·[0]?) h
  simpa [List.getElem?_take, List.getElem?_drop] using this
theorem add_eq (b off k : Nat) : ({ block := b, off := off } : Addr).add k = ⟨b, off + k, none⟩ := by simp [Addr.add]
/-- The cells of a call: What, then its slot's. -/
structure CallAt (W : World) (b off k : Nat) (h : HeldT) : Prop where
  c0 : W.cell? ⟨b, off + k * 6, none⟩ = some (.int .i64 h.1)
  c1 : W.cell? ⟨b, off + k * 6 + 1, none⟩ = some (.int .i64 h.2.1)
  c2 : W.cell? ⟨b, off + k * 6 + 1 + 1, none⟩ = some (.int .i64 h.2.2.1)
  c3 : W.cell? ⟨b, off + k * 6 + 1 + 2, none⟩ = some (.int .i64 h.2.2.2.1)
  c4 : W.cell? ⟨b, off + k * 6 + 1 + 3, none⟩ = some (.bool h.2.2.2.2.1)
  c5 : W.cell? ⟨b, off + k * 6 + 1 + 4, none⟩ = some (.bool h.2.2.2.2.2)
  w1 : W64 h.2.1
  w2 : W64 h.2.2.1
theorem CallAt.kept {w w' : World} {b off k : Nat} {h : HeldT} {S : List Nat} (c : CallAt w b off k h) (ho : Only S w w') (hb : b ∉ S) : CallAt w' b off k h := by
  have hl := World.block_lt_of_cell? w _ c.c0
  exact ⟨(ho.cell hl hb _).trans c.c0, (ho.cell hl hb _).trans c.c1, (ho.cell hl hb _).trans c.c2, (ho.cell hl hb _).trans c.c3, (ho.cell hl hb _).trans c.c4, (ho.cell hl hb _).trans c.c5, c.w1, c.w2⟩
/-- A row of calls lies in old blocks. -/
def TCalls (B : Nat) (w : World) (pa : Option Addr) (len : Nat) (y : Nat → HeldT) : Prop := 0 < len → ∃ b off, pa = some ⟨b, off, none⟩ ∧ b < B ∧ ∀ k, k < len → CallAt w b off k (y k)
theorem TCalls.kept {B : Nat} {w w' : World} {pa : Option Addr} {len : Nat} {y : Nat → HeldT} {S : List Nat} (h : TCalls B w pa len y) (ho : Only S w w') (hs : ∀ x ∈ S, B ≤ x) : TCalls B w' pa len y := fun hn => by
  obtain ⟨b, off, e, hb, hc⟩ := h hn
  exact ⟨b, off, e, hb, fun k hk => (hc k hk).kept ho (fun h => by have := hs _ h; omega)⟩
theorem TCalls.mono {B B' : Nat} {w : World} {pa : Option Addr} {len : Nat} {y : Nat → HeldT} (h : TCalls B w pa len y) (hB : B ≤ B') : TCalls B' w pa len y := fun hn => by
  obtain ⟨b, off, e, hb, hc⟩ := h hn
  exact ⟨b, off, e, Nat.lt_of_lt_of_le hb hB, hc⟩
theorem TCalls.at {w w' : World} {pa : Option Addr} {len : Nat} {y : Nat → HeldT} (h : TCalls w.heap.size w pa len y) (hb : Below w.heap.size w w') {i : Nat} (hi : i < len) : ∃ b off, pa = some ⟨b, off, none⟩ ∧ b < w.heap.size ∧ CallAt w' b off i (y i) := by
  obtain ⟨b, off, e, hl, hc⟩ := h (by omega)
  have c := hc i hi
  exact ⟨b, off, e, hl, (hb.cell (p := ⟨b, _, none⟩) hl).trans c.c0, (hb.cell (p := ⟨b, _, none⟩) hl).trans c.c1, (hb.cell (p := ⟨b, _, none⟩) hl).trans c.c2, (hb.cell (p := ⟨b, _, none⟩) hl).trans c.c3, (hb.cell (p := ⟨b, _, none⟩) hl).trans c.c4, (hb.cell (p := ⟨b, _, none⟩) hl).trans c.c5, c.w1, c.w2⟩
theorem drop_take {l : List Value} {i j m k : Nat} (h : j + k ≤ m) : (((l.drop i).take m).drop j).take k = (l.drop (i + j)).take k := by
  rw [List.drop_take, List.take_take, Nat.min_eq_left (by omega), List.drop_drop]
set_option maxRecDepth 100000 in
theorem tcalls_open {H : Type} {enc : TypeId × Value → H} {W : World} {base : Nat} {v : Value} {d : DataW H} {p : List MemPlace}
    (hval : Value.okWide Try.prog W .any base 22 v) (h : DataW.Trod enc Try.prog W 0 (fun _ => true) true 22 v d p)
    (_ : ∀ n ∈ d.weights Try.prog 22, n ≤ reachBytes) :
    ∃ a len cap y, v = .slice a len cap ∧ (len ≤ cap ∧ cap ≤ maxLen) ∧ (∀ x ∈ p, x.block < W.heap.size) ∧ TCalls W.heap.size W a len y := by
  obtain ⟨a, len, cap, rfl⟩ := okWide_slice Try.underlying22 hval
  have lt0 : ∀ x ∈ p, x.block < W.heap.size := by obtain ⟨m, hm⟩ := h; exact DataW.trod_lt m _ _ _ hm
  obtain ⟨fuel, hf⟩ := h
  rcases open_slice Try.underlying22 hf with ⟨hcs, _⟩ | ⟨x, l, c, m, n, D, Pl, hcs, _, hl, hm, hmm, hx, hi⟩
  · simp [Value.cells] at hcs
    obtain ⟨rfl, rfl, rfl⟩ := hcs
    exact ⟨_, _, _, fun _ => (0, 0, 0, 0, false, false), rfl, ⟨Nat.le_refl _, by unfold maxLen; omega⟩, lt0, fun h => by omega⟩
  · simp [Value.cells] at hcs
    obtain ⟨rfl, rfl, rfl⟩ := hcs
    have hmc : len ≤ m := by rw [hmm]; split <;> omega
    have each : ∀ i, i < len → ∃ (h : HeldT), (W.cell? (x.add (i * 6)) = some (.int .i64 h.1) ∧ W.cell? (x.add (i * 6 + 1)) = some (.int .i64 h.2.1) ∧ W.cell? (x.add (i * 6 + 2)) = some (.int .i64 h.2.2.1) ∧ W.cell? (x.add (i * 6 + 3)) = some (.int .i64 h.2.2.2.1) ∧ W.cell? (x.add (i * 6 + 4)) = some (.bool h.2.2.2.2.1) ∧ W.cell? (x.add (i * 6 + 5)) = some (.bool h.2.2.2.2.2)) ∧ W64 h.2.1 ∧ W64 h.2.2.1 := by
      intro i him
      obtain ⟨cs', hc, ht'⟩ := hi i (by omega)
      rw [cellsCall] at hc
      obtain ⟨_, hcl, hat⟩ := World.cells?_some hc
      obtain ⟨xs, n', _, _, _, hlen, hel⟩ := DataW.trod_struct Try.underlying33 ht'
      match xs, hlen with
      | [y0, y1], _ =>
        have k0 : DataW.trod enc Try.prog W 0 _ true n' 3 (List.take (Try.prog.cellsOf 3) (List.drop 0 cs')) = some y0 := hel 0 _ rfl
        have k1 : DataW.trod enc Try.prog W 0 _ true n' 31 (List.take (Try.prog.cellsOf 31) (List.drop 1 cs')) = some y1 := hel 1 _ rfl
        rw [cellsInt] at k0
        rw [cellsSlot] at k1
        obtain ⟨i0, e0, _, u0⟩ := DataW.trod_int Try.underlying3 k0
        obtain ⟨ys, n'', _, _, _, hlen2, hel2⟩ := DataW.trod_struct Try.underlying31 k1
        match ys, hlen2 with
        | [z0, z1, z2, z3, z4], _ =>
          have j0 : DataW.trod enc Try.prog W 0 _ true n'' 3 (List.take (Try.prog.cellsOf 3) (List.drop 0 (List.take 5 (List.drop 1 cs')))) = some z0 := hel2 0 _ rfl
          have j1 : DataW.trod enc Try.prog W 0 _ true n'' 3 (List.take (Try.prog.cellsOf 3) (List.drop 1 (List.take 5 (List.drop 1 cs')))) = some z1 := hel2 1 _ rfl
          have j2 : DataW.trod enc Try.prog W 0 _ true n'' 3 (List.take (Try.prog.cellsOf 3) (List.drop 2 (List.take 5 (List.drop 1 cs')))) = some z2 := hel2 2 _ rfl
          have j3 : DataW.trod enc Try.prog W 0 _ true n'' 4 (List.take (Try.prog.cellsOf 4) (List.drop 3 (List.take 5 (List.drop 1 cs')))) = some z3 := hel2 3 _ rfl
          have j4 : DataW.trod enc Try.prog W 0 _ true n'' 4 (List.take (Try.prog.cellsOf 4) (List.drop 4 (List.take 5 (List.drop 1 cs')))) = some z4 := hel2 4 _ rfl
          rw [cellsInt] at j0 j1 j2
          rw [cellsBool] at j3 j4
          rw [drop_take (by omega)] at j0 j1 j2 j3 j4
          obtain ⟨a0, f0, _, s0⟩ := DataW.trod_int Try.underlying3 j0
          obtain ⟨a1, f1, _, s1⟩ := DataW.trod_int Try.underlying3 j1
          obtain ⟨a2, f2, _, s2⟩ := DataW.trod_int Try.underlying3 j2
          obtain ⟨a3, f3, _⟩ := DataW.trod_bool Try.underlying4 j3
          obtain ⟨a4, f4, _⟩ := DataW.trod_bool Try.underlying4 j4
          refine ⟨(i0, a0, a1, a2, a3, a4), ⟨?_, ?_, ?_, ?_, ?_, ?_⟩, s0, s1⟩
          · have := (hat 0 (by decide)).trans (take_one e0); rw [Go.Deep.add_add] at this; exact this
          · have := (hat 1 (by decide)).trans (take_one f0); rw [Go.Deep.add_add] at this; exact this
          · have := (hat 2 (by decide)).trans (take_one f1); rw [Go.Deep.add_add] at this; exact this
          · have := (hat 3 (by decide)).trans (take_one f2); rw [Go.Deep.add_add] at this; exact this
          · have := (hat 4 (by decide)).trans (take_one f3); rw [Go.Deep.add_add] at this; exact this
          · have := (hat 5 (by decide)).trans (take_one f4); rw [Go.Deep.add_add] at this; exact this
    have all : ∀ i, ∃ (h : HeldT), i < len → (W.cell? (x.add (i * 6)) = some (.int .i64 h.1) ∧ W.cell? (x.add (i * 6 + 1)) = some (.int .i64 h.2.1) ∧ W.cell? (x.add (i * 6 + 2)) = some (.int .i64 h.2.2.1) ∧ W.cell? (x.add (i * 6 + 3)) = some (.int .i64 h.2.2.2.1) ∧ W.cell? (x.add (i * 6 + 4)) = some (.bool h.2.2.2.2.1) ∧ W.cell? (x.add (i * 6 + 5)) = some (.bool h.2.2.2.2.2)) ∧ W64 h.2.1 ∧ W64 h.2.2.1 := fun i => by
      by_cases h : i < len
      · obtain ⟨o, ho⟩ := each i h; exact ⟨o, fun _ => ho⟩
      · exact ⟨(0, 0, 0, 0, false, false), fun h' => absurd h' h⟩
    clear each hi hf
    obtain ⟨g, hg⟩ := Classical.axiomOfChoice all
    refine ⟨_, _, _, g, rfl, ⟨hl, hm⟩, lt0, fun hn => ?_⟩
    obtain ⟨b, off, spot⟩ := x
    have hv0 := (hg 0 hn).1.1
    have hs : spot = none := by simpa [Addr.add] using World.cell?_spot hv0
    subst hs
    refine ⟨b, off, rfl, World.block_lt_of_cell? W _ (show W.cell? ⟨b, off + 0 * 6, none⟩ = _ from by have := hv0; rw [add_eq] at this; exact this), fun k hk => ?_⟩
    obtain ⟨⟨e0, e1, e2, e3, e4, e5⟩, s0, s1⟩ := hg k hk
    rw [add_eq] at e0 e1 e2 e3 e4 e5
    exact ⟨e0, e1, e2, e3, e4, e5, s0, s1⟩
end Tl
end Go.Proofs.Ytcajclalpmfafaa
