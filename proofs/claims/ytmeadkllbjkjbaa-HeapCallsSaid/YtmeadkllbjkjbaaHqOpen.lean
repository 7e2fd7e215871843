/-
  A row of calls, opened when it comes in; what lies in old blocks stays. Conditions: none.
-/
import Derived.Test.YtmeadkllbjkjbaaHqAlive
import Derived.ProofKit
import Derived.LaidMore
import Derived.OpenShut
import Derived.ShutString
import Derived.ChangeOld
import Derived.SizedLaws
import Derived.Deep.Slices
import Derived.Deep.Grids
import Derived.Deep.Modes
namespace Go.Proofs.Ytmeadkllbjkjbaa
open Go.ChangeShapes Go.WideShapes Go.ChangeAt Go.RowKit Go.Deep
namespace Hq
open Ph (Only)
theorem ownK : ownKnob Try.prog.godebug = none := by kernel_rfl
theorem laidOut : laidOutB Try.prog = true := by kernel_rfl
theorem cells_int : Try.prog.cellsOf 3 = 1 := by kernel_rfl
theorem cells_u64 : Try.prog.cellsOf 30 = 1 := by kernel_rfl
theorem cellsCall : Try.prog.cellsOf 32 = 3 := by kernel_rfl
theorem take_one {l : List Value} {j : Nat} {v : Value} (h : (l.drop j).take 1 = [v]) : l[j]? = some v := by
  have := congrArg (·[0]?) h
  simpa [List.getElem?_take, List.getElem?_drop] using this
theorem addr_eq (b off k : Nat) : ({ block := b, off := off } : Addr).add k = ⟨b, off + k, none⟩ := by simp [Addr.add]
/-- A call. -/
abbrev WCallsT := Int × Int × Int
abbrev WCallsV (c : WCallsT) : Value := .agg #[.int .i64 c.1, .int .i64 c.2.1, .int .u64 c.2.2]
/-- The cells of a call. -/
structure WCallsAt (W : World) (b off k : Nat) (c : WCallsT) : Prop where
  c0 : W.cell? ⟨b, off + k * 3, none⟩ = some (.int .i64 c.1)
  c1 : W.cell? ⟨b, off + k * 3 + 1, none⟩ = some (.int .i64 c.2.1)
  c2 : W.cell? ⟨b, off + k * 3 + 2, none⟩ = some (.int .u64 c.2.2)
  w0 : (Lit.int .i64 c.1).wf = true
  w1 : (Lit.int .i64 c.2.1).wf = true
  w2 : (Lit.int .u64 c.2.2).wf = true
theorem WCallsAt.kept {w w' : World} {b off k : Nat} {c : WCallsT} {S : List Nat} (h : WCallsAt w b off k c) (ho : Only S w w') (hb : b ∉ S) : WCallsAt w' b off k c := by
  have hl := World.block_lt_of_cell? w _ h.c0
  exact ⟨(ho.cell hl hb _).trans h.c0, (ho.cell hl hb _).trans h.c1, (ho.cell hl hb _).trans h.c2, h.w0, h.w1, h.w2⟩
/-- A row of calls lies in old blocks. -/
def WCalls (B : Nat) (w : World) (pa : Option Addr) (len : Nat) (y : Nat → WCallsT) : Prop := 0 < len → ∃ b off, pa = some ⟨b, off, none⟩ ∧ b < B ∧ ∀ k, k < len → WCallsAt w b off k (y k)
theorem WCalls.at {w w' : World} {pa : Option Addr} {len : Nat} {y : Nat → WCallsT} (h : WCalls w.heap.size w pa len y) (hb : Below w.heap.size w w') {i : Nat} (hi : i < len) : ∃ b off, pa = some ⟨b, off, none⟩ ∧ b < w.heap.size ∧ WCallsAt w' b off i (y i) := by
  obtain ⟨b, off, e, hl, hc⟩ := h (by omega)
  have h := hc i hi
  exact ⟨b, off, e, hl, (hb.cell (p := ⟨b, _, none⟩) hl).trans h.c0, (hb.cell (p := ⟨b, _, none⟩) hl).trans h.c1, (hb.cell (p := ⟨b, _, none⟩) hl).trans h.c2, h.w0, h.w1, h.w2⟩
set_option maxRecDepth 100000 in
theorem wcalls_open {H : Type} {enc : TypeId × Value → H} {W : World} {base : Nat} {v : Value} {d : DataW H} {p : List MemPlace}
    (hval : Value.okWide Try.prog W .any base 22 v) (h : DataW.Trod enc Try.prog W 0 (fun _ => true) true 22 v d p)
    (_ : ∀ n ∈ d.weights Try.prog 22, n ≤ reachBytes) :
    ∃ a len cap y, v = .slice a len cap ∧ (len ≤ cap ∧ cap ≤ maxLen) ∧ (∀ x ∈ p, x.block < W.heap.size) ∧ WCalls W.heap.size W a len y := by
  obtain ⟨a, len, cap, rfl⟩ := okWide_slice Try.underlying22 hval
  have lt0 : ∀ x ∈ p, x.block < W.heap.size := by obtain ⟨m, hm⟩ := h; exact DataW.trod_lt m _ _ _ hm
  obtain ⟨fuel, hf⟩ := h
  rcases open_slice Try.underlying22 hf with ⟨hcs, _⟩ | ⟨x, l, c, m, n, D, Pl, hcs, _, hl, hm, hmm, hx, hi⟩
  · simp [Value.cells] at hcs
    obtain ⟨rfl, rfl, rfl⟩ := hcs
    exact ⟨_, _, _, fun _ => (0, 0, 0), rfl, ⟨Nat.le_refl _, by unfold maxLen; omega⟩, lt0, fun h => by omega⟩
  · simp [Value.cells] at hcs
    obtain ⟨rfl, rfl, rfl⟩ := hcs
    have hmc : len ≤ m := by rw [hmm]; split <;> omega
    have each : ∀ i, i < len → ∃ (h : WCallsT), W.cell? (x.add (i * 3)) = some (.int .i64 h.1) ∧ W.cell? (x.add (i * 3 + 1)) = some (.int .i64 h.2.1) ∧ W.cell? (x.add (i * 3 + 2)) = some (.int .u64 h.2.2) ∧ (Lit.int .i64 h.1).wf = true ∧ (Lit.int .i64 h.2.1).wf = true ∧ (Lit.int .u64 h.2.2).wf = true := by
      intro i him
      obtain ⟨cs', hc, ht'⟩ := hi i (by omega)
      rw [cellsCall] at hc
      obtain ⟨_, hcl, hat⟩ := World.cells?_some hc
      obtain ⟨xs, n', _, _, _, hlen, hel⟩ := DataW.trod_struct Try.underlying32 ht'
      match xs, hlen with
      | [y0, y1, y2], _ =>
        have k0 : DataW.trod enc Try.prog W 0 _ true n' 3 (List.take (Try.prog.cellsOf 3) (List.drop 0 cs')) = some y0 := hel 0 _ rfl
        have k1 : DataW.trod enc Try.prog W 0 _ true n' 3 (List.take (Try.prog.cellsOf 3) (List.drop 1 cs')) = some y1 := hel 1 _ rfl
        have k2 : DataW.trod enc Try.prog W 0 _ true n' 30 (List.take (Try.prog.cellsOf 30) (List.drop 2 cs')) = some y2 := hel 2 _ rfl
        rw [cells_int] at k0 k1
        rw [cells_u64] at k2
        obtain ⟨a0, f0, _, u0⟩ := DataW.trod_int Try.underlying3 k0
        obtain ⟨a1, f1, _, u1⟩ := DataW.trod_int Try.underlying3 k1
        obtain ⟨a2, f2, _, u2⟩ := DataW.trod_int Try.underlying30 k2
        refine ⟨(a0, a1, a2), ?_, ?_, ?_, u0, u1, u2⟩
        · have := (hat 0 (by decide)).trans (take_one f0); rw [Go.Deep.add_add] at this; exact this
        · have := (hat 1 (by decide)).trans (take_one f1); rw [Go.Deep.add_add] at this; exact this
        · have := (hat 2 (by decide)).trans (take_one f2); rw [Go.Deep.add_add] at this; exact this
    have all : ∀ i, ∃ (h : WCallsT), i < len → W.cell? (x.add (i * 3)) = some (.int .i64 h.1) ∧ W.cell? (x.add (i * 3 + 1)) = some (.int .i64 h.2.1) ∧ W.cell? (x.add (i * 3 + 2)) = some (.int .u64 h.2.2) ∧ (Lit.int .i64 h.1).wf = true ∧ (Lit.int .i64 h.2.1).wf = true ∧ (Lit.int .u64 h.2.2).wf = true := fun i => by
      by_cases h : i < len
      · obtain ⟨o, ho⟩ := each i h; exact ⟨o, fun _ => ho⟩
      · exact ⟨(0, 0, 0), fun h' => absurd h' h⟩
    clear each hi hf
    obtain ⟨g, hg⟩ := Classical.axiomOfChoice all
    refine ⟨_, _, _, g, rfl, ⟨hl, hm⟩, lt0, fun hn => ?_⟩
    obtain ⟨b, off, spot⟩ := x
    have hv0 := (hg 0 hn).1
    have hs : spot = none := by simpa [Addr.add] using World.cell?_spot hv0
    subst hs
    refine ⟨b, off, rfl, World.block_lt_of_cell? W _ (show W.cell? ⟨b, off + 0 * 3, none⟩ = _ from by have := hv0; rw [addr_eq] at this; exact this), fun k hk => ?_⟩
    obtain ⟨e0, e1, e2, u0, u1, u2⟩ := hg k hk
    rw [addr_eq] at e0 e1 e2
    exact ⟨e0, e1, e2, u0, u1, u2⟩
/-- A row of times lies in an old block. -/
def WSteps (B : Nat) (w : World) (pa : Option Addr) (len : Nat) (y : Nat → Int) : Prop := 0 < len → ∃ b off, pa = some ⟨b, off, none⟩ ∧ b < B ∧ ∀ j, j < len → w.cell? ⟨b, off + j, none⟩ = some (.int .u64 (y j)) ∧ 0 ≤ y j ∧ y j ≤ 18446744073709551615
theorem WSteps.at {w w' : World} {pa : Option Addr} {len : Nat} {y : Nat → Int} (h : WSteps w.heap.size w pa len y) (hb : Below w.heap.size w w') {i : Nat} (hi : i < len) : ∃ b off, pa = some ⟨b, off, none⟩ ∧ b < w.heap.size ∧ w'.cell? ⟨b, off + i, none⟩ = some (.int .u64 (y i)) ∧ 0 ≤ y i ∧ y i ≤ 18446744073709551615 := by
  obtain ⟨b, off, e, hl, hc⟩ := h (by omega)
  exact ⟨b, off, e, hl, (hb.cell (p := ⟨b, _, none⟩) hl).trans (hc i hi).1, (hc i hi).2⟩
set_option maxRecDepth 100000 in
theorem wsteps_open {H : Type} {enc : TypeId × Value → H} {W : World} {base : Nat} {v : Value} {d : DataW H} {p : List MemPlace}
    (hval : Value.okWide Try.prog W .any base 42 v) (h : DataW.Trod enc Try.prog W 0 (fun _ => true) true 42 v d p)
    (_ : ∀ n ∈ d.weights Try.prog 42, n ≤ reachBytes) :
    ∃ a len cap y, v = .slice a len cap ∧ len ≤ maxLen ∧ (∀ x ∈ p, x.block < W.heap.size) ∧ WSteps W.heap.size W a len y := by
  obtain ⟨a, len, cap, rfl⟩ := okWide_slice Try.underlying42 hval
  have lt0 : ∀ x ∈ p, x.block < W.heap.size := by obtain ⟨m, hm⟩ := h; exact DataW.trod_lt m _ _ _ hm
  obtain ⟨fuel, hf⟩ := h
  rcases open_ints Try.underlying42 Try.underlying30 (by kernel_rfl) hf with ⟨hcs, _⟩ | ⟨a, l, c, zs, hcs, hlen, hl, hm, hz, hx, hcell, hwz⟩
  · simp [Value.cells] at hcs
    obtain ⟨rfl, rfl, rfl⟩ := hcs
    exact ⟨_, _, _, fun _ => 0, rfl, by unfold maxLen; omega, lt0, fun h => by omega⟩
  · simp [Value.cells] at hcs
    obtain ⟨rfl, rfl, rfl⟩ := hcs
    have hzl : len ≤ zs.length := by rw [hz]; split <;> omega
    refine ⟨_, _, _, fun j => zs.getD j 0, rfl, by omega, lt0, fun hn => ?_⟩
    obtain ⟨b, off, spot⟩ := a
    have hs : spot = none := by simpa [Addr.add] using World.cell?_spot (hcell 0 (by omega))
    subst hs
    have hcc : ∀ j, j < len → W.cell? ⟨b, off + j, none⟩ = some (.int .u64 (zs.getD j 0)) ∧ 0 ≤ zs.getD j 0 ∧ zs.getD j 0 ≤ 18446744073709551615 := fun j hj => by
      refine ⟨?_, bounds_u64 (hwz (zs.getD j 0) (by rw [List.getD_eq_getElem?_getD, List.getElem?_eq_getElem (by omega)]; exact List.getElem_mem _))⟩
      rw [← addr_eq]
      exact hcell j (by omega)
    exact ⟨b, off, rfl, World.block_lt_of_cell? W _ (hcc 0 hn).1, hcc⟩
end Hq
end Go.Proofs.Ytmeadkllbjkjbaa
