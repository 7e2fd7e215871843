/-
  Rows of calls and of bools as they lie in a world; how they, and a call, are opened when they come in; what the program's text lays gives the table of costs. No condition.
-/
import Derived.Test.YtalaalpafafpbaaDoorMtAlive
import Derived.Test.YtalaalpafafpbaaDoorCards
import Derived.Test.YtalaalpafafpbaaDoorTie
import Derived.ProofKit
import Derived.LaidMore
import Derived.OpenShut
import Derived.ShutString
import Derived.ChangeOld
import Derived.Deep.Slices
import Derived.Deep.Grids
import Derived.Deep.Modes
import Derived.Lib.SmallJoins
namespace Go.Proofs.YtalaalpafafpbaaDoor
open Go.ChangeShapes Go.WideShapes Go.ChangeAt Go.RowKit Go.Deep Go.Joins
namespace Mt
/-- Calls: the core, the kind, the times, whether it waits. -/
structure Cs where
  co : Nat → Int
  kd : Nat → Int
  ti : Nat → Int
  wt : Nat → Bool
/-- One call lies in a block. -/
structure CallAt (w : World) (b off : Nat) (x : Cs) (k : Nat) : Prop where
  c0 : w.cell? ⟨b, off + k * 4, none⟩ = some (.int .i64 (x.co k))
  c1 : w.cell? ⟨b, off + k * 4 + 1, none⟩ = some (.int .i64 (x.kd k))
  c2 : w.cell? ⟨b, off + k * 4 + 2, none⟩ = some (.int .u64 (x.ti k))
  c3 : w.cell? ⟨b, off + k * 4 + 3, none⟩ = some (.bool (x.wt k))
  t0 : 0 ≤ x.ti k
  t1 : x.ti k < 18446744073709551616
theorem CallAt.kept {w w' : World} {b off k : Nat} {x : Cs} {S : List Nat} (h : CallAt w b off x k) (ho : Only S w w') (hn : b ∉ S) : CallAt w' b off x k := by
  have hl := World.block_lt_of_cell? w _ h.c0
  exact ⟨(ho.cell hl hn _).trans h.c0, (ho.cell hl hn _).trans h.c1, (ho.cell hl hn _).trans h.c2, (ho.cell hl hn _).trans h.c3, h.t0, h.t1⟩
/-- A row of calls lies in old blocks. -/
def CallsIn (B : Nat) (w : World) (pa : Option Addr) (len : Nat) (x : Cs) : Prop := 0 < len → ∃ b off, pa = some ⟨b, off, none⟩ ∧ b < B ∧ ∀ k, k < len → CallAt w b off x k
theorem CallsIn.kept {B : Nat} {w w' : World} {pa : Option Addr} {len : Nat} {x : Cs} {S : List Nat} (h : Mt.CallsIn B w pa len x) (ho : Only S w w') (hs : ∀ x ∈ S, B ≤ x) : Mt.CallsIn B w' pa len x := fun hn => by
  obtain ⟨b, off, e, hb, hc⟩ := h hn
  exact ⟨b, off, e, hb, fun k hk => (hc k hk).kept ho (fun x => by have := hs _ x; omega)⟩
theorem add_eq (b off j : Nat) : (⟨b, off, none⟩ : Addr).add j = ⟨b, off + j, none⟩ := by unfold Addr.add; split <;> simp_all
theorem cellsInt : Tryd.prog.cellsOf 3 = 1 := by kernel_rfl
theorem cellsU64 : Tryd.prog.cellsOf 33 = 1 := by kernel_rfl
theorem cellsBool : Tryd.prog.cellsOf 4 = 1 := by kernel_rfl
theorem cellsCall : Tryd.prog.cellsOf 35 = 4 := by kernel_rfl
theorem take_one {l : List Value} {j : Nat} {v : Value} (h : (l.drop j).take 1 = [v]) : l[j]? = some v := by
  have := congrArg (·[0]?) h
  simpa [List.getElem?_take, List.getElem?_drop] using this
theorem trod_struct4 {H : Type} {enc : TypeId × Value → H} {P : Program} {w : World} {base : Nat} {spare : Nat → Bool} {held : Bool} {t : TypeId} {f0 f1 f2 f3 : Field} {fuel : Nat} {cs : List Value} {x : DataW H × List MemPlace} (ht : P.underlying t = some (.struct #[f0, f1, f2, f3])) (h : DataW.trod enc P w base spare held fuel t cs = some x) :
    ∃ y0 y1 y2 y3 n, x.1 = .agg [y0.1, y1.1, y2.1, y3.1] ∧ DataW.trod enc P w base spare held n f0.type ((cs.drop f0.offset).take (P.cellsOf f0.type)) = some y0 ∧
      DataW.trod enc P w base spare held n f1.type ((cs.drop f1.offset).take (P.cellsOf f1.type)) = some y1 ∧ DataW.trod enc P w base spare held n f2.type ((cs.drop f2.offset).take (P.cellsOf f2.type)) = some y2 ∧
      DataW.trod enc P w base spare held n f3.type ((cs.drop f3.offset).take (P.cellsOf f3.type)) = some y3 := by
  obtain ⟨xs, n, _, rfl, hl, hlen, hf⟩ := DataW.trod_struct ht h
  match xs, hlen with
  | [y0, y1, y2, y3], _ => exact ⟨y0, y1, y2, y3, n, by simp, by simpa using hf 0 f0 rfl, by simpa using hf 1 f1 rfl, by simpa using hf 2 f2 rfl, by simpa using hf 3 f3 rfl⟩
/-- One call's cells. -/
structure One where
  co : Int
  kd : Int
  ti : Int
  wt : Bool
def cs1 (o : Nat → One) : Cs := ⟨fun k => (o k).co, fun k => (o k).kd, fun k => (o k).ti, fun k => (o k).wt⟩
structure OneAt (W : World) (a : Addr) (i : Nat) (o : One) : Prop where
  c0 : W.cell? (a.add (i * 4)) = some (.int .i64 o.co)
  c1 : W.cell? (a.add (i * 4 + 1)) = some (.int .i64 o.kd)
  c2 : W.cell? (a.add (i * 4 + 2)) = some (.int .u64 o.ti)
  c3 : W.cell? (a.add (i * 4 + 3)) = some (.bool o.wt)
  t0 : 0 ≤ o.ti
  t1 : o.ti < 18446744073709551616
set_option maxRecDepth 100000 in
theorem calls_open {H : Type} {enc : TypeId × Value → H} {W : World} {base : Nat} {v : Value} {d : DataW H} {p : List MemPlace}
    (hval : Value.okWide Tryd.prog W .any base 22 v) (h : DataW.Trod enc Tryd.prog W 0 (fun _ => true) true 22 v d p) :
    ∃ a len cap x, v = .slice a len cap ∧ len ≤ maxLen ∧ (∀ x ∈ p, x.block < W.heap.size) ∧ Mt.CallsIn W.heap.size W a len x := by
  obtain ⟨a, len, cap, rfl⟩ := okWide_slice Tryd.underlying22 hval
  have lt0 : ∀ x ∈ p, x.block < W.heap.size := by obtain ⟨m, hm⟩ := h; exact DataW.trod_lt m _ _ _ hm
  obtain ⟨fuel, hf⟩ := h
  have o0 : One := ⟨0, 0, 0, false⟩
  rcases open_slice Tryd.underlying22 hf with ⟨hcs, _⟩ | ⟨x, l, c, m, n, D, Pl, hcs, _, hl, hm, hmm, hx, hi⟩
  · simp [Value.cells] at hcs
    obtain ⟨rfl, rfl, rfl⟩ := hcs
    exact ⟨_, _, _, cs1 (fun _ => o0), rfl, by unfold maxLen; omega, lt0, fun h => by omega⟩
  · simp [Value.cells] at hcs
    obtain ⟨rfl, rfl, rfl⟩ := hcs
    have hmc : len ≤ m := by rw [hmm]; split <;> omega
    have each : ∀ i, i < len → ∃ o, OneAt W x i o := by
      intro i him
      obtain ⟨cs', hc, ht'⟩ := hi i (by omega)
      rw [cellsCall] at hc
      obtain ⟨_, hcl, hat⟩ := World.cells?_some hc
      obtain ⟨y0, y1, y2, y3, n', hag, k0, k1, k2, k3⟩ := trod_struct4 Tryd.underlying35 ht'
      simp only [cellsInt, cellsU64, cellsBool] at k0 k1 k2 k3
      obtain ⟨i0, c0, _, _⟩ := DataW.trod_int Tryd.underlying3 k0
      obtain ⟨i1, c1, _, _⟩ := DataW.trod_int Tryd.underlying3 k1
      obtain ⟨i2, c2, _, w2⟩ := DataW.trod_int Tryd.underlying33 k2
      obtain ⟨b3, c3, _⟩ := DataW.trod_bool Tryd.underlying4 k3
      have b2 := bounds_u64 w2
      refine ⟨⟨i0, i1, i2, b3⟩, ?_, ?_, ?_, ?_, b2.1, Int.lt_of_le_of_lt b2.2 (by decide)⟩
      · have := (hat 0 (by decide)).trans (take_one c0); rw [Go.Deep.add_add] at this; exact this
      · have := (hat 1 (by decide)).trans (take_one c1); rw [Go.Deep.add_add] at this; exact this
      · have := (hat 2 (by decide)).trans (take_one c2); rw [Go.Deep.add_add] at this; exact this
      · have := (hat 3 (by decide)).trans (take_one c3); rw [Go.Deep.add_add] at this; exact this
    have all : ∀ i, ∃ o, i < len → OneAt W x i o := fun i => by
      by_cases h : i < len
      · obtain ⟨o, ho⟩ := each i h; exact ⟨o, fun _ => ho⟩
      · exact ⟨o0, fun h' => absurd h' h⟩
    refine ⟨_, _, _, cs1 (fun k => Classical.choose (all k)), rfl, by omega, lt0, fun hn => ?_⟩
    obtain ⟨b, off, spot⟩ := x
    obtain ⟨v0, hv0⟩ := each 0 hn
    have hs : spot = none := by simpa [Addr.add] using World.cell?_spot hv0.c0
    subst hs
    refine ⟨b, off, rfl, World.block_lt_of_cell? W _ (show W.cell? ⟨b, off + 0, none⟩ = _ from by have := hv0.c0; rw [add_eq] at this; simpa using this), fun k hk => ?_⟩
    have q := Classical.choose_spec (all k) hk
    obtain ⟨e0, e1, e2, e3, q5, q6⟩ := q
    rw [add_eq] at e0 e1 e2 e3
    exact ⟨e0, e1, e2, e3, q5, q6⟩
set_option maxRecDepth 100000 in
theorem bools_open {H : Type} {enc : TypeId × Value → H} {W : World} {base : Nat} {v : Value} {d : DataW H} {p : List MemPlace}
    (hval : Value.okWide Tryd.prog W .any base 23 v) (h : DataW.Trod enc Tryd.prog W 0 (fun _ => true) true 23 v d p) :
    ∃ a len cap x, v = .slice a len cap ∧ len ≤ maxLen ∧ (∀ x ∈ p, x.block < W.heap.size) ∧ RdT W.heap.size W a len x := by
  obtain ⟨a, len, cap, rfl⟩ := okWide_slice Tryd.underlying23 hval
  have lt0 : ∀ x ∈ p, x.block < W.heap.size := by obtain ⟨m, hm⟩ := h; exact DataW.trod_lt m _ _ _ hm
  obtain ⟨fuel, hf⟩ := h
  rcases open_slice Tryd.underlying23 hf with ⟨hcs, _⟩ | ⟨x, l, c, m, n, D, Pl, hcs, _, hl, hm, hmm, hx, hi⟩
  · simp [Value.cells] at hcs
    obtain ⟨rfl, rfl, rfl⟩ := hcs
    exact ⟨_, _, _, fun _ => false, rfl, by unfold maxLen; omega, lt0, fun h => by omega⟩
  · simp [Value.cells] at hcs
    obtain ⟨rfl, rfl, rfl⟩ := hcs
    have hmc : len ≤ m := by rw [hmm]; split <;> omega
    have each : ∀ i, i < len → ∃ o, W.cell? (x.add i) = some (.bool o) := by
      intro i him
      obtain ⟨cs', hc, ht'⟩ := hi i (by omega)
      rw [cellsBool] at hc
      obtain ⟨_, hcl, hat⟩ := World.cells?_some hc
      obtain ⟨b3, c3, _⟩ := DataW.trod_bool Tryd.underlying4 ht'
      refine ⟨b3, ?_⟩
      have := hat 0 (by decide)
      rw [c3, Go.Deep.add_add] at this
      simpa using this
    have all : ∀ i, ∃ o, i < len → W.cell? (x.add i) = some (.bool o) := fun i => by
      by_cases h : i < len
      · obtain ⟨o, ho⟩ := each i h; exact ⟨o, fun _ => ho⟩
      · exact ⟨false, fun h' => absurd h' h⟩
    refine ⟨_, _, _, fun k => Classical.choose (all k), rfl, by omega, lt0, fun hn => ?_⟩
    obtain ⟨b, off, spot⟩ := x
    obtain ⟨v0, hv0⟩ := each 0 hn
    have hs : spot = none := by simpa [Addr.add] using World.cell?_spot hv0
    subst hs
    have hlt := World.block_lt_of_cell? W _ (show W.cell? ⟨b, off + 0, none⟩ = _ from by have := hv0; rw [add_eq] at this; simpa using this)
    refine ⟨b, off, rfl, hlt, hlt, fun k hk => ?_⟩
    exact (congrArg W.cell? (add_eq b off k).symm).trans (Classical.choose_spec (all k) hk)
/-- A call that comes in by value. -/
def WfC (a b t : Int) : Prop := (Lit.int .i64 a).wf = true ∧ (Lit.int .i64 b).wf = true ∧ (Lit.int .u64 t).wf = true
set_option maxRecDepth 100000 in
theorem call_open {H : Type} {enc : TypeId × Value → H} {w : World} {base b0 : Nat} {sp : Nat → Bool} {held : Bool} {r : Reach} {v : Value} {d : DataW H} {p : List MemPlace}
    (hval : Value.okWide Tryd.prog w r b0 35 v) (h : DataW.Trod enc Tryd.prog w base sp held 35 v d p) :
    ∃ (a b t : Int) (u : Bool), v = .agg #[.int .i64 a, .int .i64 b, .int .u64 t, .bool u] ∧ d = .agg [.lit (.int .i64 a), .lit (.int .i64 b), .lit (.int .u64 t), .lit (.bool u)] ∧ p = [] ∧ WfC a b t := by
  obtain ⟨c0, c1, c2, c3, y0, y1, y2, y3, m, rfl, rfl, rfl, hy0, hy1, hy2, hy3⟩ := open_agg4 Tryd.underlying35 (by kernel_rfl) cellsCall hval h
  obtain ⟨a, e0, rfl, wa⟩ := DataW.trod_int Tryd.underlying3 hy0
  obtain ⟨b, e1, rfl, wb⟩ := DataW.trod_int Tryd.underlying3 hy1
  obtain ⟨c, e2, rfl, wc⟩ := DataW.trod_int Tryd.underlying33 hy2
  obtain ⟨d, e3, rfl⟩ := DataW.trod_bool Tryd.underlying4 hy3
  simp at e0 e1 e2 e3
  subst e0 e1 e2 e3
  exact ⟨a, b, c, d, rfl, rfl, rfl, wa, wb, wc⟩
set_option maxRecDepth 100000 in
theorem call_shut {H : Type} {enc : TypeId × Value → H} {a b t : Int} {u : Bool} (hw : WfC a b t) (W' : World) (sp : Nat → Bool) :
    DataW.Trod enc Tryd.prog W' 0 sp true 35 (.agg #[.int .i64 a, .int .i64 b, .int .u64 t, .bool u]) (.agg [.lit (.int .i64 a), .lit (.int .i64 b), .lit (.int .u64 t), .lit (.bool u)]) [] := by
  obtain ⟨wa, wb, wc⟩ := hw
  exact shut_agg4 (y0 := (.lit (.int .i64 a), [])) (y1 := (.lit (.int .i64 b), [])) (y2 := (.lit (.int .u64 t), [])) (y3 := (.lit (.bool u), [])) Tryd.underlying35 (by kernel_rfl) cellsCall ⟨1, by simp [DataW.trod, Tryd.underlying3, wa]⟩ ⟨1, by simp [DataW.trod, Tryd.underlying3, wb]⟩ ⟨1, by simp [DataW.trod, Tryd.underlying33, wc]⟩ ⟨1, by simp [DataW.trod, Tryd.underlying4]⟩
/-! ### The table of costs, as the program's text lays it -/
theorem gCosts : Tryd.prog.globalNamed "warder/meter.costs" = some 0 := by kernel_rfl
theorem tCosts : (Tryd.prog.globals[0]?).map (·.type) = some 50 := by kernel_rfl
def laidL : List (String × DataW Unit) := [("warder/meter.costs", Rows.laid_warder_meter_costs)]
theorem costs_data : (Rows.laid_warder_meter_costs : DataW Unit) = .agg ((List.range 9).map fun j : Nat => .lit (.int .u64 (cost j))) := by
  unfold Rows.laid_warder_meter_costs
  rfl
theorem laid_of {W : World} (h : laidMetH Tryd.prog laidL W) : Costs W := by
  rw [MakeChecks.laidMetH_plain _ _ _ (by kernel_rfl)] at h
  obtain ⟨ps, ⟨g, t, cs, fuel, p, q, hg, ht, hv, hd, _, _⟩, _⟩ := h
  obtain rfl := Option.some.inj (gCosts.symm.trans hg)
  obtain rfl := Option.some.inj (tCosts.symm.trans ht)
  obtain ⟨xs, m, _, hx, _, hn, hel⟩ := DataW.trod_array Tryd.underlying50 hd
  simp only [Prod.mk.injEq] at hx
  rw [costs_data] at hx
  have hxs : xs.map (·.1) = (List.range 9).map fun j : Nat => DataW.lit (.int .u64 (cost j)) := by
    have := hx.1
    injection this with this
    exact this.symm
  have cells : ∀ j : Nat, j < 9 → W.cell? ⟨0, j, none⟩ = some (.int .u64 (cost j)) := by
    intro k hk
    have h1 := hel k hk
    rw [cellsU64] at h1
    have hkx : k < xs.length := by rw [hn]; exact hk
    have h2 : (xs[k]).1 = DataW.lit (.int .u64 (cost k)) := by
      have := congrArg (·[k]?) hxs
      simpa [hkx, hk] using this
    rw [List.getElem?_eq_getElem hkx] at h1
    obtain ⟨i, c, d, _⟩ := DataW.trod_int Tryd.underlying33 h1
    rw [d] at h2
    injection h2 with h2
    injection h2 with _ h2
    rw [World.var?_cell hg hv, ← h2]
    have := congrArg (·[0]?) c
    simpa [List.getElem?_take, List.getElem?_drop] using this
  exact ⟨World.block_lt_of_cell? W _ (cells 0 (by decide)), cells⟩
theorem own : ownKnob Tryd.prog.godebug = none := by kernel_rfl
theorem laidOut : laidOutB Tryd.prog = true := by kernel_rfl
/-- The heap that the start-up code leaves meets the condition. -/
theorem door_met (os : Os) (args : Array Value) : laidMetH Tryd.prog laidL ((World.doorLaid Tryd.prog 4000 os).forCall (fun _ _ => 0) ⟨#[], args, []⟩).memory :=
  laidMetH_of_parts3 (fuel := 8) (laidMet_of_run' 8 (by kernel_rfl) (by kernel_rfl)) (by kernel_rfl) (by kernel_rfl)
end Mt
end Go.Proofs.YtalaalpafafpbaaDoor
