/-
  What the package-level variables hold, as the program's text lays them, gives the worlds in which the walks of layer 2 hold.
-/
import Derived.Test.YtlfhcnpbgbnadaaDoorIsaText
import Derived.Test.YtlfhcnpbgbnadaaDoorCards
import Derived.ProofKit
import Derived.LaidMore
import Derived.OpenShut
import Derived.Stop.Joined
import Derived.Stop.LaidErr
import Derived.Lib.LaidTab
namespace Go.Proofs.YtlfhcnpbgbnadaaDoor
open Go.ChangeShapes Go.WideShapes Go.ChangeAt Go.RowKit Isa

/-- The variables that are laid. -/
def laidL : List (String × DataW Unit) := [("math/bits.deBruijn32tab", Rows.laid_math_bits_deBruijn32tab), ("math/bits.deBruijn64tab", Rows.laid_math_bits_deBruijn64tab), ("internal/strconv.uint64pow10", Rows.laid_internal_strconv_uint64pow10), ("strconv.ErrRange", Rows.laid_strconv_ErrRange), ("strconv.ErrSyntax", Rows.laid_strconv_ErrSyntax), ("warder/isa.operations", Rows.laid_warder_isa_operations)]
theorem pow_data : (Rows.laid_internal_strconv_uint64pow10 : DataW Unit) = Lib.tabData .u64 Lib.pow10Tab := by
  unfold Rows.laid_internal_strconv_uint64pow10 Lib.tabData Lib.pow10Tab
  rfl
theorem gOps : Tryd.prog.globalNamed "warder/isa.operations" = some 0 := by kernel_rfl
theorem gRange : Tryd.prog.globalNamed "strconv.ErrRange" = some 3 := by kernel_rfl
theorem gSyntax : Tryd.prog.globalNamed "strconv.ErrSyntax" = some 2 := by kernel_rfl
theorem tOps : (Tryd.prog.globals[0]?).map (·.type) = some 89 := by kernel_rfl
theorem tRange : (Tryd.prog.globals[3]?).map (·.type) = some 109 := by kernel_rfl
theorem tSyntax : (Tryd.prog.globals[2]?).map (·.type) = some 109 := by kernel_rfl
theorem tPow : (Tryd.prog.globals[4]?).map (·.type) = some 141 := by kernel_rfl
/-- One row of the table, as it is laid. -/
def rowD (k : Nat) : DataW Unit := .agg [.lit (.string (opN k)), .lit (.bool (opA k)), .lit (.bool (opB k)), .lit (.int .i64 (opI k))]
theorem ops_data : (Rows.laid_warder_isa_operations : DataW Unit) = .agg ((List.range 28).map rowD) := by
  unfold Rows.laid_warder_isa_operations
  rfl
theorem trod_struct4 {H : Type} {enc : TypeId × Value → H} {P : Program} {w : World} {base : Nat} {spare : Nat → Bool} {held : Bool} {t : TypeId} {f0 f1 f2 f3 : Field} {fuel : Nat} {cs : List Value} {x : DataW H × List MemPlace} (ht : P.underlying t = some (.struct #[f0, f1, f2, f3])) (h : DataW.trod enc P w base spare held fuel t cs = some x) :
    ∃ y0 y1 y2 y3 n, x.1 = .agg [y0.1, y1.1, y2.1, y3.1] ∧ DataW.trod enc P w base spare held n f0.type ((cs.drop f0.offset).take (P.cellsOf f0.type)) = some y0 ∧
      DataW.trod enc P w base spare held n f1.type ((cs.drop f1.offset).take (P.cellsOf f1.type)) = some y1 ∧ DataW.trod enc P w base spare held n f2.type ((cs.drop f2.offset).take (P.cellsOf f2.type)) = some y2 ∧
      DataW.trod enc P w base spare held n f3.type ((cs.drop f3.offset).take (P.cellsOf f3.type)) = some y3 := by
  obtain ⟨xs, n, _, rfl, hl, hlen, hf⟩ := DataW.trod_struct ht h
  match xs, hlen with
  | [y0, y1, y2, y3], _ => exact ⟨y0, y1, y2, y3, n, by simp, by simpa using hf 0 f0 rfl, by simpa using hf 1 f1 rfl, by simpa using hf 2 f2 rfl, by simpa using hf 3 f3 rfl⟩
theorem cellsOp : Tryd.prog.cellsOf 88 = 4 := by kernel_rfl
theorem cellsStr : Tryd.prog.cellsOf 9 = 1 := by kernel_rfl
theorem cellsBool : Tryd.prog.cellsOf 4 = 1 := by kernel_rfl
theorem cellsInt : Tryd.prog.cellsOf 3 = 1 := by kernel_rfl
theorem take1 {l : List Value} {k j : Nat} {v : Value} (hj : j < 4) (h : ((((l.drop (k * 4)).take 4)).drop j).take 1 = [v]) : l[k * 4 + j]? = some v := by
  have := congrArg (·[0]?) h
  simpa [List.getElem?_take, List.getElem?_drop, hj] using this
theorem ops_of {W : World} (h : laidMet Tryd.prog [("warder/isa.operations", Rows.laid_warder_isa_operations)] W) : OpsIn W := by
  obtain ⟨ps, ⟨g, t, cs, fuel, p, q, hg, ht, hv, hd, _, _⟩, _⟩ := h
  obtain rfl := Option.some.inj (gOps.symm.trans hg)
  obtain rfl := Option.some.inj (tOps.symm.trans ht)
  obtain ⟨xs, m, _, hx, _, hn, hel⟩ := DataW.trod_array Tryd.underlying89 hd
  simp only [Prod.mk.injEq] at hx
  rw [ops_data] at hx
  have hxs : xs.map (·.1) = (List.range 28).map rowD := by
    have := hx.1
    injection this with this
    exact this.symm
  intro k hk
  have h1 := hel k hk
  rw [cellsOp] at h1
  have hkx : k < xs.length := by rw [hn]; exact hk
  have h2 : (xs[k]).1 = rowD k := by
    have := congrArg (·[k]?) hxs
    simpa [hkx, hk] using this
  rw [List.getElem?_eq_getElem hkx] at h1
  obtain ⟨y0, y1, y2, y3, n, e, k0, k1, k2, k3⟩ := trod_struct4 Tryd.underlying88 h1
  rw [h2] at e
  simp only [rowD, DataW.agg.injEq, List.cons.injEq, and_true] at e
  obtain ⟨e0, e1, e2, e3⟩ := e
  simp only [cellsStr, cellsBool, cellsInt] at k0 k1 k2 k3
  obtain ⟨s, c0, d0, _⟩ := DataW.trod_string Tryd.underlying9 k0
  obtain ⟨b1, c1, d1⟩ := DataW.trod_bool Tryd.underlying4 k1
  obtain ⟨b2, c2, d2⟩ := DataW.trod_bool Tryd.underlying4 k2
  obtain ⟨i3, c3, d3, _⟩ := DataW.trod_int Tryd.underlying3 k3
  rw [d0] at e0
  rw [d1] at e1
  rw [d2] at e2
  rw [d3] at e3
  injection e0 with e0
  injection e0 with e0
  injection e1 with e1
  injection e1 with e1
  injection e2 with e2
  injection e2 with e2
  injection e3 with e3
  injection e3 with _ e3
  have hc := World.var?_cell hg hv
  have es : s = opS k := by
    have : bs s.data.toList = s := bs_self s
    rw [← this, ← e0]; rfl
  refine ⟨?_, ?_, ?_, ?_⟩
  · rw [hc, ← es]
    have := take1 (l := cs.toList) (k := k) (j := 0) (by decide) c0
    simpa using this
  · rw [hc, e1]
    have := take1 (l := cs.toList) (k := k) (j := 1) (by decide) c1
    simpa using this
  · rw [hc, e2]
    have := take1 (l := cs.toList) (k := k) (j := 2) (by decide) c2
    simpa using this
  · rw [hc, e3]
    have := take1 (l := cs.toList) (k := k) (j := 3) (by decide) c3
    simpa using this
theorem err_of {W : World} {n : String} {g : Nat} {d : DataW Unit} {nm : String} {r : List (String × DataW Unit)} {ms : Array (String × TypeId)} (hg : Tryd.prog.globalNamed n = some g) (ht : (Tryd.prog.globals[g]?).map (·.type) = some 109) (hu : Tryd.prog.underlying 109 = some (.interface ms)) (h : laidMet Tryd.prog ((n, .iface nm d) :: r) W) : ErrAt W g := by
  obtain ⟨ps, ⟨g', t, cs, fuel, p, q, hg', ht', hv, hd, _, _⟩, _⟩ := h
  obtain rfl := Option.some.inj (hg.symm.trans hg')
  obtain rfl := Option.some.inj (ht.symm.trans ht')
  obtain ⟨_, u, v, hc, _, _⟩ := iface_of_trod hu hd
  refine ⟨.iface u v, ?_, Or.inr ⟨u, v, rfl⟩⟩
  rw [World.var?_cell hg hv 0]
  have := congrArg (·[0]?) hc
  simpa using this
theorem env_of {W : World} (h : laidMetH Tryd.prog laidL W) : Env W := by
  rw [MakeChecks.laidMetH_plain _ _ _ (by kernel_rfl)] at h
  have h3 := h.tail.tail
  have h4 := h3.tail
  have h5 := h4.tail
  have h6 := h5.tail
  rw [pow_data] at h3
  refine ⟨ops_of h6, ?_, ?_, ?_⟩
  · exact Lib.tabIs_of_head gPow tPow Tryd.underlying141 Tryd.underlying124 (by kernel_rfl) (by kernel_rfl) h3
  · exact err_of gSyntax tSyntax Tryd.underlying109 h5
  · exact err_of gRange tRange Tryd.underlying109 h4
theorem own : ownKnob Tryd.prog.godebug = none := by kernel_rfl
/-- The heap that the start-up code leaves meets the condition. -/
theorem door_met (os : Os) (args : Array Value) : laidMetH Tryd.prog laidL ((World.doorLaid Tryd.prog 4000 os).forCall (fun _ _ => 0) ⟨#[], args, []⟩).memory :=
  laidMetH_of_parts3 (fuel := 8) (laidMet_of_run' 8 (by kernel_rfl) (by kernel_rfl)) (by kernel_rfl) (by kernel_rfl)
end Go.Proofs.YtlfhcnpbgbnadaaDoor
