/-
  How a state, an effect and a word that come in by value are opened, and read again; no condition.
-/
import Derived.Test.YtlfhcnpbgbnadaaDoorIsaLaid
import Derived.Test.YtlfhcnpbgbnadaaDoorAluRun
import Derived.Lib.SmallJoins
import Derived.ChangeOld
namespace Go.Proofs.YtlfhcnpbgbnadaaDoor
open Go.ChangeShapes Go.WideShapes Go.ChangeAt Go.RowKit Go.Joins
namespace Alu

theorem cellsSt : Tryd.prog.cellsOf 25 = 17 := by kernel_rfl
theorem cellsR : Tryd.prog.cellsOf 23 = 16 := by kernel_rfl
theorem cellsW : Tryd.prog.cellsOf 22 = 1 := by kernel_rfl
theorem w_again {H : Type} {enc : TypeId × Value → H} {w : World} {base : Nat} {sp : Nat → Bool} {held : Bool} {fuel : Nat} {cs : List Value} {x : DataW H × List MemPlace} (h : DataW.trod enc Tryd.prog w base sp held fuel 22 cs = some x) (w' : World) (sp' : Nat → Bool) (m : Nat) :
    DataW.trod enc Tryd.prog w' 0 sp' true (m + 1) 22 cs = some x := by
  obtain ⟨k, rfl, rfl, hk⟩ := DataW.trod_int Tryd.underlying22 h
  exact trod_int_mk m Tryd.underlying22 hk
theorem a_mk {H : Type} {enc : TypeId × Value → H} {w : World} {base : Nat} {sp : Nat → Bool} {held : Bool} {n : Nat} {cs : List Value} {xs : List (DataW H × List MemPlace)} (hl : cs.length = Tryd.prog.cellsOf 23)
    (hp : (List.range 16).mapM (fun i => DataW.trod enc Tryd.prog w base sp held n 22 ((cs.drop (i * Tryd.prog.cellsOf 22)).take (Tryd.prog.cellsOf 22))) = some xs) :
    DataW.trod enc Tryd.prog w base sp held (n + 1) 23 cs = some (.agg (xs.map (·.1)), xs.flatMap (·.2)) := by
  unfold DataW.trod
  rw [Tryd.underlying23]
  split <;> simp_all
theorem mapM_get {α β : Type} (f : α → Option β) : ∀ (l : List α) (ys : List β), l.length = ys.length → (∀ i (h : i < l.length), f l[i] = ys[i]?) → l.mapM f = some ys
  | [], ys, hl, _ => by
    obtain rfl : ys = [] := List.eq_nil_of_length_eq_zero (by simpa using hl.symm)
    rfl
  | a :: l, [], hl, _ => by simp at hl
  | a :: l, y :: ys, hl, h => by
    have h0 := h 0 (by simp)
    have hr := mapM_get f l ys (by simpa using hl) (fun i hi => by have := h (i + 1) (by simpa using hi); rw [List.getElem_cons_succ, List.getElem?_cons_succ] at this; exact this)
    simp only [List.getElem_cons_zero, List.getElem?_cons_zero] at h0
    simp [List.mapM_cons, h0, hr]
theorem a_again {H : Type} {enc : TypeId × Value → H} {w : World} {base : Nat} {sp : Nat → Bool} {held : Bool} {fuel : Nat} {cs : List Value} {x : DataW H × List MemPlace} (h : DataW.trod enc Tryd.prog w base sp held fuel 23 cs = some x) (w' : World) (sp' : Nat → Bool) (m : Nat) :
    DataW.trod enc Tryd.prog w' 0 sp' true (m + 1 + 1) 23 cs = some x := by
  obtain ⟨ys, k, _, rfl, hl, hn, hi⟩ := DataW.trod_array Tryd.underlying23 h
  refine a_mk hl (mapM_get _ _ _ (by simp [hn]) fun i h' => ?_)
  have hlt : i < ys.length := by simpa [hn] using h'
  have h1 := hi i (by omega)
  rw [List.getElem?_eq_getElem hlt] at h1 ⊢
  rw [List.getElem_range]
  exact w_again h1 w' sp' m
/-- A number out of a value. -/
def numOf : Option Value → Int
  | some (.int _ n) => n
  | _ => 0
set_option maxRecDepth 100000 in
theorem st_open {H : Type} {enc : TypeId × Value → H} {w : World} {base b0 : Nat} {sp : Nat → Bool} {held : Bool} {rc : Reach} {v : Value} {d : DataW H} {p : List MemPlace}
    (hval : Value.okWide Tryd.prog w rc b0 25 v) (h : DataW.Trod enc Tryd.prog w base sp held 25 v d p) :
    ∃ (r : Nat → Int) (pc : Int), v = .agg (stL r pc).toArray ∧ p = [] ∧ R32 r ∧ W32 pc ∧ ∀ (W' : World) (sp' : Nat → Bool), DataW.Trod enc Tryd.prog W' 0 sp' true 25 v d [] := by
  obtain ⟨cs, rfl, hsz⟩ := okWide_struct Tryd.underlying25 hval
  rw [cellsSt] at hsz
  obtain ⟨fuel, hf⟩ := h
  obtain ⟨xs, n, hn, hx, _, hl, hfs⟩ := DataW.trod_struct Tryd.underlying25 hf
  have g0 := hfs 0 _ rfl
  have g1 := hfs 1 _ rfl
  simp only [Value.cells] at g0 g1
  match xs, hl with
  | [y0, y1], _ =>
    simp only [List.getElem?_cons_zero, List.getElem?_cons_succ] at g0 g1
    obtain ⟨ys, m, hm, hy, _, hyl, hys⟩ := DataW.trod_array Tryd.underlying23 g0
    have hreg : ∀ j, j < 16 → ∃ k : Int, cs.toList[j]? = some (.int .u32 k) ∧ (Lit.int .u32 k).wf = true ∧ ys[j]? = some (.lit (.int .u32 k), []) := by
      intro j hj
      have h1 := hys j hj
      rw [cellsW] at h1
      have hlt : j < ys.length := by rw [hyl]; exact hj
      rw [List.getElem?_eq_getElem hlt] at h1
      obtain ⟨k, hk, hk2, hk3⟩ := DataW.trod_int Tryd.underlying22 h1
      refine ⟨k, ?_, hk3, by rw [List.getElem?_eq_getElem hlt, hk2]⟩
      have := congrArg (·[0]?) hk
      simp only [Nat.mul_one] at this
      rw [List.getElem?_take, List.getElem?_drop, List.getElem?_take] at this
      exact (by simpa using this : _ ∧ cs.toList[j]? = some (.int .u32 k)).2
    obtain ⟨k, hk, hk2, hk3⟩ := DataW.trod_int Tryd.underlying22 g1
    have hpc : cs.toList[16]? = some (.int .u32 k) := by
      have := congrArg (·[0]?) hk
      rw [List.getElem?_take, List.getElem?_drop] at this
      exact (by simpa using this : _ ∧ cs.toList[16]? = some (.int .u32 k)).2
    have hst : IsSt cs.toList (fun j => numOf cs.toList[j]?) k := ⟨by simpa using hsz, fun j hj => by
      obtain ⟨q, hq, _⟩ := hreg j hj
      simp only [hq, numOf], hpc⟩
    have hp : p = [] := by
      simp only [Prod.mk.injEq] at hx
      rw [hx.2]
      have e1 : y1.2 = [] := by rw [hk2]
      have e0 : y0.2 = [] := by
        rw [hy]
        rw [List.flatMap_eq_nil_iff]
        intro x hx'
        obtain ⟨j, hj, rfl⟩ := List.mem_iff_getElem.1 hx'
        obtain ⟨q, _, _, hq⟩ := hreg j (by omega)
        rw [List.getElem?_eq_getElem hj] at hq
        rw [Option.some.inj hq]
      simp [e0, e1]
    refine ⟨fun j => numOf cs.toList[j]?, k, ?_, hp, fun j hj => ?_, ?_, fun W' sp' => ?_⟩
    · rw [← hst.eq]
    · obtain ⟨q, hq, hw, _⟩ := hreg j hj
      have := bounds_u32 hw
      simp only [hq, numOf]
      unfold W32; omega
    · have := bounds_u32 hk3
      unfold W32; omega
    · subst hp
      have := trod_struct2_mk (enc := enc) (w := W') (base := 0) (spare := sp') (held := true) (n := 2) (cs := cs.toList) Tryd.underlying25 (by rw [cellsSt]; simpa using hsz) (y0 := y0) (y1 := y1)
        (a_again g0 W' sp' 0) (w_again g1 W' sp' 1)
      refine ⟨3, this.trans ?_⟩
      simp only [Prod.mk.injEq] at hx
      simp only [List.map_cons, List.map_nil, List.flatMap_cons, List.flatMap_nil, List.append_nil] at hx
      rw [← hx.1, ← hx.2]
end Alu
end Go.Proofs.YtlfhcnpbgbnadaaDoor
