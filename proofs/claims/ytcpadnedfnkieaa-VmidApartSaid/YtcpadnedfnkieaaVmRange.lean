/-
  A range over a function whose rounds write what the function reads: the function may lean on what the rounds leave, round by round, and the rounds on what the function tells of each element. All rounds go on; none is left early. Conditions: none beside those that the statement's own parts are asked for.
-/
import Derived.RangeFuncNested
import Derived.RangeFuncBound
import Derived.RangeFuncLeaves
namespace Go.Proofs.Ytcpadnedfnkieaa
open Go.RowKit
namespace Vm
variable {F : Fence} {n : Nat} {P : Program} {α : Type}
/-- The record of the loop and the block of its deferred calls lie at two places. -/
structure Kept (r : LoopState → Loop) (D : Nat) (st : LoopState) (W : World) : Prop where
  loop : W.heap[D + 1]? = some (.loop (r st))
  defers : W.heap[D]? = some (.deferred (some []))
theorem Kept.lt {r : LoopState → Loop} {D : Nat} {st : LoopState} {W : World} (h : Kept r D st W) : D + 1 < W.heap.size := (Array.getElem?_eq_some_iff.1 h.loop).1
theorem Kept.put {r : LoopState → Loop} {D : Nat} {st : LoopState} {W : World} (h : Kept r D st W) (st' : LoopState) : Kept r D st' (W.putObj (D + 1) (.loop (r st'))) :=
  ⟨World.putObj_heap_same h.lt, (World.putObj_heap_other (by omega)).trans h.defers⟩
theorem Kept.turn {r : LoopState → Loop} {D : Nat} {st : LoopState} {W W' : World} {row : Option Nat} (h : Kept r D st W) (hg : W.grownBy W' row) (hr : ∀ k, row = some k → ∃ o : Obj, W.heap[k]? = some o ∧ o.isWalk = true) : Kept r D st W' :=
  ⟨(grownBy_keeps hg hr h.loop rfl).trans h.loop, (grownBy_keeps hg hr h.defers rfl).trans h.defers⟩
theorem Kept.from {r : LoopState → Loop} {D B : Nat} {st : LoopState} {W W' : World} (h : Kept r D st W) (hB : B ≤ D) (hk : KeepsFrom B W W') : Kept r D st W' :=
  ⟨hk.same _ _ (by omega) h.loop rfl, hk.same _ _ hB h.defers rfl⟩
/-- What an iterator is asked for: it leans on J, which the rounds keep, and tells T of each element. -/
def Tells (F : Fence) (n : Nat) (P : Program) (gf : Nat) (lb : Array Value) (encs : α → Array Value) (B : Nat) (I : List α → World → Prop) (T : List α → α → Prop) (S : List α → Prop) : Prop :=
  ∀ (l : Nat) (J : List α → World → Prop) (W : World), B ≤ W.heap.size → (∀ pre X, J pre X → I pre X) → AbidesFrom W.heap.size J →
    (∀ pre x X, J pre X → T pre x → YieldAt F (n - 1) P l (encs x) X fun e X' => e = .returned (.bool true) ∧ J (pre ++ [x]) X') → J [] W →
    CallsIn F n P gf (#[.func (.yield l) #[] #[]] ++ lb) W fun e W' => (∃ v, e = .returned v) ∧ ∃ xs, S xs ∧ J xs W'
theorem range_told {g : Operand} {ps : Array Tmp} {assign body : Code} {Q : Exit → Act → World → Prop} {a : Act} {w : World}
    (hro : F.round = none) (h1 : 1 ≤ n) {gf : Nat} {lb : Array Value} (hg : a.eval g = .func (.func gf) #[] lb) (hF : F.fn gf) (eg : ∀ args w, (callFunc gf args).run P w = .ok (.enter gf args) w)
    {encs : α → Array Value} (hps : ∀ x, (encs x).size = ps.size) {I : List α → World → Prop} {T : List α → α → Prop} {S : List α → Prop} (hI : OwnFrom w.heap.size I) (h0 : I [] w)
    (hseq : Tells F (n - 1) P gf lb encs w.heap.size I T S) (a₁ : α → Act)
    (hassign : ∀ (l : Nat) (x : α) (W : World) (K : Act → World → Prop), K (a₁ x) W → assign.wpIn (F.inRound l) (n - 1 - 1) P (Exit.then K (fun _ _ _ => False)) { tmps := (ps.zip (encs x)).foldl (fun t (p, v) => t.setIfInBounds p v) a.tmps, defers := [] } W)
    (hbody : ∀ (l : Nat) (pre : List α) (x : α) (W : World), I pre W → T pre x → body.wpIn (F.inRound l) (n - 1 - 1) P (fun e _ W' => e = .normal ∧ KeepsFrom w.heap.size W W' ∧ I (pre ++ [x]) W') (a₁ x) W)
    (hdone : ∀ (D : Nat) (xs : List α) (W : World), w.heap.size ≤ D → S xs → I xs W → W.heap[D]? = some (.deferred (some [])) → Q .normal { a with defers := { target := .collected D, args := #[] } :: a.defers } W) :
    (Code.rangeFunc g ps assign body).wpIn F n P Q a w := by
  refine wpIn_rangeFunc fun fn hfn => ?_
  rw [hro]
  let r : LoopState → Loop := fun st => { state := st, pending := none, fn, tmps := a.tmps, params := ps, assign, body, defers := w.heap.size }
  let w1 := (w.alloc (.deferred (some []))).alloc (.loop (r .ready))
  have hz : w1.heap.size = w.heap.size + 2 := by simp [w1]
  have k1 : Kept r w.heap.size .ready w1 :=
    ⟨by have := World.alloc_heap_new (w.alloc (.deferred (some []))) (.loop (r .ready)); rwa [World.size_alloc] at this, (Below.heap_alloc _ _ _ (by simp)).trans (World.alloc_heap_new w _)⟩
  have i1 : I [] w1 := hI.alloc _ (hI.alloc _ h0)
  refine ⟨w.heap.size + 1, [{ target := .collected w.heap.size, args := #[] }], w1, { target := .fn (.func gf) lb, args := #[.func (.yield (w.heap.size + 1)) #[] #[]] }, w1, gf, #[.func (.yield (w.heap.size + 1)) #[] #[]] ++ lb, w1,
    run_enterLoop_outer fn a.tmps ps assign body, by (simp only [resolve, hg]; simp [go_sem]), fun f hf => by simp [Target.leads] at hf; subst hf; exact hF, by simp [invoke, go_sem, eg], fun _ => h1, ?_⟩
  refine (hseq (w.heap.size + 1) (fun pre W => I pre W ∧ Kept r w.heap.size .ready W) w1 (by omega) (fun _ _ h => h.1) (fun pre X X' row hs hgr hrow => ?_) ?_ ⟨i1, k1⟩).mono ?_
  · exact ⟨hI pre X X' row hs.1 hgr (fun k e => by
      obtain ⟨hB, o, ho, hw⟩ := hrow k e
      exact ⟨by omega, o, ho, Obj.not_cells_of_walk hw⟩), hs.2.turn hgr (fun k e => (hrow k e).2)⟩
  · rintro pre x W ⟨hi, hk⟩ ht
    refine ⟨fn, _, assign, body, run_yield hk.loop (hps x), roundIn_of_wpIn hfn (hassign _ x W _ ⟨_, run_beginRound hk.loop rfl, ?_⟩)⟩
    refine wpIn_mono (hbody _ pre x _ (hI.putObj (.loop (r .busy)) hi (by omega) hk.loop rfl) ht) ?_
    rintro e a3 W3 ⟨rfl, hf, hi3⟩
    have k3 := (hk.put .busy).from (Nat.le_refl _) hf
    exact ⟨_, _, run_endRound none k3.loop, rfl, hI.putObj _ hi3 (by omega) k3.loop rfl, k3.put .ready⟩
  · rintro e W ⟨⟨v, rfl⟩, xs, hS, hi, hk⟩
    exact ⟨none, _, run_endLoop hk.loop (by simp [r]), hdone _ xs _ (Nat.le_refl _) hS (hI.putObj _ hi (by omega) hk.loop rfl) ((World.putObj_heap_other (by omega)).trans hk.defers)⟩
end Vm
end Go.Proofs.Ytcpadnedfnkieaa
