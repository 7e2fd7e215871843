/-
  A range over a function whose rounds write what the function reads, be they left early (by a return) or not: the function may lean on what the rounds leave, round by round, and the rounds on what the function tells of each element. Conditions: none beside those that the statement's own parts are asked for.
-/
import Derived.Test.YtddiapihopgpbaaWhUntil
namespace Go.Proofs.Ytddiapihopgpbaa
open Go.RowKit
namespace Wh
open Ph (Only)
section
variable {F : Fence} {n : Nat} {P : Program} {α : Type}
/-- The record of the loop and the block of its deferred calls lie at two places. -/
structure Kept (r : LoopState → Option Code → Loop) (D : Nat) (st : LoopState) (pe : Option Code) (W : World) : Prop where
  loop : W.heap[D + 1]? = some (.loop (r st pe))
  defers : W.heap[D]? = some (.deferred (some []))
theorem Kept.lt {r : LoopState → Option Code → Loop} {D : Nat} {st : LoopState} {pe : Option Code} {W : World} (h : Kept r D st pe W) : D + 1 < W.heap.size := (Array.getElem?_eq_some_iff.1 h.loop).1
theorem Kept.put {r : LoopState → Option Code → Loop} {D : Nat} {st : LoopState} {pe : Option Code} {W : World} (h : Kept r D st pe W) (st' : LoopState) (pe' : Option Code) : Kept r D st' pe' (W.putObj (D + 1) (.loop (r st' pe'))) :=
  ⟨World.putObj_heap_same h.lt, (World.putObj_heap_other (by omega)).trans h.defers⟩
theorem Kept.turn {r : LoopState → Option Code → Loop} {D : Nat} {st : LoopState} {pe : Option Code} {W W' : World} {row : Option Nat} (h : Kept r D st pe W) (hg : W.grownBy W' row) (hr : ∀ k, row = some k → ∃ o : Obj, W.heap[k]? = some o ∧ o.isWalk = true) : Kept r D st pe W' :=
  ⟨(grownBy_keeps hg hr h.loop rfl).trans h.loop, (grownBy_keeps hg hr h.defers rfl).trans h.defers⟩
theorem Kept.from {r : LoopState → Option Code → Loop} {D B : Nat} {st : LoopState} {pe : Option Code} {W W' : World} (h : Kept r D st pe W) (hB : B ≤ D) (hk : KeepsFrom B W W') : Kept r D st pe W' :=
  ⟨hk.same _ _ (by omega) h.loop rfl, hk.same _ _ hB h.defers rfl⟩
/-- What an iterator is asked for: it leans on what the rounds keep, and tells T of each element. -/
def Tells (F : Fence) (n : Nat) (P : Program) (gf : Nat) (lb : Array Value) (encs : α → Array Value) (B : Nat) (I : List α → World → Prop) (T : List α → α → Prop) (S Sp : List α → Prop) : Prop :=
  ∀ (l : Nat) (J Jx : List α → World → Prop) (W : World), B ≤ W.heap.size → (∀ pre X, J pre X → I pre X) → AbidesFrom W.heap.size J → AbidesFrom W.heap.size Jx →
    (∀ pre x X, J pre X → T pre x → YieldAt F (n - 1) P l (encs x) X fun e X' => (e = .returned (.bool true) ∧ J (pre ++ [x]) X') ∨ (e = .returned (.bool false) ∧ Jx (pre ++ [x]) X')) → J [] W →
    CallsIn F n P gf (#[.func (.yield l) #[] #[]] ++ lb) W fun e W' => (∃ v, e = .returned v) ∧ ((∃ xs, S xs ∧ J xs W') ∨ (∃ pre, Sp pre ∧ Jx pre W'))
/-- How a round may be left. -/
def Left (B : Nat) (I Ix : List α → World → Prop) (xs : List α) (W : World) : Exit → Act → World → Prop
  | .normal, _, W' => KeepsFrom B W W' ∧ I xs W'
  | .ret, _, W' => KeepsFrom B W W' ∧ Ix xs W'
  | _, _, _ => False
theorem range_told {g : Operand} {ps : Array Tmp} {assign body : Code} {Q : Exit → Act → World → Prop} {a : Act} {w : World}
    (hro : F.round = none) (h1 : 1 ≤ n) {gf : Nat} {lb : Array Value} (hg : a.eval g = .func (.func gf) #[] lb) (hF : F.fn gf) (eg : ∀ args w, (callFunc gf args).run P w = .ok (.enter gf args) w)
    {encs : α → Array Value} (hps : ∀ x, (encs x).size = ps.size) {I Ix : List α → World → Prop} {T : List α → α → Prop} {S Sp : List α → Prop} (hI : OwnFrom w.heap.size I) (hIx : OwnFrom w.heap.size Ix) (h0 : I [] w)
    (hseq : Tells F (n - 1) P gf lb encs w.heap.size I T S Sp) (a₁ : α → Act)
    (hassign : ∀ (l : Nat) (x : α) (W : World) (K : Act → World → Prop), K (a₁ x) W → assign.wpIn (F.inRound l) (n - 1 - 1) P (Exit.then K (fun _ _ _ => False)) { tmps := (ps.zip (encs x)).foldl (fun t (p, v) => t.setIfInBounds p v) a.tmps, defers := [] } W)
    (hbody : ∀ (l : Nat) (pre : List α) (x : α) (W : World), w.heap.size ≤ l → (∃ r, W.heap[l]? = some (.loop r)) → I pre W → T pre x → body.wpIn (F.inRound l) (n - 1 - 1) P (Left w.heap.size I Ix (pre ++ [x]) W) (a₁ x) W)
    (hdone : ∀ (D : Nat) (xs : List α) (W : World), w.heap.size ≤ D → S xs → I xs W → W.heap[D]? = some (.deferred (some [])) → Q .normal { a with defers := { target := .collected D, args := #[] } :: a.defers } W)
    (hstop : ∀ (D : Nat) (pre : List α) (W : World), w.heap.size ≤ D → Sp pre → Ix pre W → W.heap[D]? = some (.deferred (some [])) → Code.ret.wpIn F n P Q { a with defers := { target := .collected D, args := #[] } :: a.defers } W) :
    (Code.rangeFunc g ps assign body).wpIn F n P Q a w := by
  refine wpIn_rangeFunc fun fn hfn => ?_
  rw [hro]
  let r : LoopState → Option Code → Loop := fun st pe => { state := st, pending := pe, fn, tmps := a.tmps, params := ps, assign, body, defers := w.heap.size }
  let w1 := (w.alloc (.deferred (some []))).alloc (.loop (r .ready none))
  have hz : w1.heap.size = w.heap.size + 2 := by simp [w1]
  have k1 : Kept r w.heap.size .ready none w1 :=
    ⟨by have := World.alloc_heap_new (w.alloc (.deferred (some []))) (.loop (r .ready none)); rwa [World.size_alloc] at this, (Below.heap_alloc _ _ _ (by simp)).trans (World.alloc_heap_new w _)⟩
  have i1 : I [] w1 := hI.alloc _ (hI.alloc _ h0)
  have own : ∀ {A B : World} {row : Option Nat}, (∀ k, row = some k → w1.heap.size ≤ k ∧ ∃ o : Obj, A.heap[k]? = some o ∧ o.isWalk = true) → A.grownBy B row → ∀ k, row = some k → w.heap.size ≤ k ∧ ∃ o : Obj, A.heap[k]? = some o ∧ o.isCells = false := fun hr _ k e => by
    obtain ⟨hB, o, ho, hw⟩ := hr k e
    exact ⟨by omega, o, ho, Obj.not_cells_of_walk hw⟩
  refine ⟨w.heap.size + 1, [{ target := .collected w.heap.size, args := #[] }], w1, { target := .fn (.func gf) lb, args := #[.func (.yield (w.heap.size + 1)) #[] #[]] }, w1, gf, #[.func (.yield (w.heap.size + 1)) #[] #[]] ++ lb, w1,
    run_enterLoop_outer fn a.tmps ps assign body, by (simp only [resolve, hg]; simp [go_sem]), fun f hf => by simp [Target.leads] at hf; subst hf; exact hF, by simp [invoke, go_sem, eg], fun _ => h1, ?_⟩
  refine (hseq (w.heap.size + 1) (fun pre W => I pre W ∧ Kept r w.heap.size .ready none W) (fun pre W => Ix pre W ∧ Kept r w.heap.size .done (some .ret) W) w1 (by omega) (fun _ _ h => h.1)
    (fun pre X X' row hs hgr hrow => ⟨hI pre X X' row hs.1 hgr (own hrow hgr), hs.2.turn hgr (fun k e => (hrow k e).2)⟩)
    (fun pre X X' row hs hgr hrow => ⟨hIx pre X X' row hs.1 hgr (own hrow hgr), hs.2.turn hgr (fun k e => (hrow k e).2)⟩) ?_ ⟨i1, k1⟩).mono ?_
  · rintro pre x W ⟨hi, hk⟩ ht
    refine ⟨fn, _, assign, body, run_yield hk.loop (hps x), roundIn_of_wpIn hfn (hassign _ x W _ ⟨_, run_beginRound hk.loop rfl, ?_⟩)⟩
    refine wpIn_mono (hbody _ pre x _ (by omega) ⟨_, (hk.put .busy none).loop⟩ (hI.putObj (.loop (r .busy none)) hi (by omega) hk.loop rfl) ht) ?_
    intro e a3 W3 hl
    cases e with
    | normal =>
      obtain ⟨hf, hi3⟩ := hl
      have k3 := (hk.put .busy none).from (Nat.le_refl _) hf
      exact ⟨_, _, run_endRound none k3.loop, .inl ⟨rfl, hI.putObj _ hi3 (by omega) k3.loop rfl, k3.put .ready none⟩⟩
    | ret =>
      obtain ⟨hf, hi3⟩ := hl
      have k3 := (hk.put .busy none).from (Nat.le_refl _) hf
      exact ⟨_, _, run_endRound (some .ret) k3.loop, .inr ⟨rfl, hIx.putObj _ hi3 (by omega) k3.loop rfl, k3.put .done (some .ret)⟩⟩
    | exit _ => exact hl.elim
    | goto _ => exact hl.elim
    | panic _ => exact hl.elim
    | outgrown => exact hl.elim
  · rintro e W ⟨⟨v, rfl⟩, (⟨xs, hS, hi, hk⟩ | ⟨pre, hS, hi, hk⟩)⟩
    · exact ⟨none, _, run_endLoop hk.loop (by simp [r]), hdone _ xs _ (Nat.le_refl _) hS (hI.putObj _ hi (by omega) hk.loop rfl) ((World.putObj_heap_other (by omega)).trans hk.defers)⟩
    · exact ⟨some .ret, _, run_endLoop hk.loop (by simp [r]), hstop _ pre _ (Nat.le_refl _) hS (hIx.putObj _ hi (by omega) hk.loop rfl) ((World.putObj_heap_other (by omega)).trans hk.defers)⟩
end
theorem grownO {w w' : World} (h : Only [] w w') : w.grownBy w' none :=
  ⟨h.os, h.tape, h.output, h.size, fun k hk _ => h.block k hk (by simp)⟩
theorem until_tells (n : Nat) (hn : 1 ≤ n) (b0 b1 p t u : Nat) (ht : t < 2 ^ 63) (hu : u < 2 ^ 63) (full : Nat → Bool) (Bn : Nat) (I : List Nat → World → Prop)
    (hI : ∀ k X, k ≤ pl t u → I (fulls full k) X → Bx1 X b0 (.pointer (some ⟨p, 0, none⟩)) ∧ Bx1 X b1 (.int .u64 (u : Nat)) ∧ Shows full p t k X) :
    Tells Fence.wide n Try.prog 32 #[.pointer (some ⟨b0, 0, none⟩), .pointer (some ⟨b1, 0, none⟩)] (encK p) Bn I
      (fun pre k => k ≤ pl t u ∧ full k = true ∧ pre = fulls full k) (fun xs => xs = fulls full (pl t u + 1)) (fun xs => ∃ k, k ≤ pl t u ∧ full k = true ∧ xs = fulls full (k + 1)) := fun l J Jx W _ hJI hJ _ hY h0 => by
  refine (until1_base n hn l b0 b1 p t u ht hu full J Jx W (fun k X hk hx => hI k X hk (hJI _ X hx)) (fun X X' hx ho => hJ [] X X' none hx (grownO ho) (fun r e => by cases e)) (fun k X hk hf hx => ?_) h0).mono ?_
  · have := hY (fulls full k) k X hx ⟨hk, hf, rfl⟩
    rw [← fulls_yes hf] at this
    exact this
  · rintro e W' ⟨hv, (hj | ⟨k, hk, hf, hj⟩)⟩
    · exact ⟨hv, .inl ⟨_, rfl, hj⟩⟩
    · exact ⟨hv, .inr ⟨_, ⟨k, hk, hf, rfl⟩, hj⟩⟩
theorem until_any (p u : Nat) (w : World) :
    Calls Try.prog 25 #[.pointer (some ⟨p, 0, none⟩), .int .u64 (u : Nat)] w fun e w' => e = .returned (.func (.func 32) #[] #[.pointer (some ⟨w.heap.size, 0, none⟩), .pointer (some ⟨w.heap.size + 1, 0, none⟩)]) ∧
      w' = (w.alloc (.cells #[.pointer (some ⟨p, 0, none⟩)] 25)).alloc (.cells #[.int .u64 (u : Nat)] 22) := by
  go_enter Try.func25, Try.ntmps25
  go_wp2
  go_ret
  exact ⟨rfl, rfl⟩
end Wh
end Go.Proofs.Ytddiapihopgpbaa
