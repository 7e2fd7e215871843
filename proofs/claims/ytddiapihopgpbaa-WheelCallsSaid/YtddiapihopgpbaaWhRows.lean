/-
  Two rows of timers that grow, each in its own variable, while an advance goes through the slots. Conditions: none.
-/
import Derived.Test.YtddiapihopgpbaaWhAdvM
import Derived.Test.YtddiapihopgpbaaWhSort
namespace Go.Proofs.Ytddiapihopgpbaa
open Go.RowKit Go.Maps Go.Shelf
namespace Wh
open Ph (Only)

def Apart (v u : Value) : Prop := ∀ k, v.ownBlock = some k → u.ownBlock ≠ some k
theorem Apart.symm {v u : Value} (h : Apart v u) : Apart u v := fun k hk hv => h k hv hk
/-- Two rows, in two boxes. -/
structure TwoV (n₀ b1 b2 : Nat) (v z : Value) (ds ls : List DuT) (W : World) : Prop where
  x1 : Boxed W b1 38 v
  x2 : Boxed W b2 38 z
  r1 : W.ownsRow n₀ 42 2 v ds.length (flatD ds)
  r2 : W.ownsRow n₀ 42 2 z ls.length (flatD ls)
  ap : Apart v z
  n1 : v = .slice none 0 0 ↔ ds = []
  n2 : z = .slice none 0 0 ↔ ls = []
def Two (n₀ b1 b2 : Nat) (ds ls : List DuT) (W : World) : Prop := ∃ v z, TwoV n₀ b1 b2 v z ds ls W
theorem TwoV.swap {n₀ b1 b2 : Nat} {v z : Value} {ds ls : List DuT} {W : World} (h : TwoV n₀ b1 b2 v z ds ls W) : TwoV n₀ b2 b1 z v ls ds W := ⟨h.x2, h.x1, h.r2, h.r1, h.ap.symm, h.n2, h.n1⟩
theorem Two.swap {n₀ b1 b2 : Nat} {ds ls : List DuT} {W : World} (h : Two n₀ b1 b2 ds ls W) : Two n₀ b2 b1 ls ds W := by
  obtain ⟨v, z, h⟩ := h
  exact ⟨z, v, h.swap⟩
theorem row_cells {W : World} {n₀ n : Nat} {v : Value} {xs : List Value} (h : W.ownsRow n₀ 42 2 v n xs) {k : Nat} (hk : v.ownBlock = some k) : ∃ o : Obj, W.heap[k]? = some o ∧ o.isCells = true := by
  rcases h.2 with ⟨rfl, _⟩ | ⟨g, cap, cur, rfl, _, hg, _⟩
  · simp [Value.ownBlock] at hk
  · simp [Value.ownBlock] at hk
    subst hk
    exact ⟨_, hg, rfl⟩
/-- Blocks that hold no cells may turn. -/
theorem TwoV.turn {n₀ b1 b2 : Nat} {v z : Value} {ds ls : List DuT} {W W' : World} {row : Option Nat} (h : TwoV n₀ b1 b2 v z ds ls W) (hg : W.grownBy W' row) (hr : ∀ r, row = some r → ∃ o : Obj, W.heap[r]? = some o ∧ o.isCells = false) : TwoV n₀ b1 b2 v z ds ls W' := by
  have nb : ∀ {b : Nat} {t : TypeId} {u : Value}, Boxed W b t u → some b ≠ row := fun hb e => by
    obtain ⟨o, ho, hc⟩ := hr _ e.symm
    rw [show W.heap[_]? = _ from hb] at ho
    cases ho
    cases hc
  have nr : ∀ {n : Nat} {u : Value} {xs : List Value}, W.ownsRow n₀ 42 2 u n xs → u.ownBlock = none ∨ u.ownBlock ≠ row := fun {n u xs} hu => by
    cases e : u.ownBlock with
    | none => exact Or.inl rfl
    | some k =>
      refine Or.inr (fun e2 => ?_)
      obtain ⟨o, ho, hc⟩ := row_cells hu e
      obtain ⟨o', ho', hc'⟩ := hr k e2.symm
      rw [ho] at ho'
      cases ho'
      rw [hc] at hc'
      cases hc'
  exact ⟨h.x1.kept hg (nb h.x1), h.x2.kept hg (nb h.x2), h.r1.kept hg (nr h.r1), h.r2.kept hg (nr h.r2), h.ap, h.n1, h.n2⟩
theorem Two.turn {n₀ b1 b2 : Nat} {ds ls : List DuT} {W W' : World} {row : Option Nat} (h : Two n₀ b1 b2 ds ls W) (hg : W.grownBy W' row) (hr : ∀ r, row = some r → ∃ o : Obj, W.heap[r]? = some o ∧ o.isCells = false) : Two n₀ b1 b2 ds ls W' := by
  obtain ⟨v, z, h⟩ := h
  exact ⟨v, z, h.turn hg hr⟩
/-- A block below all of it turns. -/
theorem TwoV.low {n₀ b1 b2 : Nat} {v z : Value} {ds ls : List DuT} {W W' : World} {S : List Nat} (h : TwoV n₀ b1 b2 v z ds ls W) (ho : Only S W W') (hs : ∀ x ∈ S, x < n₀) (h1 : n₀ ≤ b1) (h2 : n₀ ≤ b2) : TwoV n₀ b1 b2 v z ds ls W' := by
  have nb : ∀ {b : Nat} {t : TypeId} {u : Value}, n₀ ≤ b → Boxed W b t u → Boxed W' b t u := fun hb hx => (ho.block _ hx.lt (fun e => by have := hs _ e; omega)).trans hx
  have nr : ∀ {n : Nat} {u : Value} {xs : List Value}, W.ownsRow n₀ 42 2 u n xs → W'.ownsRow n₀ 42 2 u n xs := fun {n u xs} hu => by
    refine ⟨hu.1, ?_⟩
    rcases hu.2 with h | ⟨g, cap, cur, e, hg, hb, r⟩
    · exact Or.inl h
    · exact Or.inr ⟨g, cap, cur, e, hg, (ho.block g (Array.getElem?_eq_some_iff.1 hb).1 (fun x => by have := hs g x; omega)).trans hb, r⟩
  exact ⟨nb h1 h.x1, nb h2 h.x2, nr h.r1, nr h.r2, h.ap, h.n1, h.n2⟩
/-- A timer more in the first row. -/
theorem TwoV.app {n₀ b1 b2 : Nat} {v z v' : Value} {ds ls : List DuT} {x : DuT} {W w1 : World} {tmp : Obj} (h : TwoV n₀ b1 b2 v z ds ls W) (hn : n₀ ≤ W.heap.size) (h1 : n₀ ≤ b1) (hb : b2 ≠ b1)
    (hown : w1.ownsRow n₀ 42 2 v' (ds.length + 1) (flatD ds ++ encD x)) (hgrow : (W.alloc tmp).grownBy w1 v.ownBlock) (hat : v'.ownBlock = v.ownBlock ∨ v'.ownBlock = some (W.alloc tmp).heap.size) (hnil : v' ≠ .slice none 0 0) :
    Boxed w1 b1 38 v ∧ TwoV n₀ b1 b2 v' z (ds ++ [x]) ls (w1.setCell ⟨b1, 0, none⟩ v') ∧ KeepsOthers W (w1.setCell ⟨b1, 0, none⟩ v') ∧ Below n₀ W (w1.setCell ⟨b1, 0, none⟩ v') ∧
      ∀ (b : Nat) (t : TypeId) (u : Value), t ≠ 42 → b ≠ b1 → Boxed W b t u → Boxed (w1.setCell ⟨b1, 0, none⟩ v') b t u := by
  obtain ⟨a1, a2, a3, a4, a5⟩ := h.x1.appended (by decide) h.r1 hn h1 hown hgrow
  have hz1 := h.r2.alloc tmp
  have hz2 : w1.ownsRow n₀ 42 2 z ls.length (flatD ls) := hz1.kept hgrow (by
    cases hc : z.ownBlock with
    | none => exact Or.inl rfl
    | some k => exact Or.inr (fun e => h.ap k e.symm hc))
  have g1 := grownBy_setCell' w1 b1 v'
  refine ⟨a1, ⟨a2, ((h.x2.alloc tmp).kept hgrow (h.x2.not_row (by decide) h.r1)).kept g1 (fun e => hb (by injection e)), ?_, ?_, ?_, ?_, h.n2⟩, a4, a5, fun b t u ht hbb hx => ((hx.alloc tmp).kept hgrow (hx.not_row ht h.r1)).kept g1 (fun e => hbb (by injection e))⟩
  · rw [List.length_append, flatD_snoc]; exact a3
  · refine hz2.kept g1 ?_
    cases hc : z.ownBlock with
    | none => exact Or.inl rfl
    | some k =>
      refine Or.inr (fun e => ?_)
      have hx2 : Boxed w1 b1 38 v := a1
      exact hx2.not_row (by decide) hz2 (by rw [hc, e])
  · intro k hk hk'
    rcases hat with e | e
    · exact h.ap k (e.symm.trans hk) hk'
    · rw [hk] at e
      injection e with e
      have := (hz1.lt k hk').2
      omega
  · exact ⟨fun e => absurd e hnil, fun e => by simp at e⟩
/-- A slot's timers, each with the word that it is one. -/
theorem timers_subs (n : Nat) (hn : 1 ≤ n) (Bm b : Nat) (l : List DuT) (w : World) (hBm : Bm < w.heap.size) (hm : w.cell? ⟨Bm, 0, none⟩ = some (.map (some b))) (hown : Mp w b l) :
    SeqStopsK Fence.wide n Try.prog 33 #[.pointer (some ⟨Bm, 0, none⟩)] (fun x : { x : DuT // x ∈ l } => encV x.1) (Kw w.heap.size b) (fun xs => (xs.map (·.1)).Perm l) (fun _ => True) l.length w := by
  intro lb J Jx W hW hJ _ hY h0
  refine (timers1_in n hn lb Bm b w.heap.size l (fun pre W => ∃ ys : List { x : DuT // x ∈ l }, ys.map (·.1) = pre ∧ J ys W) (fun pre W => ∃ ys : List { x : DuT // x ∈ l }, ys.map (·.1) = pre ∧ Jx ys W) ?_ W hW.size ?_ ((hW.cell (p := ⟨Bm, 0, none⟩) hBm).trans hm) (hown.kept (Only.of hW []) (by simp)) ⟨[], rfl, h0⟩).mono ?_
  · rintro pre x W1 ⟨ys, rfl, hj⟩ hl hx
    refine (hY ys ⟨x, hx⟩ W1 hj (by simpa using hl)).mono ?_
    rintro e W' (⟨he, hj, hk⟩ | ⟨he, hj⟩)
    · exact .inl ⟨he, ⟨_, by simp, hj⟩, hk⟩
    · exact .inr ⟨he, ⟨_, by simp, hj⟩⟩
  · rintro pre X X' row ⟨ys, e, hj⟩ hg hr
    exact ⟨ys, e, hJ ys X X' row hj hg hr⟩
  · rintro e W' ⟨hv, (⟨xs, hp, ys, e, hj⟩ | ⟨pre, _, ys, _, hj⟩)⟩
    · subst e
      exact ⟨hv, .inl ⟨ys, hp, hj⟩⟩
    · exact ⟨hv, .inr ⟨ys, trivial, hj⟩⟩
end Wh
end Go.Proofs.Ytddiapihopgpbaa
