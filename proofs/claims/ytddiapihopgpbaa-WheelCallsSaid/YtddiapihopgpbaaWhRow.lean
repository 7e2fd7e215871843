/-
  A row of timers that a law makes: kept, and lengthened by what a wheel tells. Conditions: none.
-/
import Derived.Test.YtddiapihopgpbaaWhRightM
namespace Go.Proofs.Ytddiapihopgpbaa
open Go.RowKit
namespace Wh
open Ph (Only)
theorem infoDue : (Try.prog.info? 42).map (fun i => (i.zero, i.size, i.bytes)) = some (some (.agg #[.int .i64 0, .int .u64 0]), 2, 16) := by kernel_rfl
theorem info_parts {t : TypeId} {z : Value} {k b : Nat} (h : (Try.prog.info? t).map (fun i => (i.zero, i.size, i.bytes)) = some (some z, k, b)) : ∃ i, Try.prog.info? t = some i ∧ i.zero = some z ∧ i.size = k ∧ i.bytes = b := by
  obtain ⟨i, hi, hx⟩ := Option.map_eq_some_iff.1 h
  simp only [Prod.mk.injEq] at hx
  exact ⟨i, hi, hx⟩
theorem own_only {w w' : World} {base : Nat} {e : TypeId} {size : Nat} {v : Value} {n : Nat} {xs : List Value} {S : List Nat} (h : w.ownsRow base e size v n xs) (ho : Only S w w') (hn : ∀ g, v.ownBlock = some g → g ∉ S) : w'.ownsRow base e size v n xs := by
  refine ⟨h.1, ?_⟩
  rcases h.2 with h2 | ⟨g, cap, cur, rfl, hb, hg, hr⟩
  · exact Or.inl h2
  · exact Or.inr ⟨g, cap, cur, rfl, hb, (ho.block g (Array.getElem?_eq_some_iff.1 hg).1 (hn g rfl)).trans hg, hr⟩
theorem own_seen {w : World} {base : Nat} {e : TypeId} {v : Value} {l : List DuT} (h : w.ownsRow base e 2 v l.length (flatD l)) : Seen base [] w v l := by
  have hlt := h.lt
  rcases h.2 with ⟨rfl, h0⟩ | ⟨g, cap, cur, rfl, hrest⟩
  · have : l = [] := by
      cases l with
      | nil => rfl
      | cons x r => simp at h0
    subst this
    exact ⟨_, _, rfl, fun _ => rfl, fun h => by simp at h⟩
  · refine ⟨_, _, rfl, (fun h => absurd h (by simp)), fun _ => ⟨g, 0, rfl, (hlt g rfl).1, by simp, (hlt g rfl).2, fun i x hx => ?_⟩⟩
    obtain ⟨f0, f1⟩ := flatD_at hx
    have c0 := h.cells (g := g) rfl _ _ f0
    have c1 := h.cells (g := g) rfl _ _ f1
    rw [add_eq] at c0 c1
    exact ⟨c0, by rw [Nat.add_assoc]; exact c1⟩
set_option maxRecDepth 100000 in
/-- What a wheel tells is appended to a row. -/
theorem step_dues {ops : Array Oper} {rest : List Oper} {o : Oper} {a : Act} {Q : Exit → Act → World → Prop} (hgd : o.guard = none) (s x : Operand)
    (ho : o.op = .call { callee := .builtin .append, args := #[s, x], argTypes := #[38, 38] }) (B : Nat) (v : Value) (A X : List DuT) (va : Option Addr) (vc C : Nat) (F : List Nat) (W : World)
    (hv : W.ownsRow B 42 2 v A.length (flatD A)) (hB : B ≤ W.heap.size) (hn : A.length + X.length ≤ 4000) (hS : Seen C F W (.slice va X.length vc) X)
    (hs : a.eval s = v) (hx : a.eval x = .slice va X.length vc)
    (h : ∀ v' W', W'.ownsRow B 42 2 v' (A ++ X).length (flatD (A ++ X)) → W.grownBy W' v.ownBlock → (v'.ownBlock = v.ownBlock ∨ v'.ownBlock = some W.heap.size) → wpList Try.prog ops Q rest (a.put o.dst v') W') :
    wpList Try.prog ops Q (o :: rest) a W := by
  obtain ⟨i0, hi, hz0, hz1, hz2⟩ := info_parts infoDue
  cases va with
  | none =>
    obtain ⟨a', cap', e, h0, hr⟩ := hS
    cases e
    obtain rfl := h0 rfl
    have hX : X = [] := by
      cases X with
      | nil => rfl
      | cons y r => obtain ⟨b, off, e, _⟩ := hr (by simp); cases e
    subst hX
    have hrun := run_append_owned_none (P := Try.prog) (w := W) B 38 o.type 42 i0 2 Try.underlying38 hi v A.length (flatD A) hv
    refine wpList_plain hgd fun K hK => ?_
    unfold Oper.wp execOp
    simp only [ho, resolve, invoke, builtin, Sem.run_bind, Sem.run_pure, Result.andThen_ok, List.map_toArray, List.map_cons, List.map_nil, hs, hx, List.length_nil, hrun]
    refine hK _ _ (h v W (by rw [List.append_nil]; exact hv) ⟨rfl, rfl, rfl, Nat.le_refl _, fun _ _ _ => rfl⟩ (Or.inl rfl))
  | some ad =>
    have hnews : ∀ j u, (flatD X)[j]? = some u → W.cell? (ad.add j) = some u := by
      intro j u hj
      have hjl := (List.getElem?_eq_some_iff.1 hj).1
      rw [flatD_len] at hjl
      obtain ⟨i, r, rfl, hr⟩ : ∃ i r, j = i * 2 + r ∧ r < 2 := ⟨j / 2, j % 2, by omega, by omega⟩
      have hi : i < X.length := by omega
      obtain ⟨b, off, e, _, _, _, c0, c1⟩ := hS.at (List.getElem?_eq_getElem hi)
      cases e
      obtain ⟨f0, f1⟩ := flatD_at (List.getElem?_eq_getElem hi)
      rw [add_eq]
      match r, hr with
      | 0, _ => rw [Nat.add_zero] at hj ⊢; rw [f0] at hj; cases hj; exact c0
      | 1, _ => rw [f1] at hj; cases hj; rw [← Nat.add_assoc]; exact c1
    have hone : ∀ u ∈ flatD X, u.oneCell' = true := by
      intro u hu
      unfold flatD at hu
      obtain ⟨y, _, hy⟩ := List.mem_flatMap.1 hu
      simp only [encD, List.mem_cons, List.not_mem_nil, or_false] at hy
      rcases hy with rfl | rfl <;> rfl
    refine wpList_append_own_at (P := Try.prog) (w := W) hgd s x 38 ho B 42 i0 (.agg #[.int .i64 0, .int .u64 0]) 2 16 Try.underlying38 hi hz0 hz1 hz2 rfl (by decide) v A.length (flatD A) hs hv ad X.length vc (flatD X) hx (flatD_len X) hnews hone (by unfold maxLen; omega) (by omega) hB ?_
    intro v' W' h1 h2 _ h4
    exact h v' W' (by rw [List.length_append, flatD_append]; exact h1) h2 h4
/-- What the steps have told, and what is left, is the whole list. -/
theorem steps_next {t s : Nat} {A l L : List DuT} (hs : s ≤ 4611686018427387904) (hA : A ++ l = L) (hl : Srt l) (ht : ∀ x ∈ A, x.2 ≤ t) : (A ++ advO t s l) ++ advL t s l = L ∧ ∀ x ∈ A ++ advO t s l, x.2 ≤ advT t s := by
  unfold advO advL advT
  rw [if_pos hs, if_pos hs, if_pos hs]
  refine ⟨by rw [List.append_assoc, ← split hl]; exact hA, fun x hx => ?_⟩
  rcases List.mem_append.1 hx with h | h
  · have := ht x h; omega
  · have := (List.mem_filter.1 h).2; simpa using this
theorem steps_end {t n : Nat} {A l L : List DuT} (ht : t ≤ 4611686018427387904) (hn : n ≤ t) (hA : A ++ l = L) (hl : ∀ x ∈ A, x.2 ≤ t) : A ++ advO t t l = advO n t L ∧ advL t t l = advL n t L ∧ advT t t = advT n t := by
  unfold advO advL advT
  rw [if_pos ht, if_pos ht, if_pos ht, if_pos ht, if_pos ht, if_pos ht, show max t t = t by omega, show max n t = t by omega, ← hA]
  have h1 : A.filter (fun x => decide (x.2 ≤ t)) = A := List.filter_eq_self.2 (fun x hx => by simpa using hl x hx)
  have h2 : A.filter (fun x => !decide (x.2 ≤ t)) = [] := List.filter_eq_nil_iff.2 (fun x hx => by have := hl x hx; simp; omega)
  refine ⟨?_, ?_, rfl⟩
  · unfold out; rw [List.filter_append, h1]
  · unfold rst; rw [List.filter_append, h2, List.nil_append]
/-- How often one of a row stands among the first of it. -/
def hits (x : DuT) (l : List DuT) (k : Nat) : Nat := ((l.take k).filter (fun y => y == x)).length
theorem hits_next {x y : DuT} {l : List DuT} {k : Nat} (h : l[k]? = some y) : hits x l (k + 1) = hits x l k + (if y = x then 1 else 0) := by
  unfold hits
  have e : l.take (k + 1) = l.take k ++ [y] := by rw [List.take_add_one, h]; rfl
  rw [e, List.filter_append, List.length_append]
  by_cases hy : y = x
  · rw [if_pos hy, List.filter_cons_of_pos (by simpa using hy)]; rfl
  · rw [if_neg hy, List.filter_cons_of_neg (by simpa using hy)]; rfl
theorem hits_all {x : DuT} {l : List DuT} (hu : Uni l) (h : x ∈ l) : hits x l l.length = 1 := by
  unfold hits
  rw [List.take_length, count_uni hu, if_pos h]
theorem hits_le (x : DuT) (l : List DuT) (k : Nat) : hits x l k ≤ k := by
  unfold hits
  exact Nat.le_trans (List.length_filter_le _ _) (by rw [List.length_take]; omega)
end Wh
end Go.Proofs.Ytddiapihopgpbaa
