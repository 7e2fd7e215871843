/-
  Rows of structs in a block: each element's cells one behind the other. Conditions: none.
-/
import Derived.Test.YtcpadnedfnkieaaTlBase
namespace Go.Proofs.Ytcpadnedfnkieaa
open Go.RowKit
namespace Tl
open Ph (Only)

/-- A block's cells, from its head on, are the elements' cells one behind the other, and may be written. -/
structure KRow {α : Type} (k : Nat) (enc : α → List Value) (w : World) (b : Nat) (l : List α) : Prop where
  lt : b < w.heap.size
  range : ∀ (i : Nat) (x : α), l[i]? = some x → ∀ (j : Nat) (v : Value), (enc x)[j]? = some v → w.cell? ⟨b, i * k + j, none⟩ = some v
  free : ∀ (i : Nat), i < l.length → ∀ j, j < k → (w.cell? ⟨b, i * k + j, none⟩).isSome = true ∧ w.frozen? ⟨b, i * k + j, none⟩ = false
variable {α : Type} {k : Nat} {enc : α → List Value}
theorem KRow.kept {w w' : World} {b : Nat} {l : List α} {S : List Nat} (h : KRow k enc w b l) (ho : Only S w w') (hb : b ∉ S) : KRow k enc w' b l :=
  ⟨Nat.lt_of_lt_of_le h.lt ho.size, fun i x hx j v hv => (ho.cell h.lt hb _).trans (h.range i x hx j v hv), fun i hi j hj => by rw [ho.cell h.lt hb, ho.frozen h.lt hb]; exact h.free i hi j hj⟩
theorem cell_setC (b : Nat) : ∀ (vs : List Value) (o : Nat) (w : World) (t : Nat), (w.cell? ⟨b, t, none⟩).isSome = true → (w.setCells b o vs).cell? ⟨b, t, none⟩ = if o ≤ t ∧ t < o + vs.length then vs[t - o]? else w.cell? ⟨b, t, none⟩
  | [], o, w, t, _ => by rw [World.setCells, if_neg (by simp)]
  | v :: r, o, w, t, h => by
    have h' : ((w.setCell ⟨b, o, none⟩ v).cell? ⟨b, t, none⟩).isSome = true := by
      by_cases e : o = t
      · subst e; rw [World.cell?_setCell_same' _ _ _ h]; rfl
      · rw [World.cell?_setCell_other _ _ _ _ (fun x => e (by injection x))]; exact h
    rw [World.setCells, cell_setC b r (o + 1) _ t h']
    by_cases h1 : o + 1 ≤ t ∧ t < o + 1 + r.length
    · rw [if_pos h1, if_pos (by simp; omega)]
      obtain ⟨u, rfl⟩ : ∃ u, t = o + 1 + u := ⟨t - (o + 1), by omega⟩
      rw [show o + 1 + u - (o + 1) = u by omega, show o + 1 + u - o = u + 1 by omega, List.getElem?_cons_succ]
    · rw [if_neg h1]
      by_cases e : o = t
      · subst e
        rw [World.cell?_setCell_same' _ _ _ h, if_pos (by simp)]
        simp
      · rw [World.cell?_setCell_other _ _ _ _ (fun x => e (by injection x)), if_neg (by simp; omega)]
theorem frozen_setC (b : Nat) : ∀ (vs : List Value) (o : Nat) (w : World) (x : Addr), (w.setCells b o vs).frozen? x = w.frozen? x
  | [], _, _, _ => rfl
  | v :: r, o, w, x => by rw [World.setCells, frozen_setC b r (o + 1), World.frozen?_setCell]
theorem size_setC' (b : Nat) : ∀ (vs : List Value) (o : Nat) (w : World), (w.setCells b o vs).heap.size = w.heap.size
  | [], _, _ => rfl
  | v :: vs, o, w => by rw [World.setCells, size_setC' b vs (o + 1)]; simp
theorem only_setC {S : List Nat} {b : Nat} (hb : b ∈ S) : ∀ (vs : List Value) (o : Nat) (w : World), Only S w (w.setCells b o vs)
  | [], _, w => Only.refl S w
  | v :: vs, o, w => (Only.setCell w hb o v).trans (only_setC hb vs (o + 1) _)
/-- One element is put. -/
theorem KRow.set {w : World} {b : Nat} {l : List α} (h : KRow k enc w b l) (hk : ∀ x, (enc x).length = k) (i : Nat) (x : α) (hi : i < l.length) : KRow k enc (w.setCells b (i * k) (enc x)) b (l.set i x) := by
  have away : ∀ p, p ≠ i → ∀ j, j < k → ¬ (i * k ≤ p * k + j ∧ p * k + j < i * k + (enc x).length) := by
    intro p hp j hj hc
    rw [hk] at hc
    rcases Nat.lt_or_gt_of_ne hp with h1 | h1
    · have := Nat.mul_le_mul_right k (show p + 1 ≤ i from h1)
      rw [Nat.add_mul, Nat.one_mul] at this
      omega
    · have := Nat.mul_le_mul_right k (show i + 1 ≤ p from h1)
      rw [Nat.add_mul, Nat.one_mul] at this
      omega
  refine ⟨by rw [size_setC']; exact h.lt, fun p y hy j v hv => ?_, fun p hp j hj => ?_⟩
  · have hj : j < k := by rw [← hk y]; exact (List.getElem?_eq_some_iff.1 hv).1
    have hpl : p < l.length := by simpa using (List.getElem?_eq_some_iff.1 hy).1
    have hs := (h.free p hpl j hj).1
    rw [cell_setC _ _ _ _ _ hs]
    by_cases e : p = i
    · subst e
      rw [List.getElem?_set_self hi] at hy
      injection hy with hy
      subst hy
      rw [if_pos ⟨by omega, by rw [hk]; omega⟩, Nat.add_sub_cancel_left]
      exact hv
    · rw [List.getElem?_set_ne (Ne.symm e)] at hy
      rw [if_neg (away p e j hj)]
      exact h.range p y hy j v hv
  · have hpl : p < l.length := by simpa using hp
    have hf := h.free p hpl j hj
    rw [frozen_setC]
    refine ⟨?_, hf.2⟩
    rw [cell_setC _ _ _ _ _ hf.1]
    by_cases e : i * k ≤ p * k + j ∧ p * k + j < i * k + (enc x).length
    · rw [if_pos e, List.getElem?_eq_getElem (by omega)]; rfl
    · rw [if_neg e]; exact hf.1
/-- A block that holds the cells of a list of elements. -/
theorem flat_get (hk : ∀ x, (enc x).length = k) : ∀ (l : List α) (i j : Nat) (x : α), l[i]? = some x → j < k → (l.flatMap enc)[i * k + j]? = (enc x)[j]?
  | [], i, j, x, h, _ => by simp at h
  | y :: r, 0, j, x, h, hj => by
    simp at h
    subst h
    rw [List.flatMap_cons, List.getElem?_append_left (by rw [hk]; omega)]
    simp
  | y :: r, i + 1, j, x, h, hj => by
    rw [List.flatMap_cons, List.getElem?_append_right (by rw [hk, Nat.add_mul]; omega), hk, show (i + 1) * k + j - k = i * k + j by rw [Nat.add_mul]; omega]
    exact flat_get hk r i j x (by simpa using h) hj
theorem KRow.of_lay {w : World} {b : Nat} {t : TypeId} {l : List α} {cs : List Value} (hk : ∀ x, (enc x).length = k) (h : Lay w b t cs) (hc : cs = l.flatMap enc) : KRow k enc w b l := by
  refine ⟨h.lt, fun i x hx j v hv => ?_, fun i hi j hj => ⟨?_, h.free _⟩⟩
  · have hj : j < k := by rw [← hk x]; exact (List.getElem?_eq_some_iff.1 hv).1
    rw [h.cell, hc, flat_get hk l i j x hx hj, hv]
  · rw [h.cell, hc, flat_get hk l i j _ (List.getElem?_eq_getElem hi) hj, List.getElem?_eq_getElem (by rw [hk]; exact hj)]
    rfl
end Tl
end Go.Proofs.Ytcpadnedfnkieaa
