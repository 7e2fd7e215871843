/-
  A wheel and the document's own in a law's world. Conditions: none.
-/
import Derived.Test.YtddiapihopgpbaaWhSame
namespace Go.Proofs.Ytddiapihopgpbaa
open Go.RowKit
namespace Wh
open Ph (Only)
/-- A wheel and the document's own lie apart, and tell the same. -/
structure Pr (K : Wk) (B : Nat) (w0 : World) (p : Nat) (F : List Nat) (t : Nat) (l : List DuT) (r : Nat) (H : List Nat) (s : Nat) (m : List DuT) (w : World) : Prop where
  a : On K B w0 p F t l w
  b : RW w r H s m
  ap : ∀ x ∈ F, x ∉ H
  low : ∀ x ∈ H, B ≤ x
section
variable {K : Wk} {B : Nat} {w0 w w' : World} {p : Nat} {F : List Nat} {t : Nat} {l : List DuT} {r : Nat} {H : List Nat} {s : Nat} {m : List DuT}
theorem Pr.quiet (h : Pr K B w0 p F t l r H s m w) (ho : Only [] w w') (hB : B ≤ w0.heap.size) : Pr K B w0 p F t l r H s m w' := ⟨h.a.quiet ho hB, h.b.kept ho (by simp), h.ap, h.low⟩
theorem Pr.stepA {F' : List Nat} {t' : Nat} {l' : List DuT} (h : Pr K B w0 p F t l r H s m w) (hw : K.Wh w' p F' t' l') (ho : Only F w w') (hf : ∀ x ∈ F', x ∈ F ∨ w.heap.size ≤ x) (hB : B ≤ w0.heap.size) : Pr K B w0 p F' t' l' r H s m w' := by
  refine ⟨h.a.step hw ho hf hB, h.b.kept ho (fun x hx hn => h.ap x hn hx), fun x hx hn => ?_, h.low⟩
  rcases hf x hx with h1 | h1
  · exact h.ap x h1 hn
  · have := h.b.lt x hn; omega
theorem Pr.stepB {H' : List Nat} {s' : Nat} {m' : List DuT} (h : Pr K B w0 p F t l r H s m w) (hw : RW w' r H' s' m') (ho : Only H w w') (hf : ∀ x ∈ H', x ∈ H ∨ w.heap.size ≤ x) (hB : B ≤ w0.heap.size) : Pr K B w0 p F t l r H' s' m' w' := by
  have hb := h.a.size hB
  refine ⟨⟨K.kept h.a.wh ho (fun x hx => h.ap x hx), h.a.low, h.a.below.trans (ho.below hb h.low)⟩, hw, fun x hx hn => ?_, fun x hx => (hf x hx).elim (h.low x) (fun g => Nat.le_trans hb g)⟩
  rcases hf x hn with h1 | h1
  · exact h.ap x hx h1
  · have := K.lt h.a.wh x hx; omega
end
theorem atP_ix {d : Int} : ∀ {l : List DuT} {i k : Nat}, ixN d i l = (k : Int) → ∃ x, l[k - i]? = some x ∧ i ≤ k ∧ 0 ≤ d ∧ (l.find? (fun y => y.1 == d.toNat)).map (·.2) = some x.2
  | [], i, k, h => by unfold ixN at h; omega
  | y :: r, i, k, h => by
    unfold ixN at h
    by_cases hy : ((y.1 : Nat) : Int) = d
    · rw [if_pos hy] at h
      obtain rfl : i = k := by omega
      refine ⟨y, by simp, Nat.le_refl _, by omega, ?_⟩
      rw [List.find?_cons_of_pos (by simp; omega)]
      rfl
    · rw [if_neg hy] at h
      obtain ⟨x, h1, h2, h3, h4⟩ := atP_ix h
      refine ⟨x, ?_, by omega, h3, ?_⟩
      · rw [show k - i = (k - (i + 1)) + 1 by omega, List.getElem?_cons_succ]; exact h1
      · rw [List.find?_cons_of_neg (by simp; omega)]; exact h4
theorem atP_some {d : Int} {l : List DuT} {k : Nat} (h : ixN d 0 l = (k : Int)) : ∃ x, l[k]? = some x ∧ atP d l = some x.2 := by
  obtain ⟨x, h1, _, h3, h4⟩ := atP_ix h
  exact ⟨x, by simpa using h1, by unfold atP; rw [if_pos h3]; exact h4⟩
theorem atP_none {d : Int} {l : List DuT} (h : ixN d 0 l = -1) : atP d l = none := by
  have h1 := ix_can d l
  rw [h] at h1
  have h2 := atP_can d l
  rw [← h1] at h2
  cases e : atP d l with
  | none => rfl
  | some x => rw [e] at h2; cases h2
theorem canL_len (d : Int) (l : List DuT) : (canL d l).length ≤ l.length := by rw [canL_dl]; exact dl_len d l
theorem advL_len (t a : Nat) (l : List DuT) : (advL t a l).length ≤ l.length := by have := adv_len t a l; omega
end Wh
end Go.Proofs.Ytddiapihopgpbaa
