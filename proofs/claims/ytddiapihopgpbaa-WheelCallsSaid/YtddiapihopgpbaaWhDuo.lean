/-
  Two wheels in a law's world; what is left where a number is taken out; when a number is due. Conditions: none.
-/
import Derived.Test.YtddiapihopgpbaaWhOpen
namespace Go.Proofs.Ytddiapihopgpbaa
open Go.RowKit
namespace Wh
open Ph (Only)
/-- Two wheels that lie apart. -/
structure Duo (K : Wk) (B : Nat) (w0 : World) (p : Nat) (F : List Nat) (t : Nat) (l : List DuT) (q : Nat) (G : List Nat) (s : Nat) (m : List DuT) (w : World) : Prop where
  a : On K B w0 p F t l w
  b : On K B w0 q G s m w
  ap : ∀ x ∈ F, x ∉ G
section
variable {K : Wk} {B : Nat} {w0 w w' : World} {p : Nat} {F : List Nat} {t : Nat} {l : List DuT} {q : Nat} {G : List Nat} {s : Nat} {m : List DuT}
theorem Duo.quiet (h : Duo K B w0 p F t l q G s m w) (ho : Only [] w w') (hB : B ≤ w0.heap.size) : Duo K B w0 p F t l q G s m w' := ⟨h.a.quiet ho hB, h.b.quiet ho hB, h.ap⟩
theorem Duo.stepA {F' : List Nat} {t' : Nat} {l' : List DuT} (h : Duo K B w0 p F t l q G s m w) (hw : K.Wh w' p F' t' l') (ho : Only F w w') (hf : ∀ x ∈ F', x ∈ F ∨ w.heap.size ≤ x) (hB : B ≤ w0.heap.size) : Duo K B w0 p F' t' l' q G s m w' := by
  have ha := h.a.step hw ho hf hB
  refine ⟨ha, ⟨K.kept h.b.wh ho (fun x hx hn => h.ap x hn hx), h.b.low, ha.below⟩, fun x hx hn => ?_⟩
  rcases hf x hx with h1 | h1
  · exact h.ap x h1 hn
  · have := K.lt h.b.wh x hn; omega
theorem Duo.stepB {G' : List Nat} {s' : Nat} {m' : List DuT} (h : Duo K B w0 p F t l q G s m w) (hw : K.Wh w' q G' s' m') (ho : Only G w w') (hf : ∀ x ∈ G', x ∈ G ∨ w.heap.size ≤ x) (hB : B ≤ w0.heap.size) : Duo K B w0 p F t l q G' s' m' w' := by
  have hb := h.b.step hw ho hf hB
  refine ⟨⟨K.kept h.a.wh ho (fun x hx => h.ap x hx), h.a.low, hb.below⟩, hb, fun x hx hn => ?_⟩
  rcases hf x hn with h1 | h1
  · exact h.ap x hx h1
  · have := K.lt h.a.wh x hx; omega
end

/-! ### A number is taken out -/
def dl (d : Int) (l : List DuT) : List DuT := if 0 ≤ d then del d.toNat l else l
theorem dl_nil (d : Int) : dl d [] = [] := by unfold dl; split <;> rfl
theorem dl_len (d : Int) (l : List DuT) : (dl d l).length ≤ l.length := by
  unfold dl
  split
  · exact List.length_filter_le _ _
  · exact Nat.le_refl _
theorem has_no {d : Nat} {l : List DuT} (h : has d l = false) : del d l = l := by
  unfold del
  refine List.filter_eq_self.2 (fun x hx => ?_)
  unfold has at h
  rw [List.any_eq_false] at h
  have := h x hx
  simpa using this
theorem canL_dl (d : Int) (l : List DuT) : canL d l = dl d l := by
  unfold canL canB dl
  by_cases h0 : 0 ≤ d
  · rw [if_pos h0, decide_eq_true h0, Bool.true_and]
    cases hh : has d.toNat l with
    | true => rw [if_pos rfl]
    | false => rw [if_neg (by decide), has_no hh]
  · rw [if_neg h0, decide_eq_false h0, Bool.false_and, if_neg (by decide)]
theorem dl_not {d : Int} {l : List DuT} : ∀ x ∈ dl d l, ((x.1 : Nat) : Int) ≠ d := fun x hx e => by
  unfold dl at hx
  by_cases h0 : 0 ≤ d
  · rw [if_pos h0] at hx
    have := (List.mem_filter.1 hx).2
    simp at this
    omega
  · omega
theorem dl_same (d : Int) (a : Nat) {l : List DuT} (h : Srt l) : dl d (addL d a l) = dl d l := by
  unfold addL
  by_cases h0 : addE d a l = 0
  · rw [if_pos h0]
    obtain ⟨h1, _, _, _⟩ := addE_ok h0
    unfold dl
    rw [if_pos h1, if_pos h1, del_ins h, if_pos rfl]
  · rw [if_neg h0]
theorem addE_dl {d c : Int} (hne : c ≠ d) (a : Nat) (l : List DuT) : addE c a (dl d l) = addE c a l := by
  unfold addE dl
  by_cases h1 : c < 0 ∨ 999 < c ∨ 4611686018427387904 < a
  · rw [if_pos h1, if_pos h1]
  · rw [if_neg h1, if_neg h1]
    by_cases h0 : 0 ≤ d
    · rw [if_pos h0, has_del]
      have : (c.toNat != d.toNat) = true := by simp; omega
      rw [this, Bool.and_true]
    · rw [if_neg h0]
theorem addL_dl {d c : Int} (hne : c ≠ d) (a : Nat) {l : List DuT} (h : Srt l) : addL c a (dl d l) = dl d (addL c a l) := by
  unfold addL
  rw [addE_dl hne]
  by_cases h0 : addE c a l = 0
  · rw [if_pos h0, if_pos h0]
    obtain ⟨h1, _, _, _⟩ := addE_ok h0
    unfold dl
    by_cases h2 : 0 ≤ d
    · rw [if_pos h2, if_pos h2, del_ins h, if_neg (by show c.toNat ≠ d.toNat; omega)]
    · rw [if_neg h2, if_neg h2]
  · rw [if_neg h0, if_neg h0]
theorem atP_can (d : Int) (l : List DuT) : (atP d l).isSome = canB d l := by
  unfold atP canB
  by_cases h0 : 0 ≤ d
  · rw [if_pos h0, decide_eq_true h0, Bool.true_and, Option.isSome_map]
    unfold has
    rw [List.isSome_find?]
  · rw [if_neg h0, decide_eq_false h0, Bool.false_and]; rfl
theorem advO_mem {t a : Nat} {l : List DuT} {x : DuT} (h : x ∈ advO t a l) : x ∈ l := by
  unfold advO at h
  split at h
  · exact (List.mem_filter.1 h).1
  · cases h
theorem advO_len (t a : Nat) (l : List DuT) : (advO t a l).length ≤ l.length := by
  unfold advO
  split
  · exact List.length_filter_le _ _
  · exact Nat.zero_le _
theorem addL_len {l : List DuT} {i : Nat} (h : l.length ≤ i) (d : Int) (a : Nat) : (addL d a l).length ≤ i + 1 := by
  unfold addL
  split
  · rw [len_ins]; omega
  · omega
end Wh
end Go.Proofs.Ytddiapihopgpbaa
