/-
  How slices.SortFunc sorts a row of timers in the chapter's order. Conditions: at most 1,000 timers lie in the row.
-/
import Derived.Shelf.SlSortCmp.NoneTotal
import Derived.Test.YtddiapihopgpbaaShelf
import Derived.Test.YtddiapihopgpbaaWhTieNext
namespace Go.Proofs.Ytddiapihopgpbaa
open Go.RowKit Go.Maps Go.Shelf Go.Sort
namespace Wh
open Ph (Only)
open Hp (lt lt_irr lt_asym le_trans lt_total)

theorem ltD (x y : DuT) : ltOf cmpD x y = decide (lt x y) := by
  unfold ltOf
  by_cases h : lt x y
  · simp [h, cmpD_lt.2 h]
  · have : ¬ cmpD x y < 0 := fun e => h (cmpD_lt.1 e)
    simp [h, this]
theorem swoD : SWO (ltOf cmpD) where
  irrefl x := by rw [ltD]; exact decide_eq_false (lt_irr x)
  trans x y z h1 h2 := by
    rw [ltD] at *
    exact decide_eq_true (lt_trans (of_decide_eq_true h1) (of_decide_eq_true h2))
  ntrans x y z h1 h2 := by
    rw [ltD] at *
    exact decide_eq_false (le_trans (x := z) (y := y) (z := x) (of_decide_eq_false h2) (of_decide_eq_false h1))
theorem cmpLays (blk off size : Nat) (w : World) : Go.Proofs.CmpLays Try.prog 28 #[] encD 2 cmpD blk off size w :=
  fun _ _ _ _ x y => order_any x y _
/-- Entries in a row of cells. -/
theorem flat_at : ∀ (xs : List DuT) (t : Nat), t < xs.length * 2 → (flatD xs)[t]? = some ((encD (xs.toArray)[t / 2]!)[t % 2]!)
  | [], t, h => by simp at h
  | x :: r, t, h => by
    have e : flatD (x :: r) = encD x ++ flatD r := rfl
    have hl : (encD x).length = 2 := rfl
    rw [e]
    by_cases h2 : t < 2
    · rw [List.getElem?_append_left (by rw [hl]; exact h2), Nat.div_eq_of_lt h2, Nat.mod_eq_of_lt h2]
      rw [List.getElem?_eq_getElem (by rw [hl]; exact h2)]
      simp [h2, hl]
    · obtain ⟨u, rfl⟩ : ∃ u, t = u + 2 := ⟨t - 2, by omega⟩
      rw [List.getElem?_append_right (by rw [hl]; omega), hl, Nat.add_sub_cancel, flat_at r u (by simp at h; omega)]
      rw [show (u + 2) / 2 = u / 2 + 1 by omega, Nat.add_mod_right]
      simp
theorem holds_row {w : World} {n₀ g cap : Nat} {xs : List DuT} (h : w.ownsRow n₀ 42 2 (.slice (some ⟨g, 0, none⟩) xs.length cap) xs.length (flatD xs)) : HoldsK encD 2 w g 0 xs.toArray ∧ g < w.heap.size ∧ n₀ ≤ g := by
  rcases h.2 with ⟨e, _⟩ | ⟨g', cap', cur, e, hg, hb, _, _, _, ht⟩
  · cases e
  · cases e
    refine ⟨fun j hj => ?_, (Array.getElem?_eq_some_iff.1 hb).1, hg⟩
    have hj' : j < xs.length * 2 := by simpa using hj
    have h1 := flat_at xs j hj'
    rw [← ht, List.getElem?_take_of_lt hj', Array.getElem?_toList] at h1
    rw [get_flatK encD 2 xs.toArray j (by simpa using hj')]
    constructor
    · simp only [World.cell?, hb, Nat.zero_add]
      exact h1
    · simp [World.frozen?, hb]
theorem only_sorted (w : World) (g n : Nat) (d : Array DuT) (os : Array Obj) : Only [g] w (sortWorldK encD 2 w g 0 n d os) := by
  refine ⟨rfl, rfl, rfl, ?_, fun k hk hn => ?_⟩
  · show w.heap.size ≤ ((w.heap.modify g _) ++ os).size
    simp
  · show ((w.heap.modify g _) ++ os)[k]? = w.heap[k]?
    rw [Array.getElem?_append_left (by simpa using hk), Array.getElem?_modify, if_neg (fun e => hn (by simp [e]))]
/-- What a row of entries is: a slice over a block of the call's own, or nil. -/
def RowS (n₀ : Nat) (w : World) (v : Value) (ys : List DuT) : Prop :=
  (v = .slice none 0 0 ∧ ys = []) ∨ ∃ g cap, v = .slice (some ⟨g, 0, none⟩) ys.length cap ∧ n₀ ≤ g ∧ g < w.heap.size ∧ HoldsK encD 2 w g 0 ys.toArray
theorem sort_row (n₀ : Nat) (v : Value) (xs : List DuT) (w : World) (h : w.ownsRow n₀ 42 2 v xs.length (flatD xs)) (hl : xs.length ≤ 1000) (hnil : v = .slice none 0 0 ↔ xs = []) :
    Calls Try.prog 27 #[v, .func (.func 28) #[] #[]] w fun e w' => e = .returned (.tuple #[]) ∧ ∃ ys, ys.Perm xs ∧ ys.Pairwise (fun a b => ¬ lt b a) ∧ RowS n₀ w' v ys ∧ Only v.ownBlock.toList w w' := by
  by_cases hx : xs = []
  · have hv := hnil.2 hx
    subst hx hv
    have hc := AnyF.slices_SortFunc_none Try.sortH none 0 (.func (.func 28) #[] #[]) w
    change Calls Try.prog 27 _ _ _ at hc
    refine hc.mono ?_
    rintro e w' ⟨rfl, rfl⟩
    exact ⟨rfl, [], List.Perm.refl _, List.Pairwise.nil, Or.inl ⟨rfl, rfl⟩, Only.refl _ _⟩
  · have hv : v ≠ .slice none 0 0 := fun e => hx (hnil.1 e)
    obtain ⟨g, cap, rfl⟩ : ∃ g cap, v = .slice (some ⟨g, 0, none⟩) xs.length cap := by
      rcases h.2 with ⟨e, _⟩ | ⟨g', cap', cur, e, _⟩
      · exact absurd e hv
      · exact ⟨g', cap', e⟩
    obtain ⟨hH, hg, hng⟩ := holds_row h
    have hc := AnyQ.slices_SortFunc Try.sortH 2 Try.isAgg42 Try.sizeOf42 encD (fun _ => rfl) (fun x v hv => by simp [encD] at hv; rcases hv with rfl | rfl <;> rfl) cmpD swoD 28 #[] g 0 cap xs.toArray w (enters_of Try.func28 (by kernel_rfl) rfl) (cmpLays g 0 _ w) hH hg (by simp; omega)
    change Calls Try.prog 27 _ _ _ at hc
    rw [List.size_toArray] at hc
    refine hc.mono ?_
    rintro e w' ⟨rfl, d', n, os, ⟨hs, _, hp⟩, hsort, rfl⟩
    have hs' : d'.size = xs.length := by simpa using hs
    have hp' : d'.toList.Perm xs := by
      have h1 : d'.extract 0 xs.length = d' := by rw [← hs']; simp
      have h2 : xs.toArray.extract 0 xs.length = xs.toArray := by simp
      rw [h1, h2] at hp
      simpa using hp
    refine ⟨rfl, d'.toList, hp', ?_, Or.inr ⟨g, cap, by simp [hs'], hng, Nat.lt_of_lt_of_le hg (only_sorted w g n d' os).size, ?_⟩, only_sorted w g n d' os⟩
    · refine List.pairwise_iff_getElem.2 (fun i j hi hj hij => ?_)
      have := hsort i j (Nat.zero_le _) hij (by simpa [hs'] using hj)
      rw [ltD] at this
      have e1 : d'[i]! = d'.toList[i] := by simp at hi; simp [hi]
      have e2 : d'[j]! = d'.toList[j] := by simp at hj; simp [hj]
      rw [e1, e2] at this
      simp at this
      simpa using this
    · have h1 := holdsK_ahead encD 2 w n g 0 _ hH
      have h2 := holdsK_putRowK encD 2 _ g 0 _ d' h1 (by simpa using hs')
      have h3 := holdsK_grow encD 2 _ os g 0 _ (by show g < (w.heap.modify g _).size; simpa using hg) h2
      exact h3
end Wh
end Go.Proofs.Ytddiapihopgpbaa
