/-
  What List's comparison answers, and how slices.SortFunc sorts a row of entries by their places. Conditions: at most 64 entries lie in the row.
-/
import Derived.Shelf.SlSortCmp.NoneTotal
import Derived.Test.YtcpadnedfnkieaaShelf
import Derived.Test.YtcpadnedfnkieaaTlSeq
namespace Go.Proofs.Ytcpadnedfnkieaa
open Go.RowKit Go.Maps Go.Shelf Go.Sort
namespace Tl
open Ph (Only)

/-- Which of two numbers is the smaller one. -/
def cmpI (x y : Int) : Int := if x < y then -1 else if y < x then 1 else 0
theorem nan_any (x : Int) (w : World) : Calls Try.prog 36 #[.int .i64 x] w fun e w' => e = .returned (.bool false) ∧ w' = w := by
  go_enter Try.func36, Try.ntmps36
  go_wp2
  go_ret
  exact ⟨rfl, rfl⟩
theorem compare_any (x y : Int) (w : World) : Calls Try.prog 29 #[.int .i64 x, .int .i64 y] w fun e w' => e = .returned (.int .i64 (cmpI x y)) ∧ w' = w := by
  by_cases h1 : x < y
  · have H := Lib.hid (show cmpI x y = -1 by unfold cmpI; rw [if_pos h1])
    go_enter Try.func29, Try.ntmps29
    go_wp2_with (go_at_call 36; refine (nan_any _ _).mono ?_; rintro e w' ⟨rfl, rfl⟩)
    go_ret
    exact ⟨by rw [H.out]; rfl, rfl⟩
  · by_cases h2 : y < x
    · have H := Lib.hid (show cmpI x y = 1 by unfold cmpI; rw [if_neg h1, if_pos h2])
      clear h1
      go_enter Try.func29, Try.ntmps29
      go_wp2_with (go_at_call 36; refine (nan_any _ _).mono ?_; rintro e w' ⟨rfl, rfl⟩)
      go_ret
      exact ⟨by rw [H.out]; rfl, rfl⟩
    · have H := Lib.hid (show cmpI x y = 0 by unfold cmpI; rw [if_neg h1, if_neg h2])
      obtain rfl : x = y := by omega
      clear h1 h2
      go_enter Try.func29, Try.ntmps29
      go_wp2_with (go_at_call 36; refine (nan_any _ _).mono ?_; rintro e w' ⟨rfl, rfl⟩)
      go_ret
      exact ⟨by rw [H.out]; rfl, rfl⟩
def cmpH (x y : HeldT) : Int := cmpI x.1 y.1
theorem ltH (x y : HeldT) : ltOf cmpH x y = decide (x.1 < y.1) := by
  unfold ltOf cmpH cmpI
  by_cases h1 : x.1 < y.1
  · simp [h1]
  · by_cases h2 : y.1 < x.1 <;> simp [h1, h2]
theorem swoH : SWO (ltOf cmpH) where
  irrefl x := by rw [ltH]; simp
  trans x y z h1 h2 := by rw [ltH] at *; simp at *; omega
  ntrans x y z h1 h2 := by rw [ltH] at *; simp at *; omega
theorem cmp_cl (x y : HeldT) (W : World) : Calls Try.prog 28 #[heldV x, heldV y] W fun e w' => e = .returned (.int .i64 (cmpH x y)) ∧ ∃ q os', w' = grow (W.drewN q) os' := by
  have hc := fun W' => compare_any x.1 y.1 W'
  unfold cmpH
  generalize cmpI x.1 y.1 = r at hc ⊢
  go_enter Try.func28, Try.ntmps28
  go_wp2_with (go_at_call 29; refine (hc _).mono ?_; rintro e w' ⟨rfl, rfl⟩)
  go_ret
  exact ⟨rfl, 0, _, by rw [alloc_eq_grow, alloc_eq_grow, grow_grow]; rfl⟩
theorem cmpLays (blk off size : Nat) (w : World) : Go.Proofs.CmpLays Try.prog 28 #[] encHeld 6 cmpH blk off size w :=
  fun _ _ _ _ x y => cmp_cl x y _
/-- Entries in a row of cells. -/
theorem flat_at : ∀ (xs : List HeldT) (t : Nat), t < xs.length * 6 → (flatH xs)[t]? = some ((encHeld (xs.toArray)[t / 6]!)[t % 6]!)
  | [], t, h => by simp at h
  | x :: r, t, h => by
    have e : flatH (x :: r) = encHeld x ++ flatH r := rfl
    have hl : (encHeld x).length = 6 := rfl
    rw [e]
    by_cases h6 : t < 6
    · rw [List.getElem?_append_left (by rw [hl]; exact h6), Nat.div_eq_of_lt h6, Nat.mod_eq_of_lt h6]
      rw [List.getElem?_eq_getElem (by rw [hl]; exact h6)]
      simp [h6, hl]
    · obtain ⟨u, rfl⟩ : ∃ u, t = u + 6 := ⟨t - 6, by omega⟩
      rw [List.getElem?_append_right (by rw [hl]; omega), hl, Nat.add_sub_cancel, flat_at r u (by simp at h; omega)]
      rw [show (u + 6) / 6 = u / 6 + 1 by omega, Nat.add_mod_right]
      simp
theorem holds_row {w : World} {n₀ g cap : Nat} {xs : List HeldT} (h : w.ownsRow n₀ 65 6 (.slice (some ⟨g, 0, none⟩) xs.length cap) xs.length (flatH xs)) : HoldsK encHeld 6 w g 0 xs.toArray ∧ g < w.heap.size ∧ n₀ ≤ g := by
  rcases h.2 with ⟨e, _⟩ | ⟨g', cap', cur, e, hg, hb, _, _, _, ht⟩
  · cases e
  · cases e
    refine ⟨fun j hj => ?_, (Array.getElem?_eq_some_iff.1 hb).1, hg⟩
    have hj' : j < xs.length * 6 := by simpa using hj
    have h1 := flat_at xs j hj'
    rw [← ht, List.getElem?_take_of_lt hj', Array.getElem?_toList] at h1
    rw [get_flatK encHeld 6 xs.toArray j (by simpa using hj')]
    constructor
    · simp only [World.cell?, hb, Nat.zero_add]
      exact h1
    · simp [World.frozen?, hb]
theorem only_sorted (w : World) (g n : Nat) (d : Array HeldT) (os : Array Obj) : Only [g] w (sortWorldK encHeld 6 w g 0 n d os) := by
  refine ⟨rfl, rfl, rfl, ?_, fun k hk hn => ?_⟩
  · show w.heap.size ≤ ((w.heap.modify g _) ++ os).size
    simp
  · show ((w.heap.modify g _) ++ os)[k]? = w.heap[k]?
    rw [Array.getElem?_append_left (by simpa using hk), Array.getElem?_modify, if_neg (fun e => hn (by simp [e]))]
/-- What a row of entries is: a slice over a block of the call's own, or nil. -/
def RowH (n₀ : Nat) (w : World) (v : Value) (ys : List HeldT) : Prop :=
  (v = .slice none 0 0 ∧ ys = []) ∨ ∃ g cap, v = .slice (some ⟨g, 0, none⟩) ys.length cap ∧ n₀ ≤ g ∧ g < w.heap.size ∧ HoldsK encHeld 6 w g 0 ys.toArray
theorem sort_row (n₀ : Nat) (v : Value) (xs : List HeldT) (w : World) (hn : n₀ ≤ w.heap.size) (h : w.ownsRow n₀ 65 6 v xs.length (flatH xs)) (hl : xs.length ≤ 64) (hnil : v = .slice none 0 0 ↔ xs = []) :
    Calls Try.prog 34 #[v, .func (.func 28) #[] #[]] w fun e w' => e = .returned (.tuple #[]) ∧ ∃ ys, ys.Perm xs ∧ ys.Pairwise (fun a b => a.1 ≤ b.1) ∧ RowH n₀ w' v ys ∧ Below n₀ w w' := by
  by_cases hx : xs = []
  · have hv := hnil.2 hx
    subst hx hv
    have hc := AnyF.slices_SortFunc_none Try.sortH none 0 (.func (.func 28) #[] #[]) w
    change Calls Try.prog 34 _ _ _ at hc
    refine hc.mono ?_
    rintro e w' ⟨rfl, rfl⟩
    exact ⟨rfl, [], List.Perm.refl _, List.Pairwise.nil, Or.inl ⟨rfl, rfl⟩, Below.refl _ _⟩
  · have hv : v ≠ .slice none 0 0 := fun e => hx (hnil.1 e)
    obtain ⟨g, cap, rfl⟩ : ∃ g cap, v = .slice (some ⟨g, 0, none⟩) xs.length cap := by
      rcases h.2 with ⟨e, _⟩ | ⟨g', cap', cur, e, _⟩
      · exact absurd e hv
      · exact ⟨g', cap', e⟩
    obtain ⟨hH, hg, hng⟩ := holds_row h
    have hc := AnyQ.slices_SortFunc Try.sortH 6 Try.isAgg65 Try.sizeOf65 encHeld (fun _ => rfl) (fun x v hv => by simp [encHeld] at hv; rcases hv with rfl | rfl | rfl | rfl | rfl | rfl <;> rfl) cmpH swoH 28 #[] g 0 cap xs.toArray w (enters_of Try.func28 (by kernel_rfl) rfl) (cmpLays g 0 _ w) hH hg (by simp; omega)
    change Calls Try.prog 34 _ _ _ at hc
    rw [List.size_toArray] at hc
    refine hc.mono ?_
    rintro e w' ⟨rfl, d', n, os, ⟨hs, _, hp⟩, hsort, rfl⟩
    have hs' : d'.size = xs.length := by simpa using hs
    have hp' : d'.toList.Perm xs := by
      have h1 : d'.extract 0 xs.length = d' := by rw [← hs']; simp
      have h2 : xs.toArray.extract 0 xs.length = xs.toArray := by simp
      rw [h1, h2] at hp
      simpa using hp
    refine ⟨rfl, d'.toList, hp', ?_, Or.inr ⟨g, cap, by simp [hs'], hng, Nat.lt_of_lt_of_le hg (only_sorted w g n d' os).size, ?_⟩, (only_sorted w g n d' os).below hn (by simp; exact hng)⟩
    · refine List.pairwise_iff_getElem.2 (fun i j hi hj hij => ?_)
      have := hsort i j (Nat.zero_le _) hij (by simpa [hs'] using hj)
      rw [ltH] at this
      have e1 : d'[i]! = d'.toList[i] := by simp at hi; simp [hi]
      have e2 : d'[j]! = d'.toList[j] := by simp at hj; simp [hj]
      rw [e1, e2] at this
      simp at this
      simpa using this
    · have h1 := holdsK_ahead encHeld 6 w n g 0 _ hH
      have h2 := holdsK_putRowK encHeld 6 _ g 0 _ d' h1 (by simpa using hs')
      have h3 := holdsK_grow encHeld 6 _ os g 0 _ (by show g < (w.heap.modify g _).size; simpa using hg) h2
      exact h3
end Tl
end Go.Proofs.Ytcpadnedfnkieaa
