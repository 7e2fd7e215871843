/-
  How slices.SortFunc sorts a part of a row of items in the chapter's order. Conditions: at most 1,000 items lie there.
-/
import Derived.Shelf.SlSortCmp.NoneTotal
import Derived.Test.YtmeadkllbjkjbaaShelf
import Derived.Test.YtmeadkllbjkjbaaHqOrder
namespace Go.Proofs.Ytmeadkllbjkjbaa
open Go.RowKit Go.Shelf Go.Sort
namespace Hq
open Ph (Only)
open Hp (lt lt_irr lt_asym le_trans lt_total)

def encI (x : ItT) : List Value := [.int .i64 (x.1 : Nat), .int .u64 (x.2 : Nat)]
theorem ltI (x y : ItT) : ltOf cmpD x y = decide (lt x y) := by
  unfold ltOf
  by_cases h : lt x y
  · simp [h, cmpD_lt.2 h]
  · have : ¬ cmpD x y < 0 := fun e => h (cmpD_lt.1 e)
    simp [h, this]
theorem swoI : SWO (ltOf cmpD) where
  irrefl x := by rw [ltI]; exact decide_eq_false (lt_irr x)
  trans x y z h1 h2 := by
    rw [ltI] at *
    exact decide_eq_true (Wh.lt_trans (of_decide_eq_true h1) (of_decide_eq_true h2))
  ntrans x y z h1 h2 := by
    rw [ltI] at *
    exact decide_eq_false (le_trans (x := z) (y := y) (z := x) (of_decide_eq_false h2) (of_decide_eq_false h1))
theorem cmpLaysI (blk off size : Nat) (w : World) : Go.Proofs.CmpLays Try.prog 28 #[] encI 2 cmpD blk off size w :=
  fun _ _ _ _ x y => order_any x y _
theorem only_sortedI (w : World) (g off n : Nat) (d : Array ItT) (os : Array Obj) : Only [g] w (sortWorldK encI 2 w g off n d os) := by
  refine ⟨rfl, rfl, rfl, ?_, fun k hk hn => ?_⟩
  · show w.heap.size ≤ ((w.heap.modify g _) ++ os).size
    simp
  · show ((w.heap.modify g _) ++ os)[k]? = w.heap[k]?
    rw [Array.getElem?_append_left (by simpa using hk), Array.getElem?_modify, if_neg (fun e => hn (by simp [e]))]
theorem sort_items (w : World) (g off cap : Nat) (xs : List ItT) (hH : HoldsK encI 2 w g off xs.toArray) (hg : g < w.heap.size) (hl : xs.length ≤ 1000) :
    Calls Try.prog 27 #[.slice (some ⟨g, off, none⟩) xs.length cap, .func (.func 28) #[] #[]] w fun e w' => e = .returned (.tuple #[]) ∧ ∃ ys : List ItT, ys.Perm xs ∧ ys.Pairwise (fun a b => ¬ lt b a) ∧ HoldsK encI 2 w' g off ys.toArray ∧ Only [g] w w' := by
  have hc := AnyQ.slices_SortFunc Try.sortH 2 Try.isAgg53 Try.sizeOf53 encI (fun _ => rfl) (fun x v hv => by simp [encI] at hv; rcases hv with rfl | rfl <;> rfl) cmpD swoI 28 #[] g off cap xs.toArray w (enters_of Try.func28 (by kernel_rfl) rfl) (cmpLaysI g off _ w) hH hg (by simp; omega)
  change Calls Try.prog 27 _ _ _ at hc
  rw [List.size_toArray] at hc
  refine hc.mono ?_
  rintro e w' ⟨rfl, d', n, os, ⟨hs, _, hp⟩, hsort, rfl⟩
  have hs' : d'.size = xs.length := by simpa using hs
  have hp' : d'.toList.Perm xs := by
    have h1 : d'.extract 0 xs.length = d' := by rw [← hs']; simp
    have h2 : xs.toArray.extract 0 xs.length = xs.toArray := by simp
    rw [h1, h2] at hp
    simpa using hp
  refine ⟨rfl, d'.toList, hp', ?_, ?_, only_sortedI w g off n d' os⟩
  · refine List.pairwise_iff_getElem.2 (fun i j hi hj hij => ?_)
    have := hsort i j (Nat.zero_le _) hij (by simpa [hs'] using hj)
    rw [ltI] at this
    have e1 : d'[i]! = d'.toList[i] := by simp at hi; simp [hi]
    have e2 : d'[j]! = d'.toList[j] := by simp at hj; simp [hj]
    rw [e1, e2] at this
    simp at this
    simpa using this
  · have h1 := holdsK_ahead encI 2 w n g off _ hH
    have h2 := holdsK_putRowK encI 2 _ g off _ d' h1 (by simpa using hs')
    have h3 := holdsK_grow encI 2 _ os g off _ (by show g < (w.heap.modify g _).size; simpa using hg) h2
    exact h3
/-- Items in a row of cells, element by element. -/
theorem holds_at {w : World} {g off : Nat} {ys : List ItT} (h : HoldsK encI 2 w g off ys.toArray) {i : Nat} {x : ItT} (hx : ys[i]? = some x) : w.cell? ⟨g, off + i * 2, none⟩ = some (.int .i64 (x.1 : Nat)) ∧ w.cell? ⟨g, off + i * 2 + 1, none⟩ = some (.int .u64 (x.2 : Nat)) := by
  have hi : i < ys.length := (List.getElem?_eq_some_iff.1 hx).1
  have e : ys.toArray[i]! = x := by simp [hx]
  have h0 := h (i * 2) (by simp; omega)
  have h1 := h (i * 2 + 1) (by simp; omega)
  rw [get_flatK encI 2 ys.toArray _ (by simp; omega)] at h0 h1
  rw [show i * 2 / 2 = i by omega, show i * 2 % 2 = 0 by omega, e] at h0
  rw [show (i * 2 + 1) / 2 = i by omega, show (i * 2 + 1) % 2 = 1 by omega, e] at h1
  exact ⟨h0.1, h1.1⟩
theorem holds_of {w : World} {g off : Nat} {ys : List ItT} (h : ∀ i x, ys[i]? = some x → w.cell? ⟨g, off + i * 2, none⟩ = some (.int .i64 (x.1 : Nat)) ∧ w.cell? ⟨g, off + i * 2 + 1, none⟩ = some (.int .u64 (x.2 : Nat))) (hf : ∀ j, w.frozen? ⟨g, j, none⟩ = false) : HoldsK encI 2 w g off ys.toArray := fun j hj => by
  have hj' : j < ys.length * 2 := by simpa using hj
  refine ⟨?_, hf _⟩
  rw [get_flatK encI 2 ys.toArray _ (by simpa using hj')]
  obtain ⟨x, hx⟩ : ∃ x, ys[j / 2]? = some x := ⟨_, List.getElem?_eq_getElem (by omega)⟩
  have e : ys.toArray[j / 2]! = x := by simp [hx]
  rw [e]
  have h2 := h (j / 2) x hx
  rcases (by omega : j % 2 = 0 ∨ j % 2 = 1) with hm | hm
  · rw [hm, show off + j = off + j / 2 * 2 by omega]; exact h2.1
  · rw [hm, show off + j = off + j / 2 * 2 + 1 by omega]; exact h2.2
end Hq
end Go.Proofs.Ytmeadkllbjkjbaa
