/-
  Plain facts: the lines that Show tells are the lines of instructions, whose words and bytes are those that were shown; no condition, no program in sight.
-/
import Derived.Test.YtebnjhecopmekaaDoorIsaMath
import Derived.Test.YtebnjhecopmekaaDoorIsaGet
namespace Go.Proofs.YtebnjhecopmekaaDoor
open Isa Go.RowKit

/-- The line of a word, without its end. -/
def lnW (v : Int) : List UInt8 := lineL (dOp v) (dA v) (dB v) (dI v)
theorem lnW_byte {v : Int} (h : decR v = true) : ∀ x ∈ lnW v, x ≠ 10 := lineL_byte h
theorem linesFrom_show (z : Nat → Int) (k : Nat) (h : ∀ j, j < k → decR (wAt z j) = true) : ∀ (m : Nat) (r : List UInt8), linesFrom m (showTo z k ++ r) = (List.range k).map (fun j => (m + j, lnW (wAt z j))) ++ linesFrom (m + k) r := by
  induction k with
  | zero => intro m r; simp [showTo]
  | succ k ih =>
    intro m r
    have e : showTo z (k + 1) ++ r = showTo z k ++ (lnW (wAt z k) ++ 10 :: r) := by simp [showTo, decLn, lnW]
    rw [e, ih (fun j hj => h j (by omega)), linesFrom_line _ _ _ (lnW_byte (h k (by omega))), List.range_succ, List.map_append]
    simp [Nat.add_assoc]
theorem lines_show (z : Nat → Int) (k : Nat) (h : ∀ j, j < k → decR (wAt z j) = true) : linesFrom 1 (showTo z k) = (List.range k).map (fun j => (1 + j, lnW (wAt z j))) := by
  have := linesFrom_show z k h 1 []
  rw [List.append_nil, linesFrom_nil, List.append_nil] at this
  exact this
theorem wordX_lnW {v : Int} (h : decR v = true) : wordX (lnW v) = some v := by
  have := wordX_line (show right (dOp v) (dA v) (dB v) (dI v) = true from h)
  rw [enc_d] at this
  exact this
theorem words_map (f : Nat → Int) (m : Nat) (l : List Nat) (h : ∀ j ∈ l, decR (f j) = true) : wordsOf (l.map (fun j => (m + j, lnW (f j)))) = l.map f := by
  induction l with
  | nil => rfl
  | cons a l ih =>
    have h1 := wordX_lnW (h a (by simp))
    have h2 := ih (fun j hj => h j (by simp [hj]))
    unfold wordsOf at h2 ⊢
    simp only [List.map_cons, List.filterMap_cons, h1]
    rw [h2]
theorem words_show (z : Nat → Int) (k : Nat) (h : ∀ j, j < k → decR (wAt z j) = true) : wordsOf (linesFrom 1 (showTo z k)) = (List.range k).map (wAt z) := by
  rw [lines_show z k h]
  exact words_map (wAt z) 1 (List.range k) (fun j hj => h j (by simpa using hj))
theorem clean_show (z : Nat → Int) (k : Nat) (h : ∀ j, j < k → decR (wAt z j) = true) : ∀ y ∈ linesFrom 1 (showTo z k), badX y = false := by
  rw [lines_show z k h]
  intro y hy
  rw [List.mem_map] at hy
  obtain ⟨j, hj, rfl⟩ := hy
  exact badX_line _ (show right (dOp (wAt z j)) (dA (wAt z j)) (dB (wAt z j)) (dI (wAt z j)) = true from h j (by simpa using hj))
/-- A byte comes back from its word. -/
theorem byteOf_wAt (z : Nat → Int) (j : Nat) (h0 : Wd.B8 (z (4 * (j / 4)))) (h1 : Wd.B8 (z (4 * (j / 4) + 1))) (h2 : Wd.B8 (z (4 * (j / 4) + 2))) (h3 : Wd.B8 (z (4 * (j / 4) + 3))) : Wd.byteOf (wAt z) j = z j := by
  obtain ⟨a0, b0⟩ := h0; obtain ⟨a1, b1⟩ := h1; obtain ⟨a2, b2⟩ := h2; obtain ⟨a3, b3⟩ := h3
  unfold Wd.byteOf wAt Wd.word4
  have : j % 4 = 0 ∨ j % 4 = 1 ∨ j % 4 = 2 ∨ j % 4 = 3 := by omega
  rcases this with e | e | e | e
  · rw [e]; simp only [Wd.byte4]; have : z j = z (4 * (j / 4)) := by congr 1; omega
    rw [this]; omega
  · rw [e]; simp only [Wd.byte4]; have : z j = z (4 * (j / 4) + 1) := by congr 1; omega
    rw [this]; omega
  · rw [e]; simp only [Wd.byte4]; have : z j = z (4 * (j / 4) + 2) := by congr 1; omega
    rw [this]; omega
  · rw [e]; simp only [Wd.byte4]; have : z j = z (4 * (j / 4) + 3) := by congr 1; omega
    rw [this]; omega
theorem range_getD (f : Nat → Int) (k i : Nat) (h : i < k) : ((List.range k).map f).getD i 0 = f i := by
  simp [List.getD, h]
/-- Are the first words instructions', and was it so ahead of them? -/
def whB (c : Bool) (z : Nat → Int) : Nat → Bool
  | 0 => c
  | k + 1 => whB c z k && decR (wAt z k)
theorem whB_iff (c : Bool) (z : Nat → Int) (k : Nat) : whB c z k = true ↔ c = true ∧ ∀ j, j < k → decR (wAt z j) = true := by
  induction k with
  | zero => simp [whB]
  | succ k ih =>
    simp only [whB, Bool.and_eq_true, ih]
    constructor
    · rintro ⟨⟨h1, h2⟩, h3⟩
      exact ⟨h1, fun j hj => by
        by_cases e : j = k
        · subst e; exact h3
        · exact h2 j (by omega)⟩
    · rintro ⟨h1, h2⟩
      exact ⟨⟨h1, fun j hj => h2 j (by omega)⟩, h2 k (by omega)⟩
theorem rget4 (b off len cap k : Nat) (z : Nat → Int) (w : World) (hrow : RowAt w b off len z) (hk : 4 * k + 4 ≤ len) (hl : len ≤ 1000) :
    Calls Tryd.prog 23 #[.slice (some ⟨b, off, none⟩) len cap, .int .i64 (4 * (k : Int))] w fun e w' => e = .returned (.tuple #[.int .u32 (wAt z k), .bool true]) ∧ w = w' := by
  have e0 : (4 * (k : Int)).toNat = 4 * k := by omega
  obtain ⟨_, hz, hc⟩ := hrow
  refine Wd.rget_yes b off len cap (4 * (k : Int)) (z (4 * k)) (z (4 * k + 1)) (z (4 * k + 2)) (z (4 * k + 3)) w (by omega) (by omega) (by omega) (hz _ (by omega)) (hz _ (by omega)) (hz _ (by omega)) (hz _ (by omega)) ?_ ?_ ?_ ?_
  · rw [e0]; exact hc _ (by omega)
  · rw [e0]; exact hc _ (by omega)
  · rw [e0]; exact hc _ (by omega)
  · rw [e0]; exact hc _ (by omega)
/-- What Show answers, of a row that isn't empty. -/
theorem showR (b off len cap : Nat) (z : Nat → Int) (c : Bool) (w : World) (hE : Env w) (hrow : RowAt w b off len z) (hl : len ≤ 1000) (hc : whB (decide (len % 4 = 0)) z (len / 4) = c) :
    Calls Tryd.prog 21 #[.slice (some ⟨b, off, none⟩) len cap] w fun e w' => e = .returned (.tuple #[.string (bs (if c = true then showTo z (len / 4) else [])), .bool c]) ∧ Below w.heap.size w w' := by
  by_cases h4 : len % 4 = 0
  · refine (show_row b off len cap z w hE hrow h4 (by omega)).mono ?_
    rintro e w' ⟨⟨h, rfl⟩ | ⟨⟨j, hj, h⟩, rfl⟩, hb⟩
    · have : c = true := by rw [← hc, whB_iff]; exact ⟨by simpa using h4, h⟩
      subst this
      exact ⟨rfl, hb⟩
    · have : c = false := by
        cases c
        · rfl
        · have := ((whB_iff _ _ _).1 hc).2 j hj
          rw [h] at this; cases this
      subst this
      exact ⟨rfl, hb⟩
  · refine (show_odd _ len cap w h4 (by omega)).mono ?_
    rintro e w' ⟨rfl, rfl⟩
    have : c = false := by
      cases c
      · rfl
      · have := ((whB_iff _ _ _).1 hc).1
        simp at this; omega
    subst this
    exact ⟨rfl, Below.refl _ _⟩
/-- What Assemble answers, of what Show told. -/
theorem asmShown (n : Nat) (z : Nat → Int) (w : World) (hE : Env w) (hn : n ≤ 250) (hz : ∀ j, j < 4 * n → Wd.B8 (z j)) (h : ∀ j, j < n → decR (wAt z j) = true) :
    Calls Tryd.prog 20 #[.string (bs (showTo z n))] w fun e w' => ∃ g, e = .returned (.tuple #[.slice (some ⟨g, 0, none⟩) (4 * n) (4 * n), .int .i64 0, .int .i64 0]) ∧ RowAt w' g 0 (4 * n) z ∧ Below w.heap.size w w' := by
  have hlen := showTo_len z n h
  refine (asm_any _ w hE (by rw [bs_size]; omega)).mono ?_
  rw [bs_toList]
  rintro e w' ⟨⟨q, x, r, h1, _, h3, _⟩ | ⟨_, g, hg, rfl, hr⟩, hb⟩
  · have := clean_show z n h x (by rw [h1]; simp)
    rw [this] at h3; cases h3
  · rw [words_show z n h] at hr ⊢
    simp only [List.length_map, List.length_range] at hr ⊢
    refine ⟨g, rfl, ⟨hr.lt, hz, fun j hj => ?_⟩, hb⟩
    have e1 : Wd.byteOf (fun i => ((List.range n).map (wAt z)).getD i 0) j = z j := by
      rw [← byteOf_wAt z j (hz _ (by omega)) (hz _ (by omega)) (hz _ (by omega)) (hz _ (by omega))]
      unfold Wd.byteOf
      show Wd.byte4 (((List.range n).map (wAt z)).getD (j / 4) 0) (j % 4) = _
      rw [range_getD (wAt z) n (j / 4) (by omega)]
    have := hr.cell hj
    rw [e1] at this
    rw [Nat.zero_add]; exact this
end Go.Proofs.YtebnjhecopmekaaDoor
