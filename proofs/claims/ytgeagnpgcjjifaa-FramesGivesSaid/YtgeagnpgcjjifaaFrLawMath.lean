/-
  Plain facts for the laws of frames: what fails changes nothing; the counts' sum; frames that are taken one after the other; the first frame that is nobody's. Conditions: none.
-/
import Derived.Test.YtgeagnpgcjjifaaFrMove
namespace Go.Proofs.Ytgeagnpgcjjifaa
namespace Fr
theorem takeP_err {n : Nat} {o : Int} {os : List Nat} (h : (takeP n o os).2.1 ≠ 0) : (takeP n o os).2.2 = os := by
  unfold takeP at h ⊢
  split
  · rename_i h1
    rw [if_pos h1] at h
    split
    · rename_i h2
      rw [h2] at h
      exact absurd rfl h
    · rfl
  · rfl
theorem mvP_err {f a b : Int} {os : List Nat} (h : (mvP f a b os).1 ≠ 0) : (mvP f a b os).2 = os := by
  unfold mvP at h ⊢
  split
  · rfl
  · rename_i h1
    rw [if_neg h1] at h
    split
    · rfl
    · rename_i h2
      rw [if_neg h2] at h
      exact absurd rfl h
theorem moveP_err {f a b : Int} {os : List Nat} (h : (moveP f a b os).1 ≠ 0) : (moveP f a b os).2 = os := by
  unfold moveP at h ⊢
  split
  · rfl
  · rename_i h1
    rw [if_neg h1] at h
    exact mvP_err h
/-- The sum of the first owners' counts. -/
def sumC (os : List Nat) : Nat → Int
  | 0 => 0
  | k + 1 => sumC os k + cn os k
theorem cn_cons (x : Nat) (os : List Nat) (k : Nat) : cn (x :: os) k = cn os k + if x = k then 1 else 0 := by
  unfold cn
  rw [List.count_cons]
  by_cases h : x = k
  · rw [if_pos h, if_pos (by simpa using h)]; omega
  · rw [if_neg h, if_neg (by simpa using h)]; omega
theorem sumC_cons (x : Nat) (os : List Nat) : ∀ k, sumC (x :: os) k = sumC os k + if x < k then 1 else 0
  | 0 => by simp [sumC]
  | k + 1 => by
    rw [sumC, sumC, sumC_cons x os k, cn_cons]
    by_cases h : x = k
    · subst h
      rw [if_neg (by omega), if_pos rfl, if_pos (by omega)]; omega
    · rw [if_neg h]
      by_cases h2 : x < k
      · rw [if_pos h2, if_pos (by omega)]; omega
      · rw [if_neg h2, if_neg (by omega)]; omega
theorem sumC_nil : ∀ k, sumC [] k = 0
  | 0 => rfl
  | k + 1 => by rw [sumC, sumC_nil k]; rfl
theorem sumC_all : ∀ (os : List Nat), (∀ x ∈ os, x ≤ 9) → sumC os 10 = os.length
  | [], _ => by rw [sumC_nil]; rfl
  | x :: os, h => by
    rw [sumC_cons, sumC_all os (fun y hy => h y (List.mem_cons_of_mem _ hy)), if_pos (by have := h x (List.mem_cons_self ..); omega), List.length_cons]
    omega
theorem sumC_le (os : List Nat) : ∀ k, k ≤ 10 → os.length ≤ 1024 → 0 ≤ sumC os k ∧ sumC os k ≤ 1024 * k
  | 0, _, _ => by simp [sumC]
  | k + 1, h, hl => by
    have h1 := sumC_le os k (by omega) hl
    have h2 := cn_le os k
    rw [sumC]
    omega

/-! ### Frames taken one after the other -/
/-- The first i of N frames are q's. -/
def prt (N i q : Nat) : List Nat := setR (List.replicate N 0) 0 i q
theorem prt_len (N i q : Nat) : (prt N i q).length = N := by unfold prt; rw [setR_len, List.length_replicate]
theorem prt_get {N i q k : Nat} (hi : i ≤ N) (hk : k < N) : (prt N i q)[k]? = some (if k < i then q else 0) := by
  unfold prt
  rw [setR_get _ _ _ _ _ (by rw [List.length_replicate]; omega)]
  by_cases h : k < i
  · rw [if_pos (by omega), if_pos h]
  · rw [if_neg (by omega), if_neg h, List.getElem?_replicate, if_pos hk]
theorem prt_next (N i q : Nat) : prt N (i + 1) q = (prt N i q).set i q := by
  unfold prt
  rw [setR, Nat.zero_add]
theorem tk_in {q : Nat} (h1 : 1 ≤ q) (h9 : q ≤ 9) : tk q = true := by
  unfold tk
  rw [Bool.and_eq_true, decide_eq_true_iff, decide_eq_true_iff]
  omega
theorem prt_take {N i q : Nat} (hi : i < N) (h1 : 1 ≤ q) (h9 : q ≤ 9) : takeP 1 q (prt N i q) = ((i : Int), 0, prt N (i + 1) q) := by
  have hs : spot 1 (prt N i q) = some i := by
    refine spot_at (Nat.le_refl _) (isRun_one.2 ?_) fun j hj => isRun_no (i := 0) (x := q) (by omega) ?_ (by omega)
    · rw [prt_get (by omega) hi, if_neg (by omega)]
    · rw [Nat.one_mul, Nat.add_zero, prt_get (by omega) (by omega), if_pos hj]
  unfold takeP
  rw [tk_in h1 h9, hs, if_pos rfl]
  simp only [Nat.one_mul, prt_next, Int.toNat_natCast]
  rfl
theorem prt_full {N q : Nat} (h1 : 1 ≤ q) (h9 : q ≤ 9) : takeP 1 q (prt N N q) = (-1, 15, prt N N q) := by
  have hs : spot 1 (prt N N q) = none := by
    refine spot_no fun j => ?_
    by_cases hj : j < N
    · exact isRun_no (i := 0) (x := q) (by omega) (by rw [Nat.one_mul, Nat.add_zero, prt_get (Nat.le_refl _) hj, if_pos hj]) (by omega)
    · exact isRun_far (by rw [prt_len]; omega)
  unfold takeP
  rw [tk_in h1 h9, hs, if_pos rfl]
theorem prt_cn {N q : Nat} (h1 : 1 ≤ q) : ∀ i, i ≤ N → cn (prt N i q) q = i
  | 0, _ => by
    show cn (List.replicate N 0) q = _
    rw [show cn (List.replicate N 0) q = ((List.replicate N 0).count q : Nat) from rfl, List.count_replicate, if_neg (by simp; omega)]
  | i + 1, h => by
    have hg : (prt N i q)[i]? = some 0 := by rw [prt_get (by omega) (by omega), if_neg (by omega)]
    rw [prt_next, cn_set hg, prt_cn h1 i (by omega), if_neg (by omega), if_pos rfl]
    omega
theorem prt_gone {N q : Nat} (_ : 1 ≤ q) : goneP q (prt N N q) = List.replicate N 0 := by
  refine List.ext_getElem? fun k => ?_
  by_cases hk : k < N
  · rw [goneP_get (prt_get (Nat.le_refl _) hk), if_pos hk, if_pos rfl, List.getElem?_replicate, if_pos hk]
  · rw [List.getElem?_eq_none (by rw [goneP_len, prt_len]; omega), List.getElem?_eq_none (by rw [List.length_replicate]; omega)]
theorem none_run {N q : Nat} (h1 : 1 ≤ q) (h9 : q ≤ 9) (hN : N < 64) : takeP 64 q (List.replicate N 0) = (-1, 15, List.replicate N 0) := by
  have hs : spot 64 (List.replicate N 0) = none := spot_no fun j => isRun_far (by rw [List.length_replicate]; omega)
  unfold takeP
  rw [tk_in h1 h9, hs, if_pos rfl]
theorem first_run {N q : Nat} (h1 : 1 ≤ q) (h9 : q ≤ 9) (hN : 64 ≤ N) : takeP 64 q (List.replicate N 0) = (0, 0, prt N 64 q) := by
  have hs : spot 64 (List.replicate N 0) = some 0 := by
    refine spot_at (by omega) (isRun_iff.2 ⟨by rw [List.length_replicate]; omega, fun i hi => ?_⟩) fun j hj => by omega
    rw [List.getElem?_replicate, if_pos (by omega)]
  unfold takeP
  rw [tk_in h1 h9, hs, if_pos rfl]
  rfl
/-! ### The first frame that is nobody's -/
theorem isRun_isOf {os : List Nat} {k : Nat} (hk : k < os.length) : isRun 1 os k = isOf 0 os k := by
  rw [Bool.eq_iff_iff, isRun_one]
  unfold isOf
  rw [List.getElem?_eq_getElem hk]
  simp
theorem find_same (os : List Nat) : ∀ l : List Nat, (∀ k ∈ l, k < os.length) → l.find? (isRun 1 os) = l.find? (isOf 0 os)
  | [], _ => rfl
  | k :: l, h => by
    rw [List.find?_cons, List.find?_cons, isRun_isOf (h k (List.mem_cons_self ..)), find_same os l (fun j hj => h j (List.mem_cons_of_mem _ hj))]
theorem spot_which (os : List Nat) : spot 1 os = (which 0 os).head? := by
  unfold spot which wh
  rw [List.head?_filter]
  exact find_same os _ fun k hk => List.mem_range.1 hk
end Fr
end Go.Proofs.Ytgeagnpgcjjifaa
