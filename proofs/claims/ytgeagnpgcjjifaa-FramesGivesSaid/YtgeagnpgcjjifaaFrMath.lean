/-
  Plain: which frame, or run of frames, is nobody's first; frames that are taken, moved, given; which are an owner's. Conditions: none.
-/
import Derived.Test.YtgeagnpgcjjifaaFrPass
namespace Go.Proofs.Ytgeagnpgcjjifaa
namespace Fr

/-! ### A run that is nobody's -/
def isRun (n : Nat) (os : List Nat) (k : Nat) : Bool := decide (n * k + n ≤ os.length) && ((os.drop (n * k)).take n).all (· == 0)
theorem isRun_iff {n : Nat} {os : List Nat} {k : Nat} : isRun n os k = true ↔ n * k + n ≤ os.length ∧ ∀ i, i < n → os[n * k + i]? = some 0 := by
  unfold isRun
  rw [Bool.and_eq_true, decide_eq_true_iff, List.all_eq_true]
  constructor
  · rintro ⟨h1, h2⟩
    refine ⟨h1, fun i hi => ?_⟩
    have hl : n * k + i < os.length := by omega
    have hm : os[n * k + i] ∈ (os.drop (n * k)).take n := by
      rw [List.mem_iff_getElem?]
      refine ⟨i, ?_⟩
      rw [List.getElem?_take, if_pos hi, List.getElem?_drop, List.getElem?_eq_getElem hl]
    have := h2 _ hm
    rw [List.getElem?_eq_getElem hl]
    congr 1
    simpa using this
  · rintro ⟨h1, h2⟩
    refine ⟨h1, fun x hx => ?_⟩
    obtain ⟨i, hi⟩ := List.mem_iff_getElem?.1 hx
    rw [List.getElem?_take] at hi
    split at hi
    · rename_i hlt
      rw [List.getElem?_drop, h2 i hlt] at hi
      injection hi with hi
      subst hi
      rfl
    · cases hi
theorem isRun_no {n : Nat} {os : List Nat} {k i : Nat} {x : Nat} (hi : i < n) (hx : os[n * k + i]? = some x) (h : x ≠ 0) : isRun n os k = false := by
  cases e : isRun n os k with
  | false => rfl
  | true =>
    have := (isRun_iff.1 e).2 i hi
    rw [hx] at this
    injection this with this
    exact absurd this h
theorem isRun_far {n : Nat} {os : List Nat} {k : Nat} (h : os.length < n * k + n) : isRun n os k = false := by
  cases e : isRun n os k with
  | false => rfl
  | true => exact absurd (isRun_iff.1 e).1 (by omega)
def spot (n : Nat) (os : List Nat) : Option Nat := (List.range os.length).find? (isRun n os)
theorem spot_inv {n : Nat} {os : List Nat} {k : Nat} (h : spot n os = some k) : isRun n os k = true ∧ ∀ j, j < k → isRun n os j = false := by
  unfold spot at h
  rw [List.find?_range_eq_some] at h
  exact ⟨h.1, fun j hj => by simpa using h.2.2 j hj⟩
theorem spot_at {n : Nat} {os : List Nat} {k : Nat} (hn : 1 ≤ n) (h1 : isRun n os k = true) (h2 : ∀ j, j < k → isRun n os j = false) : spot n os = some k := by
  unfold spot
  rw [List.find?_range_eq_some]
  refine ⟨h1, ?_, fun j hj => by rw [h2 j hj]; rfl⟩
  have := (isRun_iff.1 h1).1
  have := Nat.le_mul_of_pos_left k hn
  rw [List.mem_range]
  omega
theorem spot_no {n : Nat} {os : List Nat} (h : ∀ j, isRun n os j = false) : spot n os = none := by
  unfold spot
  rw [List.find?_eq_none]
  exact fun j _ => by rw [h j]; simp
theorem spot_none {n : Nat} {os : List Nat} (hn : 1 ≤ n) (h : spot n os = none) (j : Nat) : isRun n os j = false := by
  unfold spot at h
  rw [List.find?_eq_none] at h
  by_cases hj : j < os.length
  · simpa using h j (List.mem_range.2 hj)
  · refine isRun_far ?_
    have := Nat.le_mul_of_pos_left j hn
    omega

/-! ### Frames that are set -/
/-- So many places from one on are put. -/
def setR (os : List Nat) (a : Nat) : Nat → Nat → List Nat
  | 0, _ => os
  | m + 1, x => (setR os a m x).set (a + m) x
theorem setR_len (os : List Nat) (a x : Nat) : ∀ m, (setR os a m x).length = os.length
  | 0 => rfl
  | m + 1 => by rw [setR, List.length_set, setR_len os a x m]
theorem setR_get (os : List Nat) (a x : Nat) : ∀ m i, a + m ≤ os.length → (setR os a m x)[i]? = if a ≤ i ∧ i < a + m then some x else os[i]?
  | 0, i, _ => by rw [if_neg (by omega)]; rfl
  | m + 1, i, h => by
    rw [setR]
    by_cases e : a + m = i
    · subst e
      rw [List.getElem?_set_self (by rw [setR_len]; omega), if_pos (by omega)]
    · rw [List.getElem?_set_ne e, setR_get os a x m i (by omega)]
      by_cases h1 : a ≤ i ∧ i < a + m
      · rw [if_pos h1, if_pos (by omega)]
      · rw [if_neg h1, if_neg (by omega)]
theorem setR_few {os : List Nat} (h : ∀ x ∈ os, x ≤ 9) (a x : Nat) (hx : x ≤ 9) : ∀ m, ∀ y ∈ setR os a m x, y ≤ 9
  | 0 => h
  | m + 1 => few_set (setR_few h a x hx m) _ _ hx
/-- What taking answers, and leaves. -/
def takeP (n : Nat) (o : Int) (os : List Nat) : Int × Int × List Nat :=
  if tk o then match spot n os with
    | some k => (((n * k : Nat) : Int), 0, setR os (n * k) n o.toNat)
    | none => (-1, 15, os)
  else (-1, 11, os)
/-- What moving answers, and leaves. -/
def mvP (f a b : Int) (os : List Nat) : Int × List Nat :=
  if f < 0 ∨ (os.length : Int) ≤ f ∨ tk a = false ∨ (b ≠ 0 ∧ tk b = false) then (11, os)
  else if ((os[f.toNat]?.getD 0 : Nat) : Int) ≠ a then (16, os)
  else (0, os.set f.toNat b.toNat)
/-- What Move answers, and leaves. -/
def moveP (f a b : Int) (os : List Nat) : Int × List Nat := if b = 0 then (11, os) else mvP f a b os
theorem tk_nat {o : Int} (h : tk o = true) : ∃ k : Nat, o = k ∧ 1 ≤ k ∧ k ≤ 9 := by
  unfold tk at h
  rw [Bool.and_eq_true, decide_eq_true_iff, decide_eq_true_iff] at h
  exact ⟨o.toNat, by omega, by omega, by omega⟩
theorem takeP_len (n : Nat) (o : Int) (os : List Nat) : (takeP n o os).2.2.length = os.length := by
  unfold takeP
  split
  · split
    · exact setR_len _ _ _ _
    · rfl
  · rfl
theorem mvP_len (f a b : Int) (os : List Nat) : (mvP f a b os).2.length = os.length := by
  unfold mvP
  split
  · rfl
  · split
    · rfl
    · rw [List.length_set]
theorem moveP_len (f a b : Int) (os : List Nat) : (moveP f a b os).2.length = os.length := by
  unfold moveP
  split
  · rfl
  · exact mvP_len f a b os

/-! ### Which frames are an owner's -/
def isOf (o : Int) (os : List Nat) (j : Nat) : Bool := decide (((os[j]?.getD 0 : Nat) : Int) = o)
def wh (o : Int) (os : List Nat) (i : Nat) : List Nat := (List.range i).filter (isOf o os)
def which (o : Int) (os : List Nat) : List Nat := wh o os os.length
theorem wh_yes {o : Int} {os : List Nat} {i x : Nat} (hx : os[i]? = some x) (h : (x : Int) = o) : wh o os (i + 1) = wh o os i ++ [i] := by
  unfold wh
  rw [List.range_succ, List.filter_append]
  congr 1
  simp [isOf, hx, h]
theorem wh_no {o : Int} {os : List Nat} {i x : Nat} (hx : os[i]? = some x) (h : (x : Int) ≠ o) : wh o os (i + 1) = wh o os i := by
  unfold wh
  rw [List.range_succ, List.filter_append]
  have : [i].filter (isOf o os) = [] := by simp [isOf, hx, h]
  rw [this, List.append_nil]
theorem wh_len (o : Int) (os : List Nat) (i : Nat) : (wh o os i).length ≤ i := by
  unfold wh
  exact Nat.le_trans (List.length_filter_le _ _) (by rw [List.length_range]; exact Nat.le_refl _)
theorem mem_which {o : Int} {os : List Nat} {j : Nat} : j ∈ which o os ↔ ∃ x, os[j]? = some x ∧ (x : Int) = o := by
  unfold which wh
  rw [List.mem_filter, List.mem_range]
  constructor
  · rintro ⟨h1, h2⟩
    refine ⟨os[j], List.getElem?_eq_getElem h1, ?_⟩
    unfold isOf at h2
    rw [List.getElem?_eq_getElem h1] at h2
    simpa using h2
  · rintro ⟨x, h1, h2⟩
    refine ⟨(List.getElem?_eq_some_iff.1 h1).1, ?_⟩
    unfold isOf
    rw [h1]
    simpa using h2
theorem wh_count (k : Nat) (os : List Nat) : ∀ i, i ≤ os.length → (wh k os i).length = (os.take i).count k
  | 0, _ => by simp [wh]
  | i + 1, h => by
    have hx : os[i]? = some os[i] := List.getElem?_eq_getElem (by omega)
    rw [List.take_succ_eq_append_getElem (by omega), List.count_append, ← wh_count k os i (by omega)]
    by_cases e : os[i] = k
    · rw [wh_yes hx (by rw [e]), List.length_append]
      simp [e]
    · rw [wh_no hx (by omega), List.count_singleton, if_neg (by simpa using e)]
      rfl
theorem which_count (k : Nat) (os : List Nat) : ((which k os).length : Int) = cn os k := by
  unfold which cn
  rw [wh_count k os _ (Nat.le_refl _), List.take_length]
theorem which_far {o : Int} {os : List Nat} (h : ∀ x ∈ os, x ≤ 9) (ho : o < 0 ∨ 10 ≤ o) : which o os = [] := by
  rw [List.eq_nil_iff_forall_not_mem]
  intro j hj
  obtain ⟨x, h1, h2⟩ := mem_which.1 hj
  have := h x (List.mem_of_getElem? h1)
  omega

/-! ### All of an owner's are given -/
def giveL (os : List Nat) (l : List Nat) : List Nat := l.foldl (fun os j => os.set j 0) os
theorem giveL_next {os l : List Nat} {i j : Nat} (h : l[i]? = some j) : giveL os (l.take (i + 1)) = (giveL os (l.take i)).set j 0 := by
  obtain ⟨hi, hj⟩ := List.getElem?_eq_some_iff.1 h
  unfold giveL
  rw [List.take_succ_eq_append_getElem hi, List.foldl_append, hj]
  rfl
theorem giveL_len : ∀ (l os : List Nat), (giveL os l).length = os.length
  | [], _ => rfl
  | j :: l, os => by
    have := giveL_len l (os.set j 0)
    rw [List.length_set] at this
    exact this
theorem giveL_get : ∀ (l os : List Nat) (i : Nat), i < os.length → (giveL os l)[i]? = if i ∈ l then some 0 else os[i]?
  | [], os, i, _ => by simp [giveL]
  | j :: l, os, i, hi => by
    have h := giveL_get l (os.set j 0) i (by rw [List.length_set]; exact hi)
    show (giveL (os.set j 0) l)[i]? = _
    rw [h]
    by_cases h1 : i ∈ l
    · rw [if_pos h1, if_pos (List.mem_cons_of_mem _ h1)]
    · rw [if_neg h1]
      by_cases h2 : j = i
      · subst h2
        rw [List.getElem?_set_self hi, if_pos (List.mem_cons_self ..)]
      · rw [List.getElem?_set_ne h2, if_neg (by
          intro h3
          rcases List.mem_cons.1 h3 with h4 | h4
          · exact h2 h4.symm
          · exact h1 h4)]
/-- What is left behind. -/
def goneP (o : Int) (os : List Nat) : List Nat := giveL os (which o os)
theorem goneP_len (o : Int) (os : List Nat) : (goneP o os).length = os.length := giveL_len _ _
theorem goneP_get {o : Int} {os : List Nat} {i x : Nat} (h : os[i]? = some x) : (goneP o os)[i]? = some (if (x : Int) = o then 0 else x) := by
  unfold goneP
  rw [giveL_get _ _ _ (List.getElem?_eq_some_iff.1 h).1]
  by_cases e : (x : Int) = o
  · rw [if_pos (mem_which.2 ⟨x, h, e⟩), if_pos e]
  · rw [if_neg, if_neg e]
    · exact h
    · intro hm
      obtain ⟨y, h1, h2⟩ := mem_which.1 hm
      rw [h] at h1
      injection h1 with h1
      subst h1
      exact e h2
theorem goneP_cn (k : Nat) (os : List Nat) (hk : k ≠ 0) : cn (goneP k os) k = 0 := by
  have : (goneP k os).count k = 0 := by
    rw [List.count_eq_zero]
    intro hm
    obtain ⟨i, hi⟩ := List.mem_iff_getElem?.1 hm
    have hl : i < os.length := by
      have := (List.getElem?_eq_some_iff.1 hi).1
      rw [goneP_len] at this
      exact this
    rw [goneP_get (List.getElem?_eq_getElem hl)] at hi
    injection hi with hi
    split at hi
    · exact hk hi.symm
    · omega
  unfold cn
  rw [this]
  rfl
end Fr
end Go.Proofs.Ytgeagnpgcjjifaa
