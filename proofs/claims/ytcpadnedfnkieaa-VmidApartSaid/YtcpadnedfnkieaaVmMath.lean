/-
  Plain: numbers that are free (0), taken (1) or stale (2): what each call answers and leaves, how many there are of each, and what stays true. Conditions: none.
-/
import Derived.Lib.Hide
namespace Go.Proofs.Ytcpadnedfnkieaa
namespace Vm
def upd (f : Nat → Int) (i : Nat) (v : Int) (j : Nat) : Int := if j = i then v else f j
theorem upd_at (f : Nat → Int) (i : Nat) (v : Int) : upd f i v i = v := by unfold upd; rw [if_pos rfl]
theorem upd_ne (f : Nat → Int) {i j : Nat} (v : Int) (h : j ≠ i) : upd f i v j = f j := by unfold upd; rw [if_neg h]
/-- The least of the first that has a state. -/
def lst (v : Int) (s : Nat → Int) : Nat → Option Nat
  | 0 => none
  | n + 1 => match lst v s n with
    | some i => some i
    | none => if s n = v then some n else none
section
variable {v : Int} {s : Nat → Int}
theorem lst_none : ∀ {n : Nat}, lst v s n = none → ∀ j, j < n → s j ≠ v
  | 0, _, j, hj => by omega
  | n + 1, h, j, hj => by
    unfold lst at h
    cases hl : lst v s n with
    | some k => rw [hl] at h; cases h
    | none =>
      rw [hl] at h
      simp only at h
      split at h
      · cases h
      · rename_i hp
        by_cases e : j = n
        · subst e; exact hp
        · exact lst_none hl j (by omega)
theorem lst_some : ∀ {n i : Nat}, lst v s n = some i → i < n ∧ s i = v ∧ ∀ j, j < i → s j ≠ v
  | 0, i, h => by cases h
  | n + 1, i, h => by
    unfold lst at h
    cases hl : lst v s n with
    | some k =>
      rw [hl] at h
      injection h with h
      subst h
      obtain ⟨a, b, c⟩ := lst_some hl
      exact ⟨by omega, b, c⟩
    | none =>
      rw [hl] at h
      simp only at h
      split at h
      · rename_i hp
        injection h with h
        subst h
        exact ⟨by omega, hp, lst_none hl⟩
      · cases h
theorem lst_no : ∀ {n : Nat}, (∀ j, j < n → s j ≠ v) → lst v s n = none
  | 0, _ => rfl
  | n + 1, h => by
    unfold lst
    rw [lst_no (n := n) (fun j hj => h j (by omega))]
    simp only
    rw [if_neg (h n (by omega))]
theorem lst_at {n i : Nat} (hi : i < n) (h : s i = v) (h0 : ∀ j, j < i → s j ≠ v) : lst v s n = some i := by
  cases hl : lst v s n with
  | none => exact absurd h (lst_none hl i hi)
  | some k =>
    obtain ⟨_, b, c⟩ := lst_some hl
    have : k = i := by
      by_cases e : k < i
      · exact absurd b (h0 k e)
      · by_cases e' : i < k
        · exact absurd h (c i e')
        · omega
    rw [this]
end
/-- How many of the first have a state. -/
def cnt (v : Int) (s : Nat → Int) : Nat → Nat
  | 0 => 0
  | n + 1 => cnt v s n + (if s n = v then 1 else 0)
section
variable {v : Int} {s s' : Nat → Int}
theorem cnt_le : ∀ n, cnt v s n ≤ n
  | 0 => Nat.le_refl _
  | n + 1 => by have := cnt_le n; unfold cnt; split <;> omega
theorem cnt_congr : ∀ {n : Nat}, (∀ j, j < n → s j = s' j) → cnt v s n = cnt v s' n
  | 0, _ => rfl
  | n + 1, h => by unfold cnt; rw [cnt_congr (n := n) (fun j hj => h j (by omega)), h n (by omega)]
theorem cnt_upd (x : Int) : ∀ {n i : Nat}, i < n → cnt v (upd s i x) n + (if s i = v then 1 else 0) = cnt v s n + (if x = v then 1 else 0)
  | 0, i, h => by omega
  | n + 1, i, h => by
    unfold cnt
    by_cases e : i = n
    · subst e
      rw [upd_at, cnt_congr (s := upd s i x) (s' := s) (fun j hj => upd_ne _ _ (by omega))]
      omega
    · have := cnt_upd x (n := n) (i := i) (by omega)
      rw [upd_ne _ _ (fun h => e h.symm)]
      omega
theorem cnt_zero : ∀ {n : Nat}, cnt v s n = 0 ↔ ∀ j, j < n → s j ≠ v
  | 0 => ⟨fun _ j hj => by omega, fun _ => rfl⟩
  | n + 1 => by
    unfold cnt
    constructor
    · intro h j hj
      by_cases e : j = n
      · subst e; split at h <;> first | omega | assumption
      · exact cnt_zero.1 (by omega : cnt v s n = 0) j (by omega)
    · intro h
      rw [cnt_zero.2 (fun j hj => h j (by omega)), if_neg (h n (by omega))]
theorem cnt_all : ∀ {n : Nat}, (∀ j, j < n → s j = v) → cnt v s n = n
  | 0, _ => rfl
  | n + 1, h => by unfold cnt; rw [cnt_all (n := n) (fun j hj => h j (by omega)), if_pos (h n (by omega))]
/-- Each is one of three. -/
def Is3 (s : Nat → Int) (n : Nat) : Prop := ∀ j, j < n → s j = 0 ∨ s j = 1 ∨ s j = 2
theorem cnt_sum : ∀ {n : Nat}, Is3 s n → cnt 0 s n + cnt 1 s n + cnt 2 s n = n
  | 0, _ => rfl
  | n + 1, h => by
    have ih := cnt_sum (n := n) (fun j hj => h j (by omega))
    unfold cnt
    rcases h n (by omega) with e | e | e
    · rw [e]
      have a : ¬ ((0 : Int) = 1) := by decide
      have b : ¬ ((0 : Int) = 2) := by decide
      rw [if_pos rfl, if_neg a, if_neg b]; omega
    · rw [e]
      have a : ¬ ((1 : Int) = 0) := by decide
      have b : ¬ ((1 : Int) = 2) := by decide
      rw [if_neg a, if_pos rfl, if_neg b]; omega
    · rw [e]
      have a : ¬ ((2 : Int) = 0) := by decide
      have b : ¬ ((2 : Int) = 1) := by decide
      rw [if_neg a, if_neg b, if_pos rfl]; omega
end

/-! ### What each call answers and leaves -/
def tkP (s : Nat → Int) (m : Nat) : Int × Int × (Nat → Int) := match lst 0 s m with
  | some i => ((i : Int) + 1, 0, upd s i 1)
  | none => if (lst 2 s m).isSome = true then (0, 17, s) else (0, 15, s)
def gvP (s : Nat → Int) (m : Nat) (n : Int) : Int × (Nat → Int) :=
  if n < 1 ∨ (m : Int) < n then (11, s)
  else if s (n - 1).toNat ≠ 1 then (12, s)
  else (0, upd s (n - 1).toNat 2)
/-- The stale ones of the first are free. -/
def drN (s : Nat → Int) (k : Nat) : Nat → Int := fun i => if i < k ∧ s i = 2 then 0 else s i
def drP (s : Nat → Int) (m : Nat) : Int × (Nat → Int) := ((cnt 2 s m : Nat), drN s m)
def stP (s : Nat → Int) (m : Nat) (n : Int) : Int := if 1 ≤ n ∧ n ≤ m then s (n - 1).toNat else -1
/-- Those that are taken, of the first, rising. -/
def tnL (s : Nat → Int) (n : Nat) : List Nat := ((List.range n).filter (fun i => s i == 1)).map (· + 1)
theorem tnL_next (s : Nat → Int) (n : Nat) : tnL s (n + 1) = tnL s n ++ (if s n = 1 then [n + 1] else []) := by
  unfold tnL
  rw [List.range_succ, List.filter_append, List.map_append]
  by_cases h : s n = 1
  · simp [h]
  · simp [h]
theorem tnL_len (s : Nat → Int) : ∀ n, (tnL s n).length = cnt 1 s n
  | 0 => rfl
  | n + 1 => by
    rw [tnL_next, List.length_append, tnL_len s n]
    show _ = cnt 1 s n + (if s n = 1 then 1 else 0)
    split <;> simp
theorem drN_zero (s : Nat → Int) : drN s 0 = s := by
  funext i
  unfold drN
  rw [if_neg (by omega)]
theorem drN_next (s : Nat → Int) (k : Nat) : drN s (k + 1) = if s k = 2 then upd (drN s k) k 0 else drN s k := by
  funext i
  by_cases h : s k = 2
  · rw [if_pos h]
    by_cases e : i = k
    · subst e
      rw [upd_at]
      unfold drN
      rw [if_pos ⟨by omega, h⟩]
    · rw [upd_ne _ _ e]
      unfold drN
      by_cases e2 : i < k ∧ s i = 2
      · rw [if_pos ⟨by omega, e2.2⟩, if_pos e2]
      · rw [if_neg (fun x => e2 ⟨by omega, x.2⟩), if_neg e2]
  · rw [if_neg h]
    unfold drN
    by_cases e : i = k
    · subst e
      rw [if_neg (fun x => h x.2), if_neg (fun x => h x.2)]
    · by_cases e2 : i < k ∧ s i = 2
      · rw [if_pos ⟨by omega, e2.2⟩, if_pos e2]
      · rw [if_neg (fun x => e2 ⟨by omega, x.2⟩), if_neg e2]
theorem drN_past (s : Nat → Int) {k i : Nat} (h : k ≤ i) : drN s k i = s i := by
  unfold drN
  rw [if_neg (by omega)]
section
variable {s : Nat → Int} {m : Nat}
theorem is3_tk (h : Is3 s m) : Is3 (tkP s m).2.2 m := by
  unfold tkP
  split
  · rename_i i hi
    intro j hj
    by_cases e : j = i
    · subst e; show upd s j 1 j = 0 ∨ upd s j 1 j = 1 ∨ upd s j 1 j = 2; rw [upd_at]; exact Or.inr (Or.inl rfl)
    · show upd s i 1 j = 0 ∨ upd s i 1 j = 1 ∨ upd s i 1 j = 2; rw [upd_ne _ _ e]; exact h j hj
  · split <;> exact h
theorem is3_gv (h : Is3 s m) (n : Int) : Is3 (gvP s m n).2 m := by
  unfold gvP
  split
  · exact h
  · split
    · exact h
    · intro j hj
      by_cases e : j = (n - 1).toNat
      · subst e; show upd s (n - 1).toNat 2 (n - 1).toNat = 0 ∨ upd s (n - 1).toNat 2 (n - 1).toNat = 1 ∨ upd s (n - 1).toNat 2 (n - 1).toNat = 2; rw [upd_at]; exact Or.inr (Or.inr rfl)
      · show upd s _ 2 j = 0 ∨ upd s _ 2 j = 1 ∨ upd s _ 2 j = 2; rw [upd_ne _ _ e]; exact h j hj
theorem is3_dr (h : Is3 s m) : Is3 (drP s m).2 m := by
  intro j hj
  show drN s m j = 0 ∨ drN s m j = 1 ∨ drN s m j = 2
  unfold drN
  split
  · exact Or.inl rfl
  · exact h j hj

/-! ### All are taken, some are given, and taken again -/
/-- The first are taken. -/
def fstT (k : Nat) : Nat → Int := fun i => if i < k then 1 else 0
theorem fstT_zero : fstT 0 = fun _ => 0 := by
  funext i
  unfold fstT
  rw [if_neg (by omega)]
theorem fstT_next {k : Nat} (hk : k < m) : tkP (fstT k) m = ((k : Int) + 1, 0, fstT (k + 1)) := by
  have e : lst 0 (fstT k) m = some k := lst_at hk (by unfold fstT; rw [if_neg (by omega)]) (fun j hj => by unfold fstT; rw [if_pos hj]; decide)
  unfold tkP
  rw [e]
  simp only
  congr 2
  funext i
  by_cases h : i = k
  · subst h
    rw [upd_at]
    unfold fstT
    rw [if_pos (by omega)]
  · rw [upd_ne _ _ h]
    unfold fstT
    by_cases h2 : i < k
    · rw [if_pos h2, if_pos (by omega)]
    · rw [if_neg h2, if_neg (by omega)]
/-- None is free; so many are stale. -/
structure Bk (s : Nat → Int) (m g : Nat) : Prop where
  is3 : Is3 s m
  no0 : cnt 0 s m = 0
  two : cnt 2 s m = g
theorem bk_all (m : Nat) : Bk (fstT m) m 0 :=
  ⟨fun j hj => by unfold fstT; rw [if_pos hj]; exact Or.inr (Or.inl rfl), cnt_zero.2 fun j hj => by unfold fstT; rw [if_pos hj]; decide, cnt_zero.2 fun j hj => by unfold fstT; rw [if_pos hj]; decide⟩
theorem bk_gv {g : Nat} (h : Bk s m g) (n : Int) : Bk (gvP s m n).2 m (if (gvP s m n).1 = 0 then g + 1 else g) := by
  have i3 := is3_gv h.is3 n
  unfold gvP at i3 ⊢
  by_cases h1 : n < 1 ∨ (m : Int) < n
  · rw [if_pos h1] at i3 ⊢
    rw [if_neg (by simp)]
    exact h
  · rw [if_neg h1] at i3 ⊢
    by_cases h2 : s (n - 1).toNat ≠ 1
    · rw [if_pos h2] at i3 ⊢
      rw [if_neg (by simp)]
      exact h
    · rw [if_neg h2] at i3 ⊢
      rw [if_pos rfl]
      have h2 : s (n - 1).toNat = 1 := by
        by_cases x : s (n - 1).toNat = 1
        · exact x
        · exact absurd x h2
      have hlt : (n - 1).toNat < m := by omega
      have c0 := cnt_upd (v := 0) (s := s) 2 hlt
      have c2 := cnt_upd (v := 2) (s := s) 2 hlt
      rw [h2] at c0 c2
      have a : ¬ ((1 : Int) = 0) := by decide
      have b : ¬ ((2 : Int) = 0) := by decide
      have c : ¬ ((1 : Int) = 2) := by decide
      rw [if_neg a, if_neg b] at c0
      rw [if_neg c, if_pos rfl] at c2
      have d0 := h.no0
      have d2 := h.two
      exact ⟨i3, by simp only; omega, by simp only; omega⟩
theorem bk_tk {g : Nat} (h : Bk s m g) : (tkP s m) = (0, if 0 < g then 17 else 15, s) := by
  unfold tkP
  rw [lst_no (cnt_zero.1 h.no0)]
  simp only
  by_cases hg : 0 < g
  · rw [if_pos hg, if_pos]
    cases hl : lst 2 s m with
    | some k => rfl
    | none =>
      have := cnt_zero.2 (lst_none hl)
      rw [h.two] at this
      omega
  · rw [if_neg hg, if_neg]
    rw [lst_no (cnt_zero.1 (by rw [h.two]; omega))]
    simp
theorem bk_taken {g : Nat} (h : Bk s m g) : cnt 1 s m = m - g := by
  have := cnt_sum h.is3
  have h0 := h.no0
  have h2 := h.two
  omega
/-- None is stale; so many are free. -/
structure Fw (s : Nat → Int) (m g : Nat) : Prop where
  is3 : Is3 s m
  zero : cnt 0 s m = g
  no2 : cnt 2 s m = 0
theorem dr_cnt : ∀ {n : Nat}, n ≤ m → cnt 0 (drN s m) n = cnt 0 s n + cnt 2 s n ∧ cnt 2 (drN s m) n = 0
  | 0, _ => ⟨rfl, rfl⟩
  | n + 1, h => by
    obtain ⟨a, b⟩ := dr_cnt (n := n) (by omega)
    unfold cnt
    rw [a, b]
    by_cases e : s n = 2
    · have e1 : drN s m n = 0 := by unfold drN; rw [if_pos ⟨by omega, e⟩]
      rw [e1, e]
      have x : ¬ ((2 : Int) = 0) := by decide
      have y : ¬ ((0 : Int) = 2) := by decide
      rw [if_pos rfl, if_neg x, if_pos rfl, if_neg y]
      omega
    · have e1 : drN s m n = s n := by unfold drN; rw [if_neg (fun x => e x.2)]
      rw [e1, if_neg e]
      omega
theorem fw_dr {g : Nat} (h : Bk s m g) : Fw (drP s m).2 m g := by
  obtain ⟨a, b⟩ := dr_cnt (s := s) (m := m) (n := m) (Nat.le_refl _)
  exact ⟨is3_dr h.is3, by show cnt 0 (drN s m) m = g; rw [a, h.no0, h.two]; omega, b⟩
theorem fw_tk {g : Nat} (h : Fw s m (g + 1)) : (tkP s m).2.1 = 0 ∧ Fw (tkP s m).2.2 m g := by
  have i3 := is3_tk h.is3
  unfold tkP at i3 ⊢
  cases hl : lst 0 s m with
  | none =>
    have := cnt_zero.2 (lst_none hl)
    rw [h.zero] at this
    omega
  | some i =>
    rw [hl] at i3
    obtain ⟨hi, h0, _⟩ := lst_some hl
    have c0 := cnt_upd (v := 0) (s := s) 1 hi
    have c2 := cnt_upd (v := 2) (s := s) 1 hi
    rw [h0] at c0 c2
    have a : ¬ ((1 : Int) = 0) := by decide
    have b : ¬ ((0 : Int) = 2) := by decide
    have c : ¬ ((1 : Int) = 2) := by decide
    rw [if_pos rfl, if_neg a] at c0
    rw [if_neg b, if_neg c] at c2
    have d0 := h.zero
    have d2 := h.no2
    exact ⟨rfl, i3, by simp only; omega, by simp only; omega⟩
theorem fw_full (h : Fw s m 0) : tkP s m = (0, 15, s) := by
  unfold tkP
  rw [lst_no (cnt_zero.1 h.zero)]
  simp only
  rw [if_neg]
  rw [lst_no (cnt_zero.1 h.no2)]
  simp

/-! ### Round and round -/
/-- A call that a pool is told: what it leaves. -/
def opV (s : Nat → Int) (m : Nat) (what n : Int) : Nat → Int :=
  if what = 0 then (tkP s m).2.2 else if what = 1 then (gvP s m n).2 else if what = 2 then (drP s m).2 else s
theorem opV_round (h : Is3 s m) (what n : Int) {j : Nat} (hj : j < m) : Is3 (opV s m what n) m ∧ (opV s m what n j ≠ s j → 0 ≤ what ∧ what ≤ 2 ∧ s j = what ∧ opV s m what n j = (s j + 1) % 3) := by
  unfold opV
  by_cases h0 : what = 0
  · rw [if_pos h0]
    refine ⟨is3_tk h, fun hne => ?_⟩
    unfold tkP at hne ⊢
    cases hl : lst 0 s m with
    | none =>
      rw [hl] at hne
      simp only at hne
      split at hne <;> exact absurd rfl hne
    | some i =>
      rw [hl] at hne
      obtain ⟨hi, hz, _⟩ := lst_some hl
      simp only at hne ⊢
      by_cases e : j = i
      · subst e
        rw [upd_at, hz, h0]
        exact ⟨by decide, by decide, rfl, by decide⟩
      · rw [upd_ne _ _ e] at hne; exact absurd rfl hne
  · rw [if_neg h0]
    by_cases h1 : what = 1
    · rw [if_pos h1]
      refine ⟨is3_gv h n, fun hne => ?_⟩
      unfold gvP at hne ⊢
      split
      · rename_i x; rw [if_pos x] at hne; exact absurd rfl hne
      · rename_i x
        rw [if_neg x] at hne
        split
        · rename_i y; rw [if_pos y] at hne; exact absurd rfl hne
        · rename_i y
          rw [if_neg y] at hne
          have y : s (n - 1).toNat = 1 := by
            by_cases z : s (n - 1).toNat = 1
            · exact z
            · exact absurd z y
          by_cases e : j = (n - 1).toNat
          · subst e
            simp only
            rw [upd_at, y, h1]
            exact ⟨by decide, by decide, rfl, by decide⟩
          · simp only at hne
            rw [upd_ne _ _ e] at hne; exact absurd rfl hne
    · rw [if_neg h1]
      by_cases h2 : what = 2
      · rw [if_pos h2]
        refine ⟨is3_dr h, fun hne => ?_⟩
        change drN s m j ≠ s j at hne
        show _ ∧ _ ∧ _ ∧ drN s m j = _
        unfold drN at hne ⊢
        split
        · rename_i x
          rw [x.2, h2]
          exact ⟨by decide, by decide, rfl, by decide⟩
        · rename_i x
          rw [if_neg x] at hne; exact absurd rfl hne
      · rw [if_neg h2]
        exact ⟨h, fun hne => absurd rfl hne⟩
end
end Vm
end Go.Proofs.Ytcpadnedfnkieaa
