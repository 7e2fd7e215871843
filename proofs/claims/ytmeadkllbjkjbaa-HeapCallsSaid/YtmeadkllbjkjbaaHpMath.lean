/-
  Plain: a heap in a row (the parent of i is the place (i - 1) / 2): one step up, one step down, what is first; exchanges keep what is in it. Conditions: none.
-/
import Derived.Lib.Hide
namespace Go.Proofs.Ytmeadkllbjkjbaa
namespace Hp
/-- An item: its number, its key. -/
abbrev ItT := Nat × Nat
def lt (x y : ItT) : Prop := x.2 < y.2 ∨ (x.2 = y.2 ∧ x.1 < y.1)
theorem lt_irr (x : ItT) : ¬ lt x x := by unfold lt; omega
theorem lt_asym {x y : ItT} (h : lt x y) : ¬ lt y x := by unfold lt at *; omega
theorem le_trans {x y z : ItT} (h1 : ¬ lt y x) (h2 : ¬ lt z y) : ¬ lt z x := by unfold lt at *; omega
theorem lt_total {x y : ItT} (h1 : ¬ lt x y) (h2 : ¬ lt y x) : x = y := by
  unfold lt at h1 h2
  obtain ⟨a, b⟩ := x
  obtain ⟨c, d⟩ := y
  simp only at h1 h2
  have e1 : b = d := by omega
  have e2 : a = c := by omega
  rw [e1, e2]
def par (i : Nat) : Nat := (i - 1) / 2
theorem par_lt {i : Nat} (h : 0 < i) : par i < i := by unfold par; omega
theorem par_iff {i k : Nat} (h : 0 < i) : par i = k ↔ i = 2 * k + 1 ∨ i = 2 * k + 2 := by unfold par; omega
def sw (a : Nat → ItT) (i j x : Nat) : ItT := if x = i then a j else if x = j then a i else a x
section
variable {a : Nat → ItT} {n : Nat}
theorem sw_l (a : Nat → ItT) (i j : Nat) : sw a i j i = a j := by unfold sw; rw [if_pos rfl]
theorem sw_r (a : Nat → ItT) {i j : Nat} : sw a i j j = a i := by
  unfold sw
  by_cases e : j = i
  · rw [if_pos e, e]
  · rw [if_neg e, if_pos rfl]
theorem sw_o (a : Nat → ItT) {i j x : Nat} (h1 : x ≠ i) (h2 : x ≠ j) : sw a i j x = a x := by unfold sw; rw [if_neg h1, if_neg h2]
/-- In order, each place but the first one against its parent. -/
def Hp (a : Nat → ItT) (n : Nat) : Prop := ∀ i, 0 < i → i < n → ¬ lt (a i) (a (par i))
/-- But of one place, which may be less than its parent. -/
structure HpU (a : Nat → ItT) (n k : Nat) : Prop where
  o : ∀ i, 0 < i → i < n → i ≠ k → ¬ lt (a i) (a (par i))
  c : ∀ i, 0 < i → i < n → par i = k → 0 < k → ¬ lt (a i) (a (par k))
/-- But of one place, whose children may be less than it. -/
structure HpD (a : Nat → ItT) (n k : Nat) : Prop where
  o : ∀ i, 0 < i → i < n → par i ≠ k → ¬ lt (a i) (a (par i))
  c : ∀ i, 0 < i → i < n → par i = k → 0 < k → ¬ lt (a i) (a (par k))
theorem Hp.u (h : Hp a n) (k : Nat) : HpU a n k :=
  ⟨fun i h0 hi _ => h i h0 hi, fun i h0 hi hp hk => by
    have h1 := h i h0 hi
    rw [hp] at h1
    have hkn : k < n := by have := par_lt h0; omega
    exact le_trans (h k hk hkn) h1⟩
theorem Hp.d (h : Hp a n) (k : Nat) : HpD a n k := ⟨fun i h0 hi _ => h i h0 hi, (h.u k).c⟩
theorem up_done {k : Nat} (h : HpU a n k) (hk : k = 0 ∨ ¬ lt (a k) (a (par k))) : Hp a n := fun i h0 hi => by
  by_cases e : i = k
  · subst e
    rcases hk with hk | hk
    · omega
    · exact hk
  · exact h.o i h0 hi e
/-- One step up. -/
theorem up_step {k : Nat} (h : HpU a n k) (h0 : 0 < k) (hk : k < n) (hl : lt (a k) (a (par k))) : HpU (sw a k (par k)) n (par k) := by
  have hpk := par_lt h0
  have fix : ∀ x, x ≠ k → x ≠ par k → sw a k (par k) x = a x := fun x h1 h2 => sw_o a h1 h2
  have ek : sw a k (par k) k = a (par k) := sw_l a k (par k)
  have ep : sw a k (par k) (par k) = a k := sw_r a
  refine ⟨fun i hi0 hi hne => ?_, fun i hi0 hi hp hp0 => ?_⟩
  · by_cases e : i = k
    · subst e
      rw [ek, ep]
      exact lt_asym hl
    · rw [fix i e hne]
      by_cases e2 : par i = k
      · rw [e2, ek]
        exact h.c i hi0 hi e2 h0
      · by_cases e3 : par i = par k
        · rw [e3, ep]
          have h1 := h.o i hi0 hi e
          rw [e3] at h1
          exact le_trans (lt_asym hl) h1
        · rw [fix (par i) e2 e3]
          exact h.o i hi0 hi e
  · have hpp : par (par k) < par k := par_lt hp0
    have e4 : sw a k (par k) (par (par k)) = a (par (par k)) := fix _ (by omega) (by omega)
    rw [e4]
    have hpo := h.o (par k) hp0 (by omega) (by omega)
    by_cases e : i = k
    · subst e
      rw [ek]
      exact hpo
    · have hip := par_lt hi0
      rw [fix i e (by omega)]
      have h1 := h.o i hi0 hi e
      rw [hp] at h1
      exact le_trans hpo h1
/-- The last one is new. -/
theorem push_up {x : ItT} (h : Hp a n) : HpU (fun i => if i = n then x else a i) (n + 1) n := by
  refine ⟨fun i h0 hi hne => ?_, fun i h0 hi hp _ => ?_⟩
  · have := par_lt h0
    rw [if_neg hne, if_neg (by omega)]
    exact h i h0 (by omega)
  · have := par_lt h0
    omega
theorem down_done {k : Nat} (h : HpD a n k) (h1 : 2 * k + 1 < n → ¬ lt (a (2 * k + 1)) (a k)) (h2 : 2 * k + 2 < n → ¬ lt (a (2 * k + 2)) (a k)) : Hp a n := fun i h0 hi => by
  by_cases e : par i = k
  · rw [e]
    rcases (par_iff h0).1 e with rfl | rfl
    · exact h1 hi
    · exact h2 hi
  · exact h.o i h0 hi e
/-- One step down, to the lesser child. -/
theorem down_step {k c : Nat} (h : HpD a n k) (hc : c = 2 * k + 1 ∨ c = 2 * k + 2) (hcn : c < n) (hl : lt (a c) (a k)) (hb : ∀ i, 0 < i → i < n → par i = k → ¬ lt (a i) (a c)) : HpD (sw a k c) n c := by
  have c0 : 0 < c := by omega
  have pc : par c = k := (par_iff c0).2 hc
  have kc : k < c := by omega
  have ek : sw a k c k = a c := sw_l a k c
  have ec : sw a k c c = a k := sw_r a
  have fix : ∀ x, x ≠ k → x ≠ c → sw a k c x = a x := fun x h1 h2 => sw_o a h1 h2
  refine ⟨fun i hi0 hi hne => ?_, fun i hi0 hi hp _ => ?_⟩
  · by_cases e : i = c
    · subst e
      rw [ec, pc, ek]
      exact lt_asym hl
    · by_cases e2 : i = k
      · subst e2
        have hp := par_lt hi0
        rw [ek, fix (par i) (by omega) (by omega)]
        exact h.c c c0 hcn pc hi0
      · rw [fix i e2 e]
        by_cases e3 : par i = k
        · rw [e3, ek]
          exact hb i hi0 hi e3
        · rw [fix (par i) e3 hne]
          exact h.o i hi0 hi e3
  · rw [pc, ek]
    have hip := par_lt hi0
    rw [fix i (by omega) (by omega)]
    have h1 := h.o i hi0 hi (by omega)
    rw [hp] at h1
    exact h1
/-- The first one is the least. -/
theorem root_least (h : Hp a n) : ∀ i, i < n → ¬ lt (a i) (a 0) := by
  intro i
  induction i using Nat.strongRecOn with
  | ind i ih =>
    intro hi
    by_cases e : i = 0
    · subst e; exact lt_irr _
    · have hp := par_lt (show 0 < i by omega)
      exact le_trans (ih (par i) hp (by omega)) (h i (by omega) hi)

/-! ### What is in it -/
def In (a : Nat → ItT) (n : Nat) (x : ItT) : Prop := ∃ i, i < n ∧ a i = x
def Inj (a : Nat → ItT) (n : Nat) : Prop := ∀ i j, i < n → j < n → (a i).1 = (a j).1 → i = j
theorem in_sw {i j : Nat} (hi : i < n) (hj : j < n) (x : ItT) : In (sw a i j) n x ↔ In a n x := by
  constructor
  · rintro ⟨k, hk, e⟩
    by_cases h1 : k = i
    · subst h1; rw [sw_l] at e; exact ⟨j, hj, e⟩
    · by_cases h2 : k = j
      · subst h2; rw [sw_r] at e; exact ⟨i, hi, e⟩
      · rw [sw_o a h1 h2] at e; exact ⟨k, hk, e⟩
  · rintro ⟨k, hk, e⟩
    by_cases h1 : k = i
    · subst h1; exact ⟨j, hj, by rw [sw_r]; exact e⟩
    · by_cases h2 : k = j
      · subst h2; exact ⟨i, hi, by rw [sw_l]; exact e⟩
      · exact ⟨k, hk, by rw [sw_o a h1 h2]; exact e⟩
theorem inj_sw {i j : Nat} (h : Inj a n) (hi : i < n) (hj : j < n) : Inj (sw a i j) n := by
  have key : ∀ k, k < n → ∃ k', k' < n ∧ sw a i j k = a k' ∧ (k' = if k = i then j else if k = j then i else k) := fun k hk => by
    by_cases h1 : k = i
    · subst h1; exact ⟨j, hj, sw_l a k j, by rw [if_pos rfl]⟩
    · by_cases h2 : k = j
      · subst h2; exact ⟨i, hi, sw_r a, by rw [if_neg h1, if_pos rfl]⟩
      · exact ⟨k, hk, sw_o a h1 h2, by rw [if_neg h1, if_neg h2]⟩
  intro x y hx hy e
  obtain ⟨x', hx', e1, d1⟩ := key x hx
  obtain ⟨y', hy', e2, d2⟩ := key y hy
  rw [e1, e2] at e
  have := h x' y' hx' hy' e
  subst this
  rw [d1] at d2
  revert d2
  repeat' split
  all_goals omega
/-- A place that is emptied, the last one having been put there (if it isn't that). -/
theorem in_cut {k : Nat} (h : Inj a (n + 1)) (hk : k < n + 1) (x : ItT) : In (sw a k n) n x ↔ (In a (n + 1) x ∧ x ≠ a k) := by
  constructor
  · rintro ⟨i, hi, e⟩
    have h1 : In a (n + 1) x := (in_sw hk (by omega : n < n + 1) x).1 ⟨i, by omega, e⟩
    refine ⟨h1, fun e2 => ?_⟩
    have e3 : (sw a k n i).1 = (sw a k n n).1 := by rw [e, e2, sw_r]
    have := inj_sw h hk (by omega : n < n + 1) i n (by omega) (by omega) e3
    omega
  · rintro ⟨h1, hne⟩
    obtain ⟨i, hi, e⟩ := (in_sw hk (by omega : n < n + 1) x).2 h1
    by_cases e2 : i = n
    · subst e2; rw [sw_r] at e; exact absurd e.symm hne
    · exact ⟨i, by omega, e⟩
theorem inj_less (h : Inj a (n + 1)) : Inj a n := fun i j hi hj => h i j (by omega) (by omega)
/-- Where each number stands. -/
def Pos (a : Nat → ItT) (n : Nat) (p : Nat → Int) : Prop := (∀ i, i < n → p (a i).1 = i) ∧ ∀ d, (∀ i, i < n → (a i).1 ≠ d) → p d = -1
def upd (p : Nat → Int) (i : Nat) (v : Int) (j : Nat) : Int := if j = i then v else p j
theorem pos_sw {i j : Nat} {p : Nat → Int} (h : Pos a n p) (hinj : Inj a n) (hi : i < n) (hj : j < n) (hij : i ≠ j) : Pos (sw a i j) n (upd (upd p (a j).1 i) (a i).1 j) := by
  have hne : (a i).1 ≠ (a j).1 := fun e => hij (hinj i j hi hj e)
  refine ⟨fun k hk => ?_, fun d hd => ?_⟩
  · by_cases h1 : k = i
    · subst h1
      rw [sw_l]
      unfold upd
      rw [if_neg (fun e => hne e.symm), if_pos rfl]
    · by_cases h2 : k = j
      · subst h2
        rw [sw_r]
        unfold upd
        rw [if_pos rfl]
      · rw [sw_o a h1 h2]
        unfold upd
        rw [if_neg (fun e => h1 (hinj k i hk hi e)), if_neg (fun e => h2 (hinj k j hk hj e))]
        exact h.1 k hk
  · have hd1 : (a j).1 ≠ d := by have := hd i hi; rwa [sw_l] at this
    have hd2 : (a i).1 ≠ d := by have := hd j hj; rwa [sw_r] at this
    unfold upd
    rw [if_neg (fun e => hd2 e.symm), if_neg (fun e => hd1 e.symm)]
    refine h.2 d fun k hk => ?_
    by_cases h1 : k = i
    · subst h1; exact hd2
    · by_cases h2 : k = j
      · subst h2; exact hd1
      · have := hd k hk; rwa [sw_o a h1 h2] at this
end
end Hp
end Go.Proofs.Ytmeadkllbjkjbaa
