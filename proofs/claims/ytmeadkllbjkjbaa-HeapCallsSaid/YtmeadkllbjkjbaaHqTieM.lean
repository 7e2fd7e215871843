/-
  Plain: a heap's items at the places from 1 on (what stands above place i stands at i / 2), one of which may be free; where each number stands; what one step up and one step down leave; what is put, turned and taken. Conditions: none.
-/
import Derived.Test.YtmeadkllbjkjbaaHqBase
namespace Go.Proofs.Ytmeadkllbjkjbaa
open Go.RowKit
namespace Hq
open Wh (Srt Uni ins del has mem_ins srt_ins uni_ins srt_filter uni_filter has_iff len_ins)
open Hp (lt lt_irr lt_asym le_trans lt_total)

def updF {α : Type} (f : Nat → α) (i : Nat) (x : α) (j : Nat) : α := if j = i then x else f j
theorem updF_at {α : Type} (f : Nat → α) (i : Nat) (x : α) : updF f i x i = x := if_pos rfl
theorem updF_ne {α : Type} (f : Nat → α) {i j : Nat} (x : α) (h : j ≠ i) : updF f i x j = f j := if_neg h
section
variable {a b : Nat → ItT} {n k p : Nat} {q : Nat → Nat} {it : ItT}
/-- In order: none ahead of the one above it. -/
def Ordr (a : Nat → ItT) (n : Nat) : Prop := ∀ i, 1 < i → i ≤ n → ¬ lt (a i) (a (i / 2))
/-- But for one place. -/
structure OrdX (a : Nat → ItT) (n k : Nat) : Prop where
  o : ∀ i, 1 < i → i ≤ n → i ≠ k → i / 2 ≠ k → ¬ lt (a i) (a (i / 2))
  c : ∀ i, 1 < i → i ≤ n → i / 2 = k → 1 < k → ¬ lt (a i) (a (k / 2))
/-- But for what stands below one place. -/
structure OrdD (a : Nat → ItT) (n k : Nat) : Prop where
  o : ∀ i, 1 < i → i ≤ n → i / 2 ≠ k → ¬ lt (a i) (a (i / 2))
  c : ∀ i, 1 < i → i ≤ n → i / 2 = k → 1 < k → ¬ lt (a i) (a (k / 2))
theorem Ordr.x (h : Ordr a n) (k : Nat) (x : ItT) : OrdX (updF a k x) n k := by
  refine ⟨fun i h1 hi hk hp => ?_, fun i h1 hi hp hk => ?_⟩
  · rw [updF_ne _ _ hk, updF_ne _ _ hp]
    exact h i h1 hi
  · rw [updF_ne _ _ (by omega), updF_ne _ _ (by omega)]
    have e1 := h i h1 hi
    rw [hp] at e1
    exact le_trans (h k hk (by omega)) e1
theorem Ordr.less (h : Ordr a n) {m : Nat} (hm : m ≤ n) : Ordr a m := fun i h1 hi => h i h1 (by omega)
theorem Ordr.push (h : Ordr a n) (x : ItT) : OrdX (updF a (n + 1) x) (n + 1) (n + 1) := by
  refine ⟨fun i h1 hi hk hp => ?_, fun i h1 hi hp hk => by omega⟩
  rw [updF_ne _ _ hk, updF_ne _ _ hp]
  exact h i h1 (by omega)
theorem OrdX.up (h : OrdX (updF b k it) n k) (hk : 1 < k) (hkn : k ≤ n) : OrdX (updF (updF b k (b (k / 2))) (k / 2) it) n (k / 2) := by
  refine ⟨fun i h1 hi hne hp => ?_, fun i h1 hi hp h1p => ?_⟩
  · have hik : i ≠ k := fun e => hp (by rw [e])
    rw [updF_ne _ _ hne, updF_ne _ _ hik, updF_ne _ _ hp]
    by_cases e : i / 2 = k
    · have := h.c i h1 hi e hk
      rw [updF_ne _ _ hik, updF_ne _ _ (by omega)] at this
      rw [e, updF_at]
      exact this
    · have := h.o i h1 hi hik e
      rw [updF_ne _ _ hik, updF_ne _ _ e] at this
      rw [updF_ne _ _ e]
      exact this
  · have e1 := h.o (k / 2) h1p (by omega) (by omega) (by omega)
    rw [updF_ne _ _ (by omega), updF_ne _ _ (by omega)] at e1
    rw [updF_ne _ _ (show k / 2 / 2 ≠ k / 2 by omega), updF_ne _ _ (show k / 2 / 2 ≠ k by omega), updF_ne _ _ (show i ≠ k / 2 by omega)]
    by_cases e : i = k
    · rw [e, updF_at]; exact e1
    · rw [updF_ne _ _ e]
      have e2 := h.o i h1 hi e (by omega)
      rw [updF_ne _ _ e, updF_ne _ _ (by omega), hp] at e2
      exact le_trans e1 e2
theorem OrdX.d (h : OrdX (updF b k it) n k) (hk : k ≤ 1 ∨ ¬ lt it (b (k / 2))) : OrdD (updF b k it) n k := by
  refine ⟨fun i h1 hi hp => ?_, h.c⟩
  by_cases e : i = k
  · subst e
    rw [updF_at, updF_ne _ _ (by omega)]
    rcases hk with hk | hk
    · omega
    · exact hk
  · exact h.o i h1 hi e hp
theorem OrdD.down {c : Nat} (h : OrdD (updF b k it) n k) (hk : 1 ≤ k) (hc : c / 2 = k) (hcn : c ≤ n) (hl : lt (b c) it) (hb : ∀ i, i / 2 = k → 1 < i → i ≤ n → ¬ lt (b i) (b c)) : OrdD (updF (updF b k (b c)) c it) n c := by
  refine ⟨fun i h1 hi hp => ?_, fun i h1 hi hp h1c => ?_⟩
  · by_cases e : i = c
    · subst e
      rw [updF_at, updF_ne _ _ (by omega), hc, updF_at]
      exact lt_asym hl
    · rw [updF_ne _ _ e, updF_ne _ _ hp]
      by_cases e2 : i = k
      · subst e2
        rw [updF_at, updF_ne _ _ (show i / 2 ≠ i by omega)]
        have := h.c c (by omega) hcn hc h1
        rw [updF_ne _ _ (show c ≠ i by omega), updF_ne _ _ (show i / 2 ≠ i by omega)] at this
        exact this
      · rw [updF_ne _ _ e2]
        by_cases e3 : i / 2 = k
        · rw [e3, updF_at]; exact hb i e3 h1 hi
        · have := h.o i h1 hi e3
          rw [updF_ne _ _ e2, updF_ne _ _ e3] at this
          rw [updF_ne _ _ e3]; exact this
  · rw [updF_ne _ _ (show i ≠ c by omega), updF_ne _ _ (show i ≠ k by omega), hc, updF_ne _ _ (show k ≠ c by omega), updF_at]
    have := h.o i h1 hi (by omega)
    rw [updF_ne _ _ (by omega), updF_ne _ _ (by omega), hp] at this
    exact this
/-- Which of those below a place is the first one; 0, if there are none. -/
def bel (a : Nat → ItT) (n k : Nat) : Nat := if n < 2 * k then 0 else if 2 * k + 1 ≤ n ∧ lt (a (2 * k + 1)) (a (2 * k)) then 2 * k + 1 else 2 * k
theorem bel_char (a : Nat → ItT) (n : Nat) {k : Nat} (hk : 1 ≤ k) : (bel a n k = 0 ∧ n < 2 * k) ∨ (1 < bel a n k ∧ bel a n k ≤ n ∧ bel a n k / 2 = k ∧ ∀ i, i / 2 = k → 1 < i → i ≤ n → ¬ lt (a i) (a (bel a n k))) := by
  unfold bel
  split
  · rename_i h; exact Or.inl ⟨rfl, h⟩
  · split
    · rename_i h1 h2
      refine Or.inr ⟨by omega, by omega, by omega, fun i hi h1' hin => ?_⟩
      have : i = 2 * k ∨ i = 2 * k + 1 := by omega
      rcases this with rfl | rfl
      · exact lt_asym h2.2
      · exact lt_irr _
    · rename_i h1 h2
      refine Or.inr ⟨by omega, by omega, by omega, fun i hi h1' hin => ?_⟩
      have : i = 2 * k ∨ i = 2 * k + 1 := by omega
      rcases this with rfl | rfl
      · exact lt_irr _
      · exact fun e => h2 ⟨hin, e⟩
theorem bel_congr {a' : Nat → ItT} (n : Nat) {k : Nat} (h : ∀ i, i / 2 = k → 1 < i → a i = a' i) (hk : 1 ≤ k) : bel a n k = bel a' n k := by
  unfold bel
  rw [h (2 * k) (by omega) (by omega), h (2 * k + 1) (by omega) (by omega)]
theorem OrdD.done (h : OrdD (updF b k it) n k) (hk : 1 ≤ k) (hd : bel b n k = 0 ∨ ¬ lt (b (bel b n k)) it) : Ordr (updF b k it) n := fun i h1 hi => by
  by_cases e : i / 2 = k
  · rcases bel_char b n hk with ⟨_, h2⟩ | ⟨h2, _, _, h3⟩
    · omega
    · rw [e, updF_at, updF_ne _ _ (by omega)]
      rcases hd with hd | hd
      · omega
      · exact le_trans hd (h3 i e h1 hi)
  · exact h.o i h1 hi e
/-- The first one is at the first place. -/
theorem Ordr.root (h : Ordr a n) : ∀ i, 1 ≤ i → i ≤ n → ¬ lt (a i) (a 1) := by
  intro i
  induction i using Nat.strongRecOn with
  | ind i ih =>
    intro h0 hi
    by_cases e : i = 1
    · subst e; exact lt_irr _
    · exact le_trans (ih (i / 2) (by omega) (by omega) (by omega)) (h i (by omega) hi)

/-! ### What is in it -/
def In (a : Nat → ItT) (n : Nat) (x : ItT) : Prop := ∃ i, 1 ≤ i ∧ i ≤ n ∧ a i = x
/-- Items at the places from 1 to n, none with another one's number; where each number stands; which they are. -/
structure Rl (a : Nat → ItT) (n : Nat) (q : Nat → Nat) (C : ItT → Prop) : Prop where
  inj : ∀ i j, 1 ≤ i → i ≤ n → 1 ≤ j → j ≤ n → (a i).1 = (a j).1 → i = j
  at_ : ∀ i, 1 ≤ i → i ≤ n → q (a i).1 = i
  none_ : ∀ d, (∀ i, 1 ≤ i → i ≤ n → (a i).1 ≠ d) → q d = 0
  mem : ∀ x, In a n x ↔ C x
variable {C : ItT → Prop}
theorem Rl.congr {C' : ItT → Prop} (h : Rl a n q C) (e : ∀ x, C x ↔ C' x) : Rl a n q C' := { h with mem := fun x => (h.mem x).trans (e x) }
/-- One goes from a place to the free one. -/
theorem Rl.move (h : Rl (updF b k it) n (updF q it.1 k) C) (hk1 : 1 ≤ k) (hkn : k ≤ n) (hp1 : 1 ≤ p) (hpn : p ≤ n) (hne : p ≠ k) : Rl (updF (updF b k (b p)) p it) n (updF (updF q (b p).1 k) it.1 p) C := by
  have ep : updF (updF b k (b p)) p it p = it := updF_at _ _ _
  have ek : updF (updF b k (b p)) p it k = b p := by rw [updF_ne _ _ (fun e => hne e.symm), updF_at]
  have eo : ∀ i, i ≠ p → i ≠ k → updF (updF b k (b p)) p it i = b i := fun i h1 h2 => by rw [updF_ne _ _ h1, updF_ne _ _ h2]
  have vk : updF b k it k = it := updF_at _ _ _
  have vo : ∀ i, i ≠ k → updF b k it i = b i := fun i h => updF_ne _ _ h
  have ids : ∀ i j, 1 ≤ i → i ≤ n → 1 ≤ j → j ≤ n → (updF (updF b k (b p)) p it i).1 = (updF (updF b k (b p)) p it j).1 → i = j := by
    have key : ∀ i, 1 ≤ i → i ≤ n → ∃ i', 1 ≤ i' ∧ i' ≤ n ∧ updF (updF b k (b p)) p it i = updF b k it i' ∧ i' = if i = p then k else if i = k then p else i := fun i h1 h2 => by
      by_cases e1 : i = p
      · subst e1; exact ⟨k, hk1, hkn, by rw [ep, vk], by rw [if_pos rfl]⟩
      · by_cases e2 : i = k
        · subst e2; exact ⟨p, hp1, hpn, by rw [ek, vo p hne], by rw [if_neg e1, if_pos rfl]⟩
        · exact ⟨i, h1, h2, by rw [eo i e1 e2, vo i e2], by rw [if_neg e1, if_neg e2]⟩
    intro i j i1 i2 j1 j2 e
    obtain ⟨i', i3, i4, e1, d1⟩ := key i i1 i2
    obtain ⟨j', j3, j4, e2, d2⟩ := key j j1 j2
    rw [e1, e2] at e
    have := h.inj i' j' i3 i4 j3 j4 e
    subst this
    rw [d1] at d2
    revert d2
    repeat' split
    all_goals omega
  have hpi : (b p).1 ≠ it.1 := fun e => hne (ids p k hp1 hpn hk1 hkn (by rw [ep, ek, e]) )
  refine ⟨ids, fun i h1 h2 => ?_, fun d hd => ?_, fun x => ?_⟩
  · by_cases e1 : i = p
    · subst e1; rw [ep, updF_at]
    · have hit : (updF (updF b k (b p)) p it i).1 ≠ it.1 := fun e => e1 (ids i p h1 h2 hp1 hpn (by rw [ep, e]))
      rw [updF_ne _ _ hit]
      by_cases e2 : i = k
      · subst e2; rw [ek, updF_at]
      · have hib : (updF (updF b k (b p)) p it i).1 ≠ (b p).1 := fun e => e2 (ids i k h1 h2 hk1 hkn (by rw [ek, e]))
        rw [updF_ne _ _ hib]
        have := h.at_ i h1 h2
        rw [eo i e1 e2] at hit ⊢
        rw [vo i e2, updF_ne _ _ hit] at this
        exact this
  · have d1 : d ≠ it.1 := fun e => hd p hp1 hpn (by rw [ep, e])
    have d2 : d ≠ (b p).1 := fun e => hd k hk1 hkn (by rw [ek, e])
    rw [updF_ne _ _ d1, updF_ne _ _ d2]
    have := h.none_ d (fun i h1 h2 => by
      by_cases e2 : i = k
      · subst e2; rw [vk]; exact fun e => d1 e.symm
      · rw [vo i e2]
        by_cases e1 : i = p
        · subst e1; exact fun e => d2 e.symm
        · have := hd i h1 h2; rwa [eo i e1 e2] at this)
    rwa [updF_ne _ _ d1] at this
  · rw [← h.mem x]
    constructor
    · rintro ⟨i, h1, h2, e⟩
      by_cases e1 : i = p
      · subst e1; exact ⟨k, hk1, hkn, by rw [vk, ← e, ep]⟩
      · by_cases e2 : i = k
        · subst e2; exact ⟨p, hp1, hpn, by rw [vo p hne, ← e, ek]⟩
        · exact ⟨i, h1, h2, by rw [vo i e2, ← e, eo i e1 e2]⟩
    · rintro ⟨i, h1, h2, e⟩
      by_cases e2 : i = k
      · subst e2; exact ⟨p, hp1, hpn, by rw [ep, ← e, vk]⟩
      · by_cases e1 : i = p
        · subst e1; exact ⟨k, hk1, hkn, by rw [ek, ← e, vo i e2]⟩
        · exact ⟨i, h1, h2, by rw [eo i e1 e2, ← e, vo i e2]⟩
/-- The last one is new. -/
theorem Rl.push (h : Rl a n q C) (x : ItT) (hx : ∀ y, C y → y.1 ≠ x.1) : Rl (updF a (n + 1) x) (n + 1) (updF q x.1 (n + 1)) (fun y => y = x ∨ C y) := by
  have el : updF a (n + 1) x (n + 1) = x := updF_at _ _ _
  have eo : ∀ i, i ≤ n → updF a (n + 1) x i = a i := fun i hi => updF_ne _ _ (by omega)
  have hax : ∀ i, 1 ≤ i → i ≤ n → (a i).1 ≠ x.1 := fun i h1 h2 => hx _ ((h.mem _).1 ⟨i, h1, h2, rfl⟩)
  refine ⟨fun i j i1 i2 j1 j2 e => ?_, fun i i1 i2 => ?_, fun d hd => ?_, fun y => ?_⟩
  · by_cases ei : i = n + 1
    · by_cases ej : j = n + 1
      · omega
      · rw [ei, el, eo j (by omega)] at e
        exact absurd e.symm (hax j j1 (by omega))
    · by_cases ej : j = n + 1
      · rw [ej, el, eo i (by omega)] at e
        exact absurd e (hax i i1 (by omega))
      · rw [eo i (by omega), eo j (by omega)] at e
        exact h.inj i j i1 (by omega) j1 (by omega) e
  · by_cases ei : i = n + 1
    · rw [ei, el, updF_at]
    · rw [eo i (by omega), updF_ne _ _ (hax i i1 (by omega))]
      exact h.at_ i i1 (by omega)
  · have d1 : d ≠ x.1 := fun e => hd (n + 1) (by omega) (by omega) (by rw [el, e])
    rw [updF_ne _ _ d1]
    exact h.none_ d (fun i i1 i2 => by have := hd i i1 (by omega); rwa [eo i i2] at this)
  · rw [← h.mem y]
    constructor
    · rintro ⟨i, i1, i2, e⟩
      by_cases ei : i = n + 1
      · rw [ei, el] at e; exact Or.inl e.symm
      · rw [eo i (by omega)] at e; exact Or.inr ⟨i, i1, by omega, e⟩
    · rintro (e | ⟨i, i1, i2, e⟩)
      · exact ⟨n + 1, by omega, by omega, by rw [el, e]⟩
      · exact ⟨i, i1, by omega, by rw [eo i i2, e]⟩
/-- One is turned. -/
theorem Rl.turn (h : Rl a n q C) (x : ItT) (hk1 : 1 ≤ k) (hkn : k ≤ n) (hx : x.1 = (a k).1) : Rl (updF a k x) n (updF q x.1 k) (fun y => y = x ∨ (C y ∧ y.1 ≠ x.1)) := by
  have ids : ∀ i, (updF a k x i).1 = (a i).1 := fun i => by
    by_cases e : i = k
    · rw [e, updF_at, hx]
    · rw [updF_ne _ _ e]
  have hq : updF q x.1 k = q := by
    funext d
    by_cases e : d = x.1
    · rw [e, updF_at, hx, h.at_ k hk1 hkn]
    · rw [updF_ne _ _ e]
  rw [hq]
  refine ⟨fun i j i1 i2 j1 j2 e => h.inj i j i1 i2 j1 j2 (by rw [← ids i, ← ids j, e]), fun i i1 i2 => by rw [ids]; exact h.at_ i i1 i2, fun d hd => h.none_ d (fun i i1 i2 => by rw [← ids i]; exact hd i i1 i2), fun y => ?_⟩
  rw [← h.mem y]
  constructor
  · rintro ⟨i, i1, i2, e⟩
    by_cases ei : i = k
    · rw [ei, updF_at] at e; exact Or.inl e.symm
    · rw [updF_ne _ _ ei] at e
      exact Or.inr ⟨⟨i, i1, i2, e⟩, fun e2 => ei (h.inj i k i1 i2 hk1 hkn (by rw [e, e2, hx]))⟩
  · rintro (e | ⟨⟨i, i1, i2, e⟩, hne⟩)
    · exact ⟨k, hk1, hkn, by rw [updF_at, e]⟩
    · have ei : i ≠ k := fun e2 => hne (by rw [← e, e2, hx])
      exact ⟨i, i1, i2, by rw [updF_ne _ _ ei, e]⟩
/-- The last one is gone. -/
theorem Rl.cut {m : Nat} (h : Rl a (m + 1) q C) : Rl a m (updF q (a (m + 1)).1 0) (fun y => C y ∧ y.1 ≠ (a (m + 1)).1) := by
  have hl : ∀ i, 1 ≤ i → i ≤ m → (a i).1 ≠ (a (m + 1)).1 := fun i i1 i2 e => by
    have := h.inj i (m + 1) i1 (by omega) (by omega) (by omega) e
    omega
  refine ⟨fun i j i1 i2 j1 j2 e => h.inj i j i1 (by omega) j1 (by omega) e, fun i i1 i2 => ?_, fun d hd => ?_, fun y => ?_⟩
  · rw [updF_ne _ _ (hl i i1 i2)]; exact h.at_ i i1 (by omega)
  · by_cases e : d = (a (m + 1)).1
    · rw [e, updF_at]
    · rw [updF_ne _ _ e]
      refine h.none_ d (fun i i1 i2 => ?_)
      by_cases ei : i = m + 1
      · rw [ei]; exact fun e2 => e e2.symm
      · exact hd i i1 (by omega)
  · rw [← h.mem y]
    constructor
    · rintro ⟨i, i1, i2, e⟩
      exact ⟨⟨i, i1, by omega, e⟩, by rw [← e]; exact hl i i1 i2⟩
    · rintro ⟨⟨i, i1, i2, e⟩, hne⟩
      have ei : i ≠ m + 1 := fun e2 => hne (by rw [← e, e2])
      exact ⟨i, i1, by omega, e⟩
/-- One is gone, and the last one is to go to its place. -/
theorem Rl.fill {m : Nat} (h : Rl a (m + 1) q C) (hk1 : 1 ≤ k) (hkm : k ≤ m) : Rl (updF a k (a (m + 1))) m (updF (updF q (a k).1 0) (a (m + 1)).1 k) (fun y => C y ∧ y.1 ≠ (a k).1) := by
  have vk : updF a k (a (m + 1)) k = a (m + 1) := updF_at _ _ _
  have vo : ∀ i, i ≠ k → updF a k (a (m + 1)) i = a i := fun i h => updF_ne _ _ h
  have hl : ∀ i, 1 ≤ i → i ≤ m → (a i).1 ≠ (a (m + 1)).1 := fun i i1 i2 e => by
    have := h.inj i (m + 1) i1 (by omega) (by omega) (by omega) e
    omega
  have hk : ∀ i, 1 ≤ i → i ≤ m + 1 → i ≠ k → (a i).1 ≠ (a k).1 := fun i i1 i2 hi e => hi (h.inj i k i1 i2 hk1 (by omega) e)
  refine ⟨fun i j i1 i2 j1 j2 e => ?_, fun i i1 i2 => ?_, fun d hd => ?_, fun y => ?_⟩
  · by_cases ei : i = k
    · by_cases ej : j = k
      · omega
      · rw [ei, vk, vo j ej] at e; exact absurd e.symm (hl j j1 j2)
    · by_cases ej : j = k
      · rw [ej, vk, vo i ei] at e; exact absurd e (hl i i1 i2)
      · rw [vo i ei, vo j ej] at e
        exact h.inj i j i1 (by omega) j1 (by omega) e
  · by_cases ei : i = k
    · rw [ei, vk, updF_at]
    · rw [vo i ei, updF_ne _ _ (hl i i1 i2), updF_ne _ _ (hk i i1 (by omega) ei)]
      exact h.at_ i i1 (by omega)
  · have d1 : d ≠ (a (m + 1)).1 := fun e => hd k hk1 hkm (by rw [vk, e])
    rw [updF_ne _ _ d1]
    by_cases e : d = (a k).1
    · rw [e, updF_at]
    · rw [updF_ne _ _ e]
      refine h.none_ d (fun i i1 i2 => ?_)
      by_cases el : i = m + 1
      · rw [el]; exact fun e2 => d1 e2.symm
      · by_cases ei : i = k
        · rw [ei]; exact fun e2 => e e2.symm
        · have := hd i i1 (by omega); rwa [vo i ei] at this
  · rw [← h.mem y]
    constructor
    · rintro ⟨i, i1, i2, e⟩
      by_cases ei : i = k
      · rw [ei, vk] at e
        exact ⟨⟨m + 1, by omega, by omega, e⟩, by rw [← e]; exact hk _ (by omega) (by omega) (by omega)⟩
      · rw [vo i ei] at e
        exact ⟨⟨i, i1, by omega, e⟩, by rw [← e]; exact hk i i1 (by omega) ei⟩
    · rintro ⟨⟨i, i1, i2, e⟩, hne⟩
      have ei : i ≠ k := fun e2 => hne (by rw [← e, e2])
      by_cases el : i = m + 1
      · exact ⟨k, hk1, hkm, by rw [vk, ← el, e]⟩
      · exact ⟨i, i1, by omega, by rw [vo i ei, e]⟩
end

/-! ### As a row in order -/
section
variable {a : Nat → ItT} {n : Nat} {q : Nat → Nat} {l : List ItT}
/-- The items as they stand. -/
def rowOf (a : Nat → ItT) (n : Nat) : List ItT := (List.range n).map (fun i => a (i + 1))
theorem mem_row {x : ItT} : x ∈ rowOf a n ↔ In a n x := by
  unfold rowOf
  rw [List.mem_map]
  constructor
  · rintro ⟨i, hi, e⟩
    have := List.mem_range.1 hi
    exact ⟨i + 1, by omega, by omega, e⟩
  · rintro ⟨i, h1, h2, e⟩
    exact ⟨i - 1, List.mem_range.2 (by omega), by rw [show i - 1 + 1 = i by omega, e]⟩
theorem nodup_uni {l : List ItT} (h : Uni l) : l.Nodup := h.imp (fun {a b} hab e => hab (by rw [e]))
theorem Rl.perm (h : Rl a n q (· ∈ l)) (hu : Uni l) : (rowOf a n).Perm l := by
  have hn : (rowOf a n).Nodup := by
    unfold rowOf List.Nodup
    rw [List.pairwise_map]
    refine List.Pairwise.imp_of_mem ?_ List.pairwise_lt_range
    intro i j hi hj hij e
    have h1 := List.mem_range.1 hi
    have h2 := List.mem_range.1 hj
    have := h.inj (i + 1) (j + 1) (by omega) (by omega) (by omega) (by omega) (by rw [e])
    omega
  exact (List.perm_ext_iff_of_nodup hn (nodup_uni hu)).2 (fun x => by rw [mem_row, h.mem])
theorem Rl.len (h : Rl a n q (· ∈ l)) (hu : Uni l) : n = l.length := by
  have := (h.perm hu).length_eq
  unfold rowOf at this
  simpa using this
theorem find_uni : ∀ {l : List ItT} {x : ItT}, Uni l → x ∈ l → l.find? (fun y => y.1 == x.1) = some x
  | y :: l, x, hu, hx => by
    have hp := List.pairwise_cons.1 hu
    by_cases e : y.1 = x.1
    · rcases List.mem_cons.1 hx with rfl | hx
      · simp
      · exact absurd e (hp.1 x hx)
    · rw [List.find?_cons_of_neg (by simpa using e)]
      rcases List.mem_cons.1 hx with rfl | hx
      · exact absurd rfl e
      · exact find_uni hp.2 hx
/-- Where a number stands. -/
theorem Rl.spot (h : Rl a n q (· ∈ l)) (hu : Uni l) (d : Nat) : (q d = 0 ∧ has d l = false ∧ l.find? (fun y => y.1 == d) = none) ∨ (1 ≤ q d ∧ q d ≤ n ∧ (a (q d)).1 = d ∧ has d l = true ∧ a (q d) ∈ l ∧ l.find? (fun y => y.1 == d) = some (a (q d))) := by
  by_cases e : ∃ i, 1 ≤ i ∧ i ≤ n ∧ (a i).1 = d
  · obtain ⟨i, h1, h2, rfl⟩ := e
    have hq := h.at_ i h1 h2
    have hm : a i ∈ l := (h.mem _).1 ⟨i, h1, h2, rfl⟩
    rw [hq]
    exact Or.inr ⟨h1, h2, rfl, has_iff.2 ⟨_, hm, rfl⟩, hm, find_uni hu hm⟩
  · have hno : ∀ x ∈ l, x.1 ≠ d := fun x hx ex => by
      obtain ⟨i, h1, h2, e2⟩ := (h.mem x).2 hx
      exact e ⟨i, h1, h2, by rw [e2, ex]⟩
    refine Or.inl ⟨h.none_ d (fun i h1 h2 ex => e ⟨i, h1, h2, ex⟩), ?_, ?_⟩
    · cases hh : has d l with
      | false => rfl
      | true => obtain ⟨x, hx, ex⟩ := has_iff.1 hh; exact absurd ex (hno x hx)
    · rw [List.find?_eq_none]
      intro x hx
      simpa using hno x hx
/-- The first in order stands at the first place. -/
theorem Rl.first {x : ItT} {r : List ItT} (h : Rl a n q (· ∈ x :: r)) (ho : Ordr a n) (hs : Srt (x :: r)) : 1 ≤ n ∧ a 1 = x := by
  obtain ⟨i, h1, h2, e⟩ := (h.mem x).2 (by simp)
  have h3 := ho.root i h1 h2
  rw [e] at h3
  refine ⟨by omega, ?_⟩
  have hm : a 1 ∈ x :: r := (h.mem _).1 ⟨1, by omega, by omega, rfl⟩
  rcases List.mem_cons.1 hm with hm | hm
  · exact hm
  · exact absurd ((List.pairwise_cons.1 hs).1 _ hm) h3
theorem Rl.nil (a : Nat → ItT) : Rl a 0 (fun _ => 0) (· ∈ ([] : List ItT)) :=
  ⟨fun i j h1 h2 => by omega, fun i h1 h2 => by omega, fun _ _ => rfl, fun x => ⟨fun ⟨i, h1, h2, _⟩ => by omega, fun h => by simp at h⟩⟩
theorem mem_del {d : Nat} {x : ItT} : x ∈ del d l ↔ (x ∈ l ∧ x.1 ≠ d) := by unfold del; rw [List.mem_filter]; simp
end
end Hq
end Go.Proofs.Ytmeadkllbjkjbaa
