/-
  Plain facts of places: what is found behind a call, and what lasts. Conditions: none.
-/
import Derived.Test.YtcpadnedfnkieaaTlMath
namespace Go.Proofs.Ytcpadnedfnkieaa
namespace Tl

theorem named_sym (s t : SlotT) : named s.1 s.2.1 t = named t.1 t.2.1 s := by
  rw [Bool.eq_iff_iff, named_iff, named_iff]
  exact ⟨fun h => ⟨h.1.symm, h.2.symm⟩, fun h => ⟨h.1.symm, h.2.symm⟩⟩
theorem off_mem {g : SlotT → Bool} {t : SlotT} {ps : List (Option SlotT)} (h : some t ∈ ps.map (off g)) : some t ∈ ps ∧ g t = false := by
  obtain ⟨o, ho, he⟩ := List.mem_map.1 h
  cases o with
  | none => cases he
  | some s =>
    unfold off at he
    by_cases hg : g s = true
    · simp [hg] at he
    · simp [hg] at he
      subst he
      exact ⟨ho, by simpa using hg⟩
theorem fill_mem {ps : List (Option SlotT)} {next : Nat} {s t : SlotT} (hG : Good ps) (h : some t ∈ fillP next ps s) : t = s ∨ (some t ∈ ps ∧ named s.1 s.2.1 t = false) := by
  obtain ⟨j, hj⟩ := List.mem_iff_getElem?.1 h
  unfold fillP at hj
  cases hf : findP s.1 s.2.1 0 ps with
  | some x =>
    rw [hf] at hj
    obtain ⟨k, s0, hk, rfl, hn⟩ := findP_some hf
    simp only [Nat.zero_add, Int.toNat_natCast] at hj
    by_cases e : k = j
    · subst e
      rw [List.getElem?_set_self (List.getElem?_eq_some_iff.1 hk).1] at hj
      left
      injection hj with hj
      injection hj with hj
      exact hj.symm
    · rw [List.getElem?_set_ne e] at hj
      right
      refine ⟨List.mem_of_getElem? hj, ?_⟩
      rw [Bool.eq_false_iff]
      intro hc
      rw [named_iff] at hc hn
      exact e (hG.one k j s0 t hk hj (hn.1.trans hc.1.symm) (hn.2.trans hc.2.symm))
  | none =>
    rw [hf] at hj
    simp only at hj
    by_cases e : next = j
    · subst e
      have hl : next < ps.length := by simpa using (List.getElem?_eq_some_iff.1 hj).1
      rw [List.getElem?_set_self hl] at hj
      left
      injection hj with hj
      injection hj with hj
      exact hj.symm
    · rw [List.getElem?_set_ne e] at hj
      exact Or.inr ⟨List.mem_of_getElem? hj, findP_none hf j t hj⟩
theorem fill_has {ps : List (Option SlotT)} {next : Nat} (s : SlotT) (hn : next < ps.length) : some s ∈ fillP next ps s := by
  unfold fillP
  cases hf : findP s.1 s.2.1 0 ps with
  | some x =>
    obtain ⟨k, s0, hk, rfl, _⟩ := findP_some hf
    simp only [Nat.zero_add, Int.toNat_natCast]
    exact List.mem_of_getElem? (List.getElem?_set_self (List.getElem?_eq_some_iff.1 hk).1)
  | none => exact List.mem_of_getElem? (List.getElem?_set_self hn)
theorem find_fill {ps : List (Option SlotT)} {next : Nat} (s : SlotT) (hG : Good ps) (hn : next < ps.length) : (findP s.1 s.2.1 0 (fillP next ps s)).isSome = true ∧ ((findP s.1 s.2.1 0 (fillP next ps s)).getD zeroH).2 = s := by
  cases hf : findP s.1 s.2.1 0 (fillP next ps s) with
  | none =>
    obtain ⟨j, hj⟩ := List.mem_iff_getElem?.1 (fill_has s hn)
    have := findP_none hf j s hj
    rw [Bool.eq_false_iff] at this
    exact absurd (named_iff.2 ⟨rfl, rfl⟩) this
  | some x =>
    obtain ⟨k, t, hk, rfl, ht⟩ := findP_some hf
    refine ⟨rfl, ?_⟩
    rcases fill_mem hG (List.mem_of_getElem? hk) with h | ⟨_, h⟩
    · exact h
    · rw [ht] at h; cases h
theorem find_del (a b : Int) (ps : List (Option SlotT)) : (findP a b 0 (delP a b ps)).isSome = false := by
  cases hf : findP a b 0 (delP a b ps) with
  | none => rfl
  | some x =>
    obtain ⟨k, t, hk, rfl, ht⟩ := findP_some hf
    have := (off_mem (List.mem_of_getElem? hk)).2
    rw [ht] at this
    cases this
theorem mem_slots {s : SlotT} {ps : List (Option SlotT)} : s ∈ slots ps ↔ some s ∈ ps := by simp [slots]
theorem slots_len (ps : List (Option SlotT)) : (slots ps).length ≤ ps.length := List.length_filterMap_le _ _
theorem slots_off (g : SlotT → Bool) : ∀ (ps : List (Option SlotT)), slots (ps.map (off g)) = (slots ps).filter (fun s => !g s)
  | [] => rfl
  | none :: r => slots_off g r
  | some s :: r => by
    have ih := slots_off g r
    unfold slots at ih ⊢
    by_cases h : g s = true
    · simp [off, h, ih]
    · simp [off, h, ih]
/-- One call, as an entry's fate has it. -/
def fineStep (l : SlotT) (c : HeldT) (f : Bool) : Bool :=
  if c.1 = 0 then (if named l.1 l.2.1 c.2 then decide (c.2 = l) else f)
  else if c.1 = 1 then f && !named l.1 l.2.1 c.2
  else if c.1 = 2 then f && !decide (c.2.1 = l.1)
  else if c.1 = 3 then f && !decide (c.2.2.2.1 = l.2.2.1)
  else if c.1 = 4 then false else f
def fine (l : SlotT) (y : Nat → HeldT) : Nat → Bool
  | 0 => false
  | k + 1 => fineStep l (y k) (fine l y k)
/-- All entries are fine. -/
def Fine (ps : List (Option SlotT)) (y : Nat → HeldT) (i : Nat) : Prop := ∀ s, some s ∈ ps → fine s y i = true
theorem Fine.none (n : Nat) (y : Nat → HeldT) (i : Nat) : Fine (List.replicate n none) y i := fun s hs => by simp at hs
theorem Fine.fill {ps : List (Option SlotT)} {y : Nat → HeldT} {i next : Nat} (h : Fine ps y i) (hG : Good ps) (h0 : (y i).1 = 0) : Fine (fillP next ps (y i).2) y (i + 1) := fun t ht => by
  show fineStep t (y i) (fine t y i) = true
  unfold fineStep
  rw [if_pos h0]
  rcases fill_mem hG ht with rfl | ⟨h1, h2⟩
  · rw [if_pos (named_iff.2 ⟨rfl, rfl⟩)]; simp
  · rw [if_neg (by rw [← named_sym, h2]; decide)]; exact h t h1
theorem Fine.del {ps : List (Option SlotT)} {y : Nat → HeldT} {i : Nat} (h : Fine ps y i) (h0 : (y i).1 = 1) : Fine (delP (y i).2.1 (y i).2.2.1 ps) y (i + 1) := fun t ht => by
  obtain ⟨h1, h2⟩ := off_mem ht
  show fineStep t (y i) (fine t y i) = true
  unfold fineStep
  rw [if_neg (by omega), if_pos h0, h t h1, ← named_sym, h2]
  rfl
theorem Fine.all {ps : List (Option SlotT)} {y : Nat → HeldT} {i : Nat} (h : Fine ps y i) (h0 : (y i).1 = 2) : Fine (ps.map (off fun s => decide (s.1 = (y i).2.1))) y (i + 1) := fun t ht => by
  obtain ⟨h1, h2⟩ := off_mem ht
  show fineStep t (y i) (fine t y i) = true
  unfold fineStep
  rw [if_neg (by omega), if_neg (by omega), if_pos h0, h t h1]
  simp only [decide_eq_false_iff_not] at h2
  rw [decide_eq_false (Ne.symm h2)]
  rfl
theorem Fine.frame {ps : List (Option SlotT)} {y : Nat → HeldT} {i : Nat} (h : Fine ps y i) (h0 : (y i).1 = 3) : Fine (ps.map (off fun s => decide (s.2.2.1 = (y i).2.2.2.1))) y (i + 1) := fun t ht => by
  obtain ⟨h1, h2⟩ := off_mem ht
  show fineStep t (y i) (fine t y i) = true
  unfold fineStep
  rw [if_neg (by omega), if_neg (by omega), if_neg (by omega), if_pos h0, h t h1]
  simp only [decide_eq_false_iff_not] at h2
  rw [decide_eq_false (Ne.symm h2)]
  rfl
theorem Fine.more {ps : List (Option SlotT)} {y : Nat → HeldT} {i : Nat} (h : Fine ps y i) (h0 : (y i).1 ≠ 0) (h1 : (y i).1 ≠ 1) (h2 : (y i).1 ≠ 2) (h3 : (y i).1 ≠ 3) (h4 : (y i).1 ≠ 4) : Fine ps y (i + 1) := fun t ht => by
  show fineStep t (y i) (fine t y i) = true
  unfold fineStep
  rw [if_neg h0, if_neg h1, if_neg h2, if_neg h3, if_neg h4, h t ht]
end Tl
end Go.Proofs.Ytcpadnedfnkieaa
