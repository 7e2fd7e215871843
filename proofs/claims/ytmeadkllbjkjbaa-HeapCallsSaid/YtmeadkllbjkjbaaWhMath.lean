/-
  Plain: timers in order (the earlier one first, of one time the lesser number): one more, one less, those that are due, and what is left. Conditions: none.
-/
import Derived.Test.YtmeadkllbjkjbaaHpMath
namespace Go.Proofs.Ytmeadkllbjkjbaa
namespace Wh
open Hp (lt lt_irr lt_asym le_trans lt_total)
/-- A timer: its number, its time. -/
abbrev DuT := Nat × Nat
instance (x y : DuT) : Decidable (lt x y) := by unfold lt; exact inferInstance
theorem lt_trans {x y z : DuT} (h1 : lt x y) (h2 : lt y z) : lt x z := by unfold lt at *; omega
theorem lt_at {x y : DuT} (h : lt x y) : x.2 ≤ y.2 := by unfold lt at h; omega
def Srt (l : List DuT) : Prop := l.Pairwise lt
/-- No number twice. -/
def Uni (l : List DuT) : Prop := l.Pairwise (fun x y => x.1 ≠ y.1)
def ins (x : DuT) : List DuT → List DuT
  | [] => [x]
  | y :: l => if lt y x then y :: ins x l else x :: y :: l
/-- The place of a number. -/
def has (d : Nat) (l : List DuT) : Bool := l.any (fun x => x.1 == d)
def del (d : Nat) (l : List DuT) : List DuT := l.filter (fun x => x.1 != d)
/-- What is due by a time; what is left. -/
def out (t : Nat) (l : List DuT) : List DuT := l.filter (fun x => decide (x.2 ≤ t))
def rst (t : Nat) (l : List DuT) : List DuT := l.filter (fun x => !decide (x.2 ≤ t))
theorem mem_ins {x z : DuT} : ∀ {l : List DuT}, z ∈ ins x l ↔ z = x ∨ z ∈ l
  | [] => by simp [ins]
  | y :: l => by
    unfold ins
    split
    · rw [List.mem_cons, mem_ins (l := l), List.mem_cons]
      constructor
      · rintro (h | h | h)
        · exact Or.inr (Or.inl h)
        · exact Or.inl h
        · exact Or.inr (Or.inr h)
      · rintro (h | h | h)
        · exact Or.inr (Or.inl h)
        · exact Or.inl h
        · exact Or.inr (Or.inr h)
    · rw [List.mem_cons]
theorem len_ins (x : DuT) : ∀ (l : List DuT), (ins x l).length = l.length + 1
  | [] => rfl
  | y :: l => by
    unfold ins
    split
    · rw [List.length_cons, len_ins x l, List.length_cons]
    · simp
theorem srt_ins {x : DuT} : ∀ {l : List DuT}, Srt l → (∀ y ∈ l, y ≠ x) → Srt (ins x l)
  | [], _, _ => List.pairwise_singleton _ _
  | y :: l, h, hn => by
    have hp := List.pairwise_cons.1 h
    unfold ins
    split
    · rename_i e
      refine List.pairwise_cons.2 ⟨fun z hz => ?_, srt_ins hp.2 (fun z hz => hn z (by simp [hz]))⟩
      rcases mem_ins.1 hz with rfl | hz
      · exact e
      · exact hp.1 z hz
    · rename_i e
      have hxy : lt x y := by
        by_cases h2 : lt x y
        · exact h2
        · exact absurd (lt_total e h2) (hn y (by simp))
      refine List.pairwise_cons.2 ⟨fun z hz => ?_, h⟩
      rcases List.mem_cons.1 hz with rfl | hz
      · exact hxy
      · exact lt_trans hxy (hp.1 z hz)
theorem has_iff {d : Nat} {l : List DuT} : has d l = true ↔ ∃ x ∈ l, x.1 = d := by unfold has; simp
theorem uni_ins {x : DuT} {l : List DuT} (h : Uni l) (hn : has x.1 l = false) : Uni (ins x l) := by
  have hx : ∀ y ∈ l, y.1 ≠ x.1 := fun y hy e => by
    have := has_iff.2 ⟨y, hy, e⟩
    rw [hn] at this; cases this
  clear hn
  induction l with
  | nil => exact List.pairwise_singleton _ _
  | cons y l ih =>
    have hp := List.pairwise_cons.1 h
    unfold ins
    split
    · refine List.pairwise_cons.2 ⟨fun z hz => ?_, ih hp.2 (fun z hz => hx z (by simp [hz]))⟩
      rcases mem_ins.1 hz with rfl | hz
      · exact hx y (by simp)
      · exact hp.1 z hz
    · exact List.pairwise_cons.2 ⟨fun z hz => (hx z hz).symm, h⟩
theorem srt_filter {l : List DuT} (h : Srt l) (p : DuT → Bool) : Srt (l.filter p) := List.Pairwise.filter p h
theorem uni_filter {l : List DuT} (h : Uni l) (p : DuT → Bool) : Uni (l.filter p) := List.Pairwise.filter p h
theorem out_rst_len (t : Nat) : ∀ (l : List DuT), (out t l).length + (rst t l).length = l.length
  | [] => rfl
  | x :: l => by
    have ih := out_rst_len t l
    unfold out rst at *
    by_cases e : x.2 ≤ t
    · rw [List.filter_cons_of_pos (by simpa using e), List.filter_cons_of_neg (by simpa using e)]
      simp only [List.length_cons]; omega
    · rw [List.filter_cons_of_neg (by simpa using e), List.filter_cons_of_pos (by simpa using e)]
      simp only [List.length_cons]; omega
/-- In order what is due stands ahead. -/
theorem out_none {t : Nat} {l : List DuT} (h : ∀ x ∈ l, t < x.2) : out t l = [] ∧ rst t l = l := by
  unfold out rst
  refine ⟨List.filter_eq_nil_iff.2 fun x hx => by have := h x hx; simp; omega, List.filter_eq_self.2 fun x hx => by have := h x hx; simp; omega⟩
theorem split {t : Nat} : ∀ {l : List DuT}, Srt l → l = out t l ++ rst t l
  | [], _ => rfl
  | x :: l, h => by
    have hp := List.pairwise_cons.1 h
    by_cases e : x.2 ≤ t
    · have e1 : out t (x :: l) = x :: out t l := List.filter_cons_of_pos (by simpa using e)
      have e2 : rst t (x :: l) = rst t l := List.filter_cons_of_neg (by simpa using e)
      rw [e1, e2, List.cons_append, ← split hp.2]
    · have hall : ∀ y ∈ x :: l, t < y.2 := fun y hy => by
        rcases List.mem_cons.1 hy with rfl | hy
        · omega
        · have := lt_at (hp.1 y hy); omega
      rw [(out_none hall).1, (out_none hall).2]
      rfl
/-- A time gone to in two steps. -/
theorem two_steps {s t : Nat} (hst : s ≤ t) {l : List DuT} (h : Srt l) : out s l ++ out t (rst s l) = out t l ∧ rst t (rst s l) = rst t l := by
  have e1 : out t (out s l) = out s l := by
    unfold out
    rw [List.filter_filter]
    refine List.filter_congr fun x _ => ?_
    by_cases a : x.2 ≤ s
    · simp [a]; omega
    · simp [a]
  have e2 : rst t (out s l) = [] := by
    unfold rst out
    rw [List.filter_filter]
    refine List.filter_eq_nil_iff.2 fun x _ => ?_
    simp
    omega
  have hs := split (t := s) h
  constructor
  · have : out t l = out t (out s l) ++ out t (rst s l) := by
      conv => lhs; rw [hs]
      unfold out
      rw [List.filter_append]
    rw [this, e1]
  · have : rst t l = rst t (out s l) ++ rst t (rst s l) := by
      conv => lhs; rw [hs]
      unfold rst
      rw [List.filter_append]
    rw [this, e2, List.nil_append]
theorem again {s t : Nat} (hst : t ≤ s) (l : List DuT) : out t (rst s l) = [] ∧ rst t (rst s l) = rst s l :=
  out_none fun x hx => by
    unfold rst at hx
    have := (List.mem_filter.1 hx).2
    simp at this
    omega
/-- One more, and others taken out: in any order. -/
theorem ins_filter {x : DuT} (p : DuT → Bool) : ∀ {l : List DuT}, Srt l → (ins x l).filter p = if p x = true then ins x (l.filter p) else l.filter p
  | [], _ => by
    unfold ins
    by_cases e : p x = true
    · rw [if_pos e, List.filter_cons_of_pos e]; rfl
    · rw [if_neg e, List.filter_cons_of_neg e]
  | y :: l, h => by
    have hp := List.pairwise_cons.1 h
    have ih := ins_filter (x := x) p hp.2
    have e0 : ins x (y :: l) = if lt y x then y :: ins x l else x :: y :: l := rfl
    rw [e0]
    by_cases e : lt y x
    · rw [if_pos e]
      by_cases ey : p y = true
      · rw [List.filter_cons_of_pos ey, List.filter_cons_of_pos ey, ih]
        by_cases ex : p x = true
        · rw [if_pos ex, if_pos ex]
          show _ = if lt y x then y :: ins x (l.filter p) else x :: y :: l.filter p
          rw [if_pos e]
        · rw [if_neg ex, if_neg ex]
      · rw [List.filter_cons_of_neg ey, List.filter_cons_of_neg ey, ih]
    · rw [if_neg e]
      by_cases ex : p x = true
      · rw [if_pos ex, List.filter_cons_of_pos ex]
        have hf : ∀ z ∈ (y :: l).filter p, ¬ lt z x := fun z hz => by
          have hz := (List.mem_filter.1 hz).1
          rcases List.mem_cons.1 hz with rfl | hz
          · exact e
          · exact fun hzx => e (lt_trans (hp.1 z hz) hzx)
        cases hl : (y :: l).filter p with
        | nil => rfl
        | cons z k =>
          show _ = if lt z x then z :: ins x k else x :: z :: k
          rw [if_neg (hf z (by rw [hl]; simp))]
      · rw [if_neg ex, List.filter_cons_of_neg ex]
theorem del_ins {x : DuT} {d : Nat} {l : List DuT} (h : Srt l) : del d (ins x l) = if x.1 = d then del d l else ins x (del d l) := by
  unfold del
  rw [ins_filter _ h]
  by_cases e : x.1 = d
  · rw [if_pos e, if_neg (by simp [e])]
  · rw [if_neg e, if_pos (by simp [e])]
theorem has_ins {x : DuT} {d : Nat} {l : List DuT} : has d (ins x l) = (x.1 == d || has d l) := by
  rw [Bool.eq_iff_iff, Bool.or_eq_true, has_iff, has_iff]
  constructor
  · rintro ⟨y, hy, e⟩
    rcases mem_ins.1 hy with rfl | hy
    · exact Or.inl (by simpa using e)
    · exact Or.inr ⟨y, hy, e⟩
  · rintro (e | ⟨y, hy, e⟩)
    · exact ⟨x, mem_ins.2 (Or.inl rfl), by simpa using e⟩
    · exact ⟨y, mem_ins.2 (Or.inr hy), e⟩
theorem has_del {d c : Nat} {l : List DuT} : has c (del d l) = (has c l && c != d) := by
  rw [Bool.eq_iff_iff, Bool.and_eq_true, has_iff, has_iff]
  unfold del
  constructor
  · rintro ⟨y, hy, e⟩
    obtain ⟨a, b⟩ := List.mem_filter.1 hy
    exact ⟨⟨y, a, e⟩, by rw [← e]; exact b⟩
  · rintro ⟨⟨y, hy, e⟩, hc⟩
    exact ⟨y, List.mem_filter.2 ⟨hy, by rw [e]; exact hc⟩, e⟩
theorem out_del (t d : Nat) (l : List DuT) : out t (del d l) = del d (out t l) := by
  unfold out del
  rw [List.filter_filter, List.filter_filter]
  exact List.filter_congr fun x _ => by rw [Bool.and_comm]
theorem rst_del (t d : Nat) (l : List DuT) : rst t (del d l) = del d (rst t l) := by
  unfold rst del
  rw [List.filter_filter, List.filter_filter]
  exact List.filter_congr fun x _ => by rw [Bool.and_comm]
/-- How many of a row are a timer: one, if it is there. -/
theorem count_uni {x : DuT} : ∀ {l : List DuT}, Uni l → (l.filter (fun y => y == x)).length = if x ∈ l then 1 else 0
  | [], _ => by simp
  | y :: l, h => by
    have hp := List.pairwise_cons.1 h
    have ih := count_uni (x := x) hp.2
    by_cases e : y = x
    · subst e
      have hn : y ∉ l := fun hy => (hp.1 y hy) rfl
      rw [List.filter_cons_of_pos (by simp), List.length_cons, ih, if_neg hn, if_pos (by simp)]
    · have e2 : ¬ (y == x) = true := by simpa using e
      rw [List.filter_cons_of_neg (p := fun y => y == x) e2, ih]
      by_cases hx : x ∈ l
      · rw [if_pos hx, if_pos (by simp [hx])]
      · rw [if_neg hx, if_neg (by simp [hx, Ne.symm e])]
end Wh
end Go.Proofs.Ytmeadkllbjkjbaa
