/-
  Plain: in which wheel, and in which slot of it, a timer of a time stands: the highest digit of three bits in which it isn't the wheel's time; what is earlier stands no later, and what stands behind a time's own slot stands there, too, when the wheel's time is that one. Conditions: times of 63 bits.
-/
import Derived.Test.YtddiapihopgpbaaWhMath
import Derived.Test.YtddiapihopgpbaaLz
namespace Go.Proofs.Ytddiapihopgpbaa
namespace Wh
/-- The digit. -/
def dg (t a : Nat) : Nat := (Lib.bitLen (a ^^^ t) - 1) / 3
/-- The slot within it. -/
def sl (t a : Nat) : Nat := a / 2 ^ (dg t a * 3) % 8
/-- Where a timer stands, all slots one behind the other. -/
def pl (t x : Nat) : Nat := dg t (max x t) * 8 + sl t (max x t)
theorem xor_div {a t k : Nat} : (a ^^^ t) / 2 ^ k = a / 2 ^ k ^^^ t / 2 ^ k := by
  rw [← Nat.shiftRight_eq_div_pow, ← Nat.shiftRight_eq_div_pow, ← Nat.shiftRight_eq_div_pow, Nat.shiftRight_xor_distrib]
theorem xor_zero {a t : Nat} : a ^^^ t = 0 ↔ a = t := by
  constructor
  · intro h
    have h2 : (a ^^^ t) ^^^ t = t := by rw [h, Nat.zero_xor]
    rwa [Nat.xor_assoc, Nat.xor_self, Nat.xor_zero] at h2
  · rintro rfl; exact Nat.xor_self a
theorem bits_same {a t k : Nat} (h : a ^^^ t < 2 ^ k) : a / 2 ^ k = t / 2 ^ k :=
  xor_zero.1 (by rw [← xor_div]; exact Nat.div_eq_of_lt h)
theorem bits_apart {a t k : Nat} (h : 2 ^ k ≤ a ^^^ t) : a / 2 ^ k ≠ t / 2 ^ k := fun e => by
  have := xor_zero.2 e
  rw [← xor_div] at this
  have h2 := Nat.div_pos h (Nat.two_pow_pos k)
  omega
theorem dg_char {t a : Nat} (ht : t < 2 ^ 63) (ha : a < 2 ^ 63) : a / 2 ^ ((dg t a + 1) * 3) = t / 2 ^ ((dg t a + 1) * 3) ∧ (dg t a = 0 ∨ a / 2 ^ (dg t a * 3) ≠ t / 2 ^ (dg t a * 3)) ∧ dg t a ≤ 20 := by
  have hx : a ^^^ t < 2 ^ 63 := Nat.xor_lt_two_pow ha ht
  by_cases h0 : a ^^^ t = 0
  · have e : a = t := xor_zero.1 h0
    subst e
    have : dg a a = 0 := by
      unfold dg
      rw [Nat.xor_self]
      decide +kernel
    rw [this]
    exact ⟨rfl, Or.inl rfl, by decide⟩
  · obtain ⟨b1, b2, b3, b4⟩ := len_bounds 63 (a ^^^ t) hx (by decide) h0
    have e : dg t a = (Lib.bitLen (a ^^^ t) - 1) / 3 := rfl
    generalize Lib.bitLen (a ^^^ t) = L at *
    generalize dg t a = d at *
    refine ⟨bits_same (Nat.lt_of_lt_of_le b2 (Nat.pow_le_pow_right (by decide) (by omega))), ?_, by omega⟩
    by_cases hd : d = 0
    · exact Or.inl hd
    · exact Or.inr (bits_apart (Nat.le_trans (Nat.pow_le_pow_right (by decide) (by omega)) b1))
theorem same_up {a t i j : Nat} (h : a / 2 ^ i = t / 2 ^ i) (hij : i ≤ j) : a / 2 ^ j = t / 2 ^ j := by
  obtain ⟨k, rfl⟩ : ∃ k, j = i + k := ⟨j - i, by omega⟩
  rw [Nat.pow_add, ← Nat.div_div_eq_div_mul, ← Nat.div_div_eq_div_mul, h]
theorem dg_le {t a d : Nat} (ht : t < 2 ^ 63) (ha : a < 2 ^ 63) (h : a / 2 ^ ((d + 1) * 3) = t / 2 ^ ((d + 1) * 3)) : dg t a ≤ d := by
  obtain ⟨_, h2, _⟩ := dg_char ht ha
  apply Classical.byContradiction
  intro hn
  rcases h2 with h2 | h2
  · omega
  · exact h2 (same_up h (by omega))
theorem dg_at {t a d : Nat} (ht : t < 2 ^ 63) (ha : a < 2 ^ 63) (h : a / 2 ^ ((d + 1) * 3) = t / 2 ^ ((d + 1) * 3)) (h2 : d = 0 ∨ a / 2 ^ (d * 3) ≠ t / 2 ^ (d * 3)) : dg t a = d := by
  have h3 := dg_le ht ha h
  obtain ⟨h1, _, _⟩ := dg_char ht ha
  rcases h2 with h2 | h2
  · omega
  · apply Classical.byContradiction
    intro hn
    exact h2 (same_up h1 (by omega))
theorem sl_lt (t a : Nat) : sl t a < 8 := Nat.mod_lt _ (by decide)
theorem pl_lt {t x : Nat} (ht : t < 2 ^ 63) (hx : x < 2 ^ 63) : pl t x < 168 := by
  unfold pl
  have h1 := (dg_char (a := max x t) ht (by omega)).2.2
  have h2 := sl_lt t (max x t)
  omega
theorem div8 (a d : Nat) : a / 2 ^ (d * 3) / 8 = a / 2 ^ ((d + 1) * 3) := by
  rw [show (d + 1) * 3 = d * 3 + 3 by omega, Nat.pow_add, ← Nat.div_div_eq_div_mul]
/-- What is earlier stands no later. -/
theorem pl_mono {t a b : Nat} (ht : t < 2 ^ 63) (hb : b < 2 ^ 63) (hab : max a t ≤ max b t) : pl t a ≤ pl t b := by
  unfold pl
  have ha2 : t ≤ max a t := Nat.le_max_right _ _
  have hb2 : max b t < 2 ^ 63 := by omega
  generalize max a t = x at *
  generalize max b t = y at *
  obtain ⟨h1, _, _⟩ := dg_char ht hb2
  have hx : x / 2 ^ ((dg t y + 1) * 3) = t / 2 ^ ((dg t y + 1) * 3) := by
    have l1 := Nat.div_le_div_right (c := 2 ^ ((dg t y + 1) * 3)) ha2
    have l2 := Nat.div_le_div_right (c := 2 ^ ((dg t y + 1) * 3)) hab
    omega
  have hd := dg_le ht (by omega) hx
  have s1 := sl_lt t x
  have s2 := sl_lt t y
  by_cases e : dg t x = dg t y
  · unfold sl at *
    rw [e] at *
    have l := Nat.div_le_div_right (c := 2 ^ (dg t y * 3)) hab
    have e1 := div8 x (dg t y)
    have e2 := div8 y (dg t y)
    rw [hx, ← h1] at e1
    omega
  · omega
/-- What stands behind stands later. -/
theorem pl_later {t x y : Nat} (ht : t < 2 ^ 63) (hx : x < 2 ^ 63) (h : pl t x < pl t y) : x < y := by
  apply Classical.byContradiction
  intro hn
  have := pl_mono (a := y) (b := x) ht hx (by omega)
  omega
/-- What stands behind a time's slot stays where it is when the wheel's time is that one. -/
theorem pl_stays {t u x : Nat} (ht : t < 2 ^ 63) (hu : u < 2 ^ 63) (hx : x < 2 ^ 63) (htu : t ≤ u) (h : pl t u < pl t x) : pl u x = pl t x := by
  have hux := pl_later ht hu h
  have e1 : max x t = x := by omega
  have e2 : max x u = x := by omega
  have e3 : max u t = u := by omega
  unfold pl at h ⊢
  rw [e1, e2]
  rw [e1, e3] at h
  obtain ⟨a1, a2, _⟩ := dg_char ht hx
  obtain ⟨b1, _, _⟩ := dg_char ht hu
  have s1 := sl_lt t x
  have s2 := sl_lt t u
  have hd : dg u x = dg t x := by
    by_cases e : dg t u = dg t x
    · refine dg_at hu hx ?_ (Or.inr (fun e2 => ?_))
      · rw [a1, ← e, b1]
      · unfold sl at h
        rw [e] at h
        rw [e2] at h
        omega
    · have hlt : dg t u < dg t x := by omega
      refine dg_at hu hx ?_ ?_
      · rw [a1, same_up b1 (by omega)]
      · rcases a2 with a2 | a2
        · omega
        · exact Or.inr (by rw [same_up b1 (by omega)]; exact a2)
  unfold sl
  rw [hd]
end Wh
end Go.Proofs.Ytddiapihopgpbaa
