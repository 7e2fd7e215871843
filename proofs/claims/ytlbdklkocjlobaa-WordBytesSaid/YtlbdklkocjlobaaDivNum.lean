/-
  Plain facts on whole numbers: the long division of two digits by one, as math/bits.Div64 does it; conditions: the divisor's highest bit is set, the quotient has one digit.
-/
import Derived.KernelRfl
namespace Go.Proofs.Ytlbdklkocjlobaa
namespace Dv

/-- What holds at the head of a correcting loop: y1, y0: the divisor's digits; un, u: the dividend's; q: the guess; r: its rest by y1. -/
def Inv (y1 y0 un u q r : Int) : Prop :=
  0 ≤ q ∧ q ≤ 4294967297 ∧ 0 ≤ r ∧ r < 4294967296 ∧ q * y1 + r = un ∧ ∀ t, 0 ≤ t → t * (y1 * 4294967296 + y0) ≤ un * 4294967296 + u → t ≤ q
/-- What holds behind it: q is the digit. -/
def Fin (y1 y0 un u q : Int) : Prop :=
  0 ≤ q ∧ q < 4294967296 ∧ q * (y1 * 4294967296 + y0) ≤ un * 4294967296 + u ∧ un * 4294967296 + u < q * (y1 * 4294967296 + y0) + (y1 * 4294967296 + y0)
/-- The digits are digits. -/
structure Ok (y1 y0 un u : Int) : Prop where
  a : 2147483648 ≤ y1
  b : y1 < 4294967296
  c : 0 ≤ y0
  d : y0 < 4294967296
  e : 0 ≤ un
  f : un < y1 * 4294967296 + y0
  g : 0 ≤ u
  h : u < 4294967296

theorem split (q y1 y0 : Int) : q * (y1 * 4294967296 + y0) = q * y1 * 4294967296 + q * y0 := by
  rw [Int.mul_add, Int.mul_assoc]

theorem start {y1 y0 un u : Int} (o : Ok y1 y0 un u) : Inv y1 y0 un u (un / y1) (un - un / y1 * y1) := by
  obtain ⟨a, b, c, d, e, f, g, h⟩ := o
  have h1 : un / y1 * y1 ≤ un := Int.ediv_mul_le un (by omega)
  have h2 : un < (un / y1 + 1) * y1 := Int.lt_ediv_add_one_mul_self un (by omega)
  have h3 : 0 ≤ un / y1 := Int.ediv_nonneg e (by omega)
  rw [Int.add_mul] at h2
  refine ⟨h3, ?_, by omega, by omega, by omega, ?_⟩
  · have : un / y1 < 4294967298 := Int.ediv_lt_of_lt_mul (by omega) (by omega)
    omega
  · intro t ht hN
    rw [split] at hN
    refine (Int.le_ediv_iff_mul_le (by omega)).2 ?_
    have h4 : 0 ≤ t * y0 := Int.mul_nonneg ht c
    omega
theorem not_yet {y1 y0 un u q r : Int} (o : Ok y1 y0 un u) (i : Inv y1 y0 un u q r) (h : 4294967296 ≤ q ∨ 4294967296 * r + u < q * y0) :
    un * 4294967296 + u < q * (y1 * 4294967296 + y0) := by
  obtain ⟨a, b, c, d, e, f, g, hh⟩ := o
  obtain ⟨i1, i2, i3, i4, i5, i6⟩ := i
  rcases h with h | h
  · have h1 : 4294967296 * (y1 * 4294967296 + y0) ≤ q * (y1 * 4294967296 + y0) := Int.mul_le_mul_of_nonneg_right h (by omega)
    omega
  · rw [split]
    omega
theorem pos {y1 y0 un u q r : Int} (o : Ok y1 y0 un u) (i : Inv y1 y0 un u q r) (h : 4294967296 ≤ q ∨ 4294967296 * r + u < q * y0) : 1 ≤ q := by
  have h1 := not_yet o i h
  obtain ⟨a, b, c, d, e, f, g, hh⟩ := o
  obtain ⟨i1, i2, i3, i4, i5, i6⟩ := i
  rcases Int.lt_or_le 0 q with h2 | h2
  · omega
  · have : q = 0 := by omega
    subst this
    rw [Int.zero_mul] at h1
    omega
theorem less {y1 y0 un u q r : Int} (o : Ok y1 y0 un u) (i : Inv y1 y0 un u q r) (h : 4294967296 ≤ q ∨ 4294967296 * r + u < q * y0) (t : Int) (ht : 0 ≤ t)
    (hN : t * (y1 * 4294967296 + y0) ≤ un * 4294967296 + u) : t ≤ q - 1 := by
  have h1 := not_yet o i h
  have h2 := i.2.2.2.2.2 t ht hN
  rcases Int.lt_or_le t q with h3 | h3
  · omega
  · have : t = q := by omega
    subst this
    omega
theorem step {y1 y0 un u q r : Int} (o : Ok y1 y0 un u) (i : Inv y1 y0 un u q r) (h : 4294967296 ≤ q ∨ 4294967296 * r + u < q * y0) (hr : r + y1 < 4294967296) :
    Inv y1 y0 un u (q - 1) (r + y1) := by
  have h1 := pos o i h
  have h2 := less o i h
  obtain ⟨a, b, c, d, e, f, g, hh⟩ := o
  obtain ⟨i1, i2, i3, i4, i5, i6⟩ := i
  refine ⟨by omega, by omega, by omega, hr, ?_, h2⟩
  rw [Int.sub_mul, Int.one_mul]
  omega
theorem fin_lt {y1 y0 un u q : Int} (o : Ok y1 y0 un u) (h : q * (y1 * 4294967296 + y0) ≤ un * 4294967296 + u) : q < 4294967296 := by
  obtain ⟨a, b, c, d, e, f, g, hh⟩ := o
  rcases Int.lt_or_le q 4294967296 with h3 | h3
  · exact h3
  · have h1 : 4294967296 * (y1 * 4294967296 + y0) ≤ q * (y1 * 4294967296 + y0) := Int.mul_le_mul_of_nonneg_right h3 (by omega)
    omega
theorem broke {y1 y0 un u q r : Int} (o : Ok y1 y0 un u) (i : Inv y1 y0 un u q r) (h : 4294967296 ≤ q ∨ 4294967296 * r + u < q * y0) (hr : 4294967296 ≤ r + y1) :
    Fin y1 y0 un u (q - 1) := by
  have h1 := pos o i h
  have h2 := not_yet o i h
  have ok := o
  obtain ⟨a, b, c, d, e, f, g, hh⟩ := o
  obtain ⟨i1, i2, i3, i4, i5, i6⟩ := i
  have h3 : (q - 1) * y0 ≤ 4294967296 * y0 := Int.mul_le_mul_of_nonneg_right (by omega) c
  have h4 : (q - 1) * (y1 * 4294967296 + y0) ≤ un * 4294967296 + u := by
    rw [split, Int.sub_mul q 1 y1, Int.one_mul]
    omega
  refine ⟨by omega, fin_lt ok h4, h4, ?_⟩
  rw [Int.sub_mul, Int.one_mul]
  omega
theorem ends {y1 y0 un u q r : Int} (o : Ok y1 y0 un u) (i : Inv y1 y0 un u q r) (h : q * y0 ≤ 4294967296 * r + u) : Fin y1 y0 un u q := by
  have ok := o
  obtain ⟨a, b, c, d, e, f, g, hh⟩ := o
  obtain ⟨i1, i2, i3, i4, i5, i6⟩ := i
  have h4 : q * (y1 * 4294967296 + y0) ≤ un * 4294967296 + u := by rw [split]; omega
  refine ⟨i1, fin_lt ok h4, h4, ?_⟩
  rcases Int.lt_or_le (un * 4294967296 + u) ((q + 1) * (y1 * 4294967296 + y0)) with h5 | h5
  · rw [Int.add_mul, Int.one_mul] at h5
    exact h5
  · have := i6 (q + 1) (by omega) h5
    omega
/-- A quotient and a rest are one. -/
theorem uniq {n q y r : Int} (h : n = q * y + r) (h0 : 0 ≤ r) (h1 : r < y) : n / y = q ∧ n % y = r := by
  have hy : 0 < y := by omega
  have e1 : n / y = q := by
    rw [h, Int.add_comm, Int.add_mul_ediv_right _ _ (by omega), Int.ediv_eq_zero_of_lt h0 h1, Int.zero_add]
  refine ⟨e1, ?_⟩
  have e2 := Int.emod_add_mul_ediv n y
  rw [e1, Int.mul_comm] at e2
  omega
/-- The two digits together, the divisor and the dividend being shifted by P: h, l: the dividend's words; y: the divisor. -/
theorem whole {h l y P un32 u1 u0 q1 q0 y1 y0 : Int} (hP : 1 ≤ P) (hY : y * P = y1 * 4294967296 + y0) (hN : (h * 18446744073709551616 + l) * P = un32 * 18446744073709551616 + (u1 * 4294967296 + u0))
    (f1 : Fin y1 y0 un32 u1 q1) (f0 : Fin y1 y0 (un32 * 4294967296 + u1 - q1 * (y1 * 4294967296 + y0)) u0 q0) :
    (h * 18446744073709551616 + l) / y = q1 * 4294967296 + q0 ∧
    (h * 18446744073709551616 + l) % y = ((un32 * 4294967296 + u1 - q1 * (y1 * 4294967296 + y0)) * 4294967296 + u0 - q0 * (y1 * 4294967296 + y0)) / P := by
  obtain ⟨a1, a2, a3, a4⟩ := f1
  obtain ⟨b1, b2, b3, b4⟩ := f0
  rw [← hY] at *
  generalize hR : (un32 * 4294967296 + u1 - q1 * (y * P)) * 4294967296 + u0 - q0 * (y * P) = R at *
  have hR0 : 0 ≤ R := by omega
  have hR1 : R < y * P := by omega
  have e1 : (h * 18446744073709551616 + l) * P = (q1 * 4294967296 + q0) * (y * P) + R := by
    rw [hN, Int.add_mul, Int.mul_right_comm]
    omega
  have e2 : R = ((h * 18446744073709551616 + l) - (q1 * 4294967296 + q0) * y) * P := by
    rw [Int.sub_mul, e1, Int.mul_assoc]
    omega
  have e3 : R / P = (h * 18446744073709551616 + l) - (q1 * 4294967296 + q0) * y := by
    rw [e2]; exact Int.mul_ediv_cancel _ (by omega)
  have e4 : 0 ≤ R / P := Int.ediv_nonneg hR0 (by omega)
  have e5 : R / P < y := Int.ediv_lt_of_lt_mul (by omega) hR1
  have u := uniq (n := h * 18446744073709551616 + l) (q := q1 * 4294967296 + q0) (y := y) (r := R / P) (by rw [e3]; omega) e4 e5
  exact u
end Dv
end Go.Proofs.Ytlbdklkocjlobaa
