/-
  Plain facts on natural numbers and their bits, which the proofs of layer 1 (word) use; no condition, no program in sight.
-/
import Derived.KernelRfl
namespace Go.Proofs.Ytdjglmfilhodlaa
namespace Nt

/-- The bit at a place, as a number. -/
def bitN (x i : Nat) : Nat := x / 2 ^ i % 2
theorem bitN_eq (x i : Nat) : bitN x i = (x.testBit i).toNat := (Nat.toNat_testBit x i).symm
theorem bitN_lt (x i : Nat) : bitN x i < 2 := Nat.mod_lt _ (by decide)

/-- One bit more of a number's lowest bits. -/
theorem low_succ (x i : Nat) : x % 2 ^ (i + 1) = x % 2 ^ i + bitN x i * 2 ^ i := by
  unfold bitN
  rw [Nat.mod_pow_succ, Nat.mul_comm]
theorem low_or (x i b : Nat) : (x % 2 ^ i) ||| (b * 2 ^ i) = x % 2 ^ i + b * 2 ^ i := by
  have h : x % 2 ^ i < 2 ^ i := Nat.mod_lt _ (Nat.two_pow_pos i)
  rw [Nat.or_comm, Nat.mul_comm b, ← Nat.two_pow_add_eq_or_of_lt h, Nat.add_comm]

def fieldN (w a n : Nat) : Nat := w / 2 ^ a % 2 ^ n
theorem fieldN_bit (w a n i : Nat) (h : i < n) : bitN (fieldN w a n) i = bitN w (a + i) := by
  rw [bitN_eq, bitN_eq]
  unfold fieldN
  rw [Nat.testBit_mod_two_pow, Nat.testBit_div_two_pow, Nat.add_comm i a]
  simp [h]
theorem fieldN_low (w a n : Nat) : fieldN w a n % 2 ^ n = fieldN w a n := by unfold fieldN; rw [Nat.mod_mod]
theorem fieldN_lt (w a n : Nat) (h : n ≤ 32) : fieldN w a n < 4294967296 := by
  have h1 : fieldN w a n < 2 ^ n := Nat.mod_lt _ (Nat.two_pow_pos n)
  have h2 : 2 ^ n ≤ 2 ^ 32 := Nat.pow_le_pow_right (by decide) h
  omega
theorem ones (n : Nat) (h : n ≤ 32) : 4294967295 / 2 ^ (32 - n) = 2 ^ n - 1 := by
  have : n ∈ List.range 33 := by simp; omega
  revert this
  revert n
  decide
theorem fieldN_code (w a n : Nat) (h : n ≤ 32) : w / 2 ^ a &&& 4294967295 / 2 ^ (32 - n) = fieldN w a n := by
  rw [ones n h, Nat.and_two_pow_sub_one_eq_mod]; rfl

def putN (w a n v : Nat) : Nat := (w % 2 ^ a) ||| (v % 2 ^ n * 2 ^ a) ||| (w / 2 ^ (a + n) * 2 ^ (a + n))
theorem putN_test (w a n v i : Nat) : (putN w a n v).testBit i = if i < a then w.testBit i else if i < a + n then v.testBit (i - a) else w.testBit i := by
  unfold putN
  simp only [Nat.testBit_or, Nat.testBit_mod_two_pow, Nat.testBit_mul_two_pow, Nat.testBit_div_two_pow]
  by_cases h1 : i < a
  · have h2 : ¬ a ≤ i := by omega
    have h3 : ¬ a + n ≤ i := by omega
    simp [h1, h2, h3]
  · by_cases h2 : i < a + n
    · have h3 : a ≤ i := by omega
      have h4 : i - a < n := by omega
      have h5 : ¬ a + n ≤ i := by omega
      simp [h1, h2, h3, h4, h5]
    · have h3 : a ≤ i := by omega
      have h4 : ¬ i - a < n := by omega
      have h5 : a + n ≤ i := by omega
      have h6 : i - (a + n) + (a + n) = i := by omega
      simp [h1, h2, h3, h4, h5, h6]
theorem lt_of_test (x : Nat) (h : ∀ i, 32 ≤ i → x.testBit i = false) : x < 4294967296 := Nat.lt_pow_two_of_testBit (n := 32) x h
theorem test_high (x i : Nat) (h : x < 4294967296) (hi : 32 ≤ i) : x.testBit i = false :=
  Nat.testBit_lt_two_pow (Nat.lt_of_lt_of_le h (Nat.pow_le_pow_right (n := 2) (by decide) hi))
theorem putN_lt (w a n v : Nat) (hw : w < 4294967296) (h : a + n ≤ 32) : putN w a n v < 4294967296 := by
  apply lt_of_test
  intro i hi
  rw [putN_test, if_neg (by omega), if_neg (by omega)]
  exact test_high w i hw hi
theorem putN_bit_in (w a n v i : Nat) (h1 : a ≤ i) (h2 : i < a + n) : bitN (putN w a n v) i = bitN v (i - a) := by
  rw [bitN_eq, bitN_eq, putN_test, if_neg (by omega), if_pos h2]
theorem putN_bit_out (w a n v i : Nat) (h : i < a ∨ a + n ≤ i) : bitN (putN w a n v) i = bitN w i := by
  rw [bitN_eq, bitN_eq, putN_test]
  rcases h with h | h
  · rw [if_pos h]
  · rw [if_neg (by omega), if_neg (by omega)]
theorem low_all (x : Nat) (h : x < 4294967296) : x % 2 ^ 32 = x := Nat.mod_eq_of_lt h
theorem putN_code (w a n v m : Nat) (hw : w < 4294967296) (h : a + n ≤ 32) (hm : m = 4294967295 / 2 ^ (32 - n) * 2 ^ a % 4294967296) :
    (w &&& (4294967295 - m)) ||| (v * 2 ^ a % 4294967296 &&& m) = putN w a n v := by
  have hm2 : m = (4294967295 / 2 ^ (32 - n) * 2 ^ a) % 2 ^ 32 := hm
  have hlt : m < 2 ^ 32 := by rw [hm2]; exact Nat.mod_lt _ (by decide)
  have hmt : ∀ i, m.testBit i = (decide (i < 32) && (decide (a ≤ i) && decide (i - a < n))) := by
    intro i
    rw [hm2, ones n (by omega), Nat.testBit_mod_two_pow, Nat.testBit_mul_two_pow, Nat.testBit_two_pow_sub_one]
  have hs : 4294967295 - m = 2 ^ 32 - (m + 1) := by omega
  have hv : v * 2 ^ a % 4294967296 = v * 2 ^ a % 2 ^ 32 := rfl
  apply Nat.eq_of_testBit_eq
  intro i
  rw [putN_test, hv, hs]
  simp only [Nat.testBit_or, Nat.testBit_and, Nat.testBit_two_pow_sub_succ hlt, hmt, Nat.testBit_mod_two_pow, Nat.testBit_mul_two_pow]
  by_cases h0 : i < 32
  · by_cases h1 : i < a
    · have h2 : ¬ a ≤ i := by omega
      simp [h0, h1, h2]
    · have h2 : a ≤ i := by omega
      by_cases h3 : i < a + n
      · have h4 : i - a < n := by omega
        simp [h0, h1, h2, h3, h4]
      · have h4 : ¬ i - a < n := by omega
        simp [h0, h1, h2, h3, h4]
  · have h1 : ¬ i < a := by omega
    have h2 : ¬ i < a + n := by omega
    simp [h0, h1, h2, test_high w i hw (by omega)]

def extN (v n : Nat) : Nat := if 2 ^ (n - 1) ≤ v % 2 ^ n then v % 2 ^ n + (4294967296 - 2 ^ n) else v % 2 ^ n
theorem half (n : Nat) (h : 1 ≤ n) : 2 ^ n = 2 * 2 ^ (n - 1) := by
  obtain ⟨k, rfl⟩ : ∃ k, n = k + 1 := ⟨n - 1, by omega⟩
  rw [Nat.pow_succ, Nat.mul_comm]; rfl
theorem top_bit (v n : Nat) (h : 1 ≤ n) : (2 ^ (n - 1) ≤ v % 2 ^ n) ↔ v.testBit (n - 1) = true := by
  obtain ⟨k, rfl⟩ : ∃ k, n = k + 1 := ⟨n - 1, by omega⟩
  have e := low_succ v k
  have l : v % 2 ^ k < 2 ^ k := Nat.mod_lt _ (Nat.two_pow_pos k)
  rw [bitN_eq] at e
  simp only [Nat.add_sub_cancel]
  cases hb : v.testBit k
  · rw [hb] at e; simp at e; simp; omega
  · rw [hb] at e; simp at e; simp; omega
theorem extN_lt (v n : Nat) (h2 : n ≤ 32) : extN v n < 4294967296 := by
  have h3 : 2 ^ n ≤ 2 ^ 32 := Nat.pow_le_pow_right (by decide) h2
  have h4 : v % 2 ^ n < 2 ^ n := Nat.mod_lt _ (Nat.two_pow_pos n)
  unfold extN
  split <;> omega
theorem extN_test (v n i : Nat) (h1 : 1 ≤ n) (h2 : n ≤ 32) (h3 : i < 32) : (extN v n).testBit i = v.testBit (min i (n - 1)) := by
  have p3 : 2 ^ n ≤ 2 ^ 32 := Nat.pow_le_pow_right (by decide) h2
  have p4 : v % 2 ^ n < 2 ^ n := Nat.mod_lt _ (Nat.two_pow_pos n)
  unfold extN
  by_cases ht : 2 ^ (n - 1) ≤ v % 2 ^ n
  · rw [if_pos ht]
    have hb := (top_bit v n h1).1 ht
    have e : v % 2 ^ n + (4294967296 - 2 ^ n) = ((2 ^ (32 - n) - 1) * 2 ^ n) ||| (v % 2 ^ n) := by
      rw [Nat.mul_comm, ← Nat.two_pow_add_eq_or_of_lt p4, Nat.mul_sub, ← Nat.pow_add, show n + (32 - n) = 32 from by omega]
      omega
    rw [e]
    simp only [Nat.testBit_or, Nat.testBit_mod_two_pow, Nat.testBit_mul_two_pow, Nat.testBit_two_pow_sub_one]
    by_cases h : i < n
    · have h5 : ¬ n ≤ i := by omega
      rw [Nat.min_eq_left (by omega)]
      simp [h, h5]
    · have h5 : n ≤ i := by omega
      have h6 : i - n < 32 - n := by omega
      rw [Nat.min_eq_right (by omega), hb]
      simp [h, h5, h6]
  · rw [if_neg ht]
    have hb : v.testBit (n - 1) = false := by
      have := mt (top_bit v n h1).2 ht
      simpa using this
    rw [Nat.testBit_mod_two_pow]
    by_cases h : i < n
    · rw [Nat.min_eq_left (by omega)]
      simp [h]
    · rw [Nat.min_eq_right (by omega), hb]
      simp [h]
theorem extN_bit (v n i : Nat) (h1 : 1 ≤ n) (h2 : n ≤ 32) (h3 : i < 32) : bitN (extN v n) i = bitN v (min i (n - 1)) := by
  rw [bitN_eq, bitN_eq, extN_test v n i h1 h2 h3]
end Nt
end Go.Proofs.Ytdjglmfilhodlaa
