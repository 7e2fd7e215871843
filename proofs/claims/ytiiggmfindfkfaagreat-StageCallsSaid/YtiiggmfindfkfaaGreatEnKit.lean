/-
  Plain facts on natural numbers and their bits, which the proofs of layer 1 (word) use; no condition, no program in sight.
  What word.Field and word.Put answer, at every argument; no condition but that each argument is of its Go type.
  What entry's Decode, Encode, Allows, Both, Inside, First, Second, Offset, PageOf and Join answer, at every argument; no condition but that each argument is of its Go type.
  What entry's Encode, Allows and Both and the document's own Encode, Decode and Allows answer, at every argument; no condition but that each argument is of its Go type.
  Two entries are told the same just if all their fields are; no condition.
  What the document's own Encode, Decode and Allows of entries answer, at every argument; no condition but that each argument is of its Go type.
  What entry's Encode and Both answer, at every argument; no condition but that each argument is of its Go type.
-/
import Derived.KernelRfl
import Derived.Test.YtiiggmfindfkfaaGreatRows
import Derived.WalkKit
import Derived.WalkSpells
import Derived.WalkLawsBesides
import Derived.Outline
import Derived.Deep.QuietTactic
import Derived.BigQuiet
import Derived.IntWalk
import Derived.Lib.Hide
import Derived.Laws.BitsAllLaws
import Derived.Below
import Derived.Lib.QuietBelow
import Derived.Deep.RegionHeld3
import Derived.Laws.StructEq
namespace Go.Proofs.YtiiggmfindfkfaaGreat
namespace Nt

/-- The bit at a place, as a number. -/
def bitN (x i : Nat) : Nat := x / 2 ^ i % 2
theorem bitN_eq (x i : Nat) : bitN x i = (x.testBit i).toNat := (Nat.toNat_testBit x i).symm
theorem bitN_lt (x i : Nat) : bitN x i < 2 := Nat.mod_lt _ (by decide)

/-- One bit more of a number's lowest bits. -/
theorem low_succ (x i : Nat) : x % 2 ^ (i + 1) = x % 2 ^ i + bitN x i * 2 ^ i := by
  unfold bitN
  rw [Nat.mod_pow_succ, Nat.mul_comm]
theorem low_or (x i b : Nat) : (x % 2 ^ i) ||| (b * 2 ^ i) = x % 2 ^ i + b * 2 ^ i := by
  have h : x % 2 ^ i < 2 ^ i := Nat.mod_lt _ (Nat.two_pow_pos i)
  rw [Nat.or_comm, Nat.mul_comm b, ← Nat.two_pow_add_eq_or_of_lt h, Nat.add_comm]

def fieldN (w a n : Nat) : Nat := w / 2 ^ a % 2 ^ n
theorem fieldN_bit (w a n i : Nat) (h : i < n) : bitN (fieldN w a n) i = bitN w (a + i) := by
  rw [bitN_eq, bitN_eq]
  unfold fieldN
  rw [Nat.testBit_mod_two_pow, Nat.testBit_div_two_pow, Nat.add_comm i a]
  simp [h]
theorem fieldN_low (w a n : Nat) : fieldN w a n % 2 ^ n = fieldN w a n := by unfold fieldN; rw [Nat.mod_mod]
theorem fieldN_lt (w a n : Nat) (h : n ≤ 32) : fieldN w a n < 4294967296 := by
  have h1 : fieldN w a n < 2 ^ n := Nat.mod_lt _ (Nat.two_pow_pos n)
  have h2 : 2 ^ n ≤ 2 ^ 32 := Nat.pow_le_pow_right (by decide) h
  omega
theorem ones (n : Nat) (h : n ≤ 32) : 4294967295 / 2 ^ (32 - n) = 2 ^ n - 1 := by
  have : n ∈ List.range 33 := by simp; omega
  revert this
  revert n
  decide
theorem fieldN_code (w a n : Nat) (h : n ≤ 32) : w / 2 ^ a &&& 4294967295 / 2 ^ (32 - n) = fieldN w a n := by
  rw [ones n h, Nat.and_two_pow_sub_one_eq_mod]; rfl

def putN (w a n v : Nat) : Nat := (w % 2 ^ a) ||| (v % 2 ^ n * 2 ^ a) ||| (w / 2 ^ (a + n) * 2 ^ (a + n))
theorem putN_test (w a n v i : Nat) : (putN w a n v).testBit i = if i < a then w.testBit i else if i < a + n then v.testBit (i - a) else w.testBit i := by
  unfold putN
  simp only [Nat.testBit_or, Nat.testBit_mod_two_pow, Nat.testBit_mul_two_pow, Nat.testBit_div_two_pow]
  by_cases h1 : i < a
  · have h2 : ¬ a ≤ i := by omega
    have h3 : ¬ a + n ≤ i := by omega
    simp [h1, h2, h3]
  · by_cases h2 : i < a + n
    · have h3 : a ≤ i := by omega
      have h4 : i - a < n := by omega
      have h5 : ¬ a + n ≤ i := by omega
      simp [h1, h2, h3, h4, h5]
    · have h3 : a ≤ i := by omega
      have h4 : ¬ i - a < n := by omega
      have h5 : a + n ≤ i := by omega
      have h6 : i - (a + n) + (a + n) = i := by omega
      simp [h1, h2, h3, h4, h5, h6]
theorem lt_of_test (x : Nat) (h : ∀ i, 32 ≤ i → x.testBit i = false) : x < 4294967296 := Nat.lt_pow_two_of_testBit (n := 32) x h
theorem test_high (x i : Nat) (h : x < 4294967296) (hi : 32 ≤ i) : x.testBit i = false :=
  Nat.testBit_lt_two_pow (Nat.lt_of_lt_of_le h (Nat.pow_le_pow_right (n := 2) (by decide) hi))
theorem putN_lt (w a n v : Nat) (hw : w < 4294967296) (h : a + n ≤ 32) : putN w a n v < 4294967296 := by
  apply lt_of_test
  intro i hi
  rw [putN_test, if_neg (by omega), if_neg (by omega)]
  exact test_high w i hw hi
theorem putN_bit_in (w a n v i : Nat) (h1 : a ≤ i) (h2 : i < a + n) : bitN (putN w a n v) i = bitN v (i - a) := by
  rw [bitN_eq, bitN_eq, putN_test, if_neg (by omega), if_pos h2]
theorem putN_bit_out (w a n v i : Nat) (h : i < a ∨ a + n ≤ i) : bitN (putN w a n v) i = bitN w i := by
  rw [bitN_eq, bitN_eq, putN_test]
  rcases h with h | h
  · rw [if_pos h]
  · rw [if_neg (by omega), if_neg (by omega)]
theorem low_all (x : Nat) (h : x < 4294967296) : x % 2 ^ 32 = x := Nat.mod_eq_of_lt h
theorem putN_code (w a n v m : Nat) (hw : w < 4294967296) (h : a + n ≤ 32) (hm : m = 4294967295 / 2 ^ (32 - n) * 2 ^ a % 4294967296) :
    (w &&& (4294967295 - m)) ||| (v * 2 ^ a % 4294967296 &&& m) = putN w a n v := by
  have hm2 : m = (4294967295 / 2 ^ (32 - n) * 2 ^ a) % 2 ^ 32 := hm
  have hlt : m < 2 ^ 32 := by rw [hm2]; exact Nat.mod_lt _ (by decide)
  have hmt : ∀ i, m.testBit i = (decide (i < 32) && (decide (a ≤ i) && decide (i - a < n))) := by
    intro i
    rw [hm2, ones n (by omega), Nat.testBit_mod_two_pow, Nat.testBit_mul_two_pow, Nat.testBit_two_pow_sub_one]
  have hs : 4294967295 - m = 2 ^ 32 - (m + 1) := by omega
  have hv : v * 2 ^ a % 4294967296 = v * 2 ^ a % 2 ^ 32 := rfl
  apply Nat.eq_of_testBit_eq
  intro i
  rw [putN_test, hv, hs]
  simp only [Nat.testBit_or, Nat.testBit_and, Nat.testBit_two_pow_sub_succ hlt, hmt, Nat.testBit_mod_two_pow, Nat.testBit_mul_two_pow]
  by_cases h0 : i < 32
  · by_cases h1 : i < a
    · have h2 : ¬ a ≤ i := by omega
      simp [h0, h1, h2]
    · have h2 : a ≤ i := by omega
      by_cases h3 : i < a + n
      · have h4 : i - a < n := by omega
        simp [h0, h1, h2, h3, h4]
      · have h4 : ¬ i - a < n := by omega
        simp [h0, h1, h2, h3, h4]
  · have h1 : ¬ i < a := by omega
    have h2 : ¬ i < a + n := by omega
    simp [h0, h1, h2, test_high w i hw (by omega)]

def extN (v n : Nat) : Nat := if 2 ^ (n - 1) ≤ v % 2 ^ n then v % 2 ^ n + (4294967296 - 2 ^ n) else v % 2 ^ n
theorem half (n : Nat) (h : 1 ≤ n) : 2 ^ n = 2 * 2 ^ (n - 1) := by
  obtain ⟨k, rfl⟩ : ∃ k, n = k + 1 := ⟨n - 1, by omega⟩
  rw [Nat.pow_succ, Nat.mul_comm]; rfl
theorem top_bit (v n : Nat) (h : 1 ≤ n) : (2 ^ (n - 1) ≤ v % 2 ^ n) ↔ v.testBit (n - 1) = true := by
  obtain ⟨k, rfl⟩ : ∃ k, n = k + 1 := ⟨n - 1, by omega⟩
  have e := low_succ v k
  have l : v % 2 ^ k < 2 ^ k := Nat.mod_lt _ (Nat.two_pow_pos k)
  rw [bitN_eq] at e
  simp only [Nat.add_sub_cancel]
  cases hb : v.testBit k
  · rw [hb] at e; simp at e; simp; omega
  · rw [hb] at e; simp at e; simp; omega
theorem extN_lt (v n : Nat) (h2 : n ≤ 32) : extN v n < 4294967296 := by
  have h3 : 2 ^ n ≤ 2 ^ 32 := Nat.pow_le_pow_right (by decide) h2
  have h4 : v % 2 ^ n < 2 ^ n := Nat.mod_lt _ (Nat.two_pow_pos n)
  unfold extN
  split <;> omega
theorem extN_test (v n i : Nat) (h1 : 1 ≤ n) (h2 : n ≤ 32) (h3 : i < 32) : (extN v n).testBit i = v.testBit (min i (n - 1)) := by
  have p3 : 2 ^ n ≤ 2 ^ 32 := Nat.pow_le_pow_right (by decide) h2
  have p4 : v % 2 ^ n < 2 ^ n := Nat.mod_lt _ (Nat.two_pow_pos n)
  unfold extN
  by_cases ht : 2 ^ (n - 1) ≤ v % 2 ^ n
  · rw [if_pos ht]
    have hb := (top_bit v n h1).1 ht
    have e : v % 2 ^ n + (4294967296 - 2 ^ n) = ((2 ^ (32 - n) - 1) * 2 ^ n) ||| (v % 2 ^ n) := by
      rw [Nat.mul_comm, ← Nat.two_pow_add_eq_or_of_lt p4, Nat.mul_sub, ← Nat.pow_add, show n + (32 - n) = 32 from by omega]
      omega
    rw [e]
    simp only [Nat.testBit_or, Nat.testBit_mod_two_pow, Nat.testBit_mul_two_pow, Nat.testBit_two_pow_sub_one]
    by_cases h : i < n
    · have h5 : ¬ n ≤ i := by omega
      rw [Nat.min_eq_left (by omega)]
      simp [h, h5]
    · have h5 : n ≤ i := by omega
      have h6 : i - n < 32 - n := by omega
      rw [Nat.min_eq_right (by omega), hb]
      simp [h, h5, h6]
  · rw [if_neg ht]
    have hb : v.testBit (n - 1) = false := by
      have := mt (top_bit v n h1).2 ht
      simpa using this
    rw [Nat.testBit_mod_two_pow]
    by_cases h : i < n
    · rw [Nat.min_eq_left (by omega)]
      simp [h]
    · rw [Nat.min_eq_right (by omega), hb]
      simp [h]
theorem extN_bit (v n i : Nat) (h1 : 1 ≤ n) (h2 : n ≤ 32) (h3 : i < 32) : bitN (extN v n) i = bitN v (min i (n - 1)) := by
  rw [bitN_eq, bitN_eq, extN_test v n i h1 h2 h3]
end Nt
end Go.Proofs.YtiiggmfindfkfaaGreat
namespace Go.Proofs.YtiiggmfindfkfaaGreat
open Go.RowKit Nt

/-- Is there a field of n bits at a? -/
def Fits (a n : Int) : Prop := 1 ≤ n ∧ n ≤ 32 ∧ 0 ≤ a ∧ a ≤ 32 - n
instance (a n : Int) : Decidable (Fits a n) := by unfold Fits; infer_instance

theorem hasField_yes (a n : Int) (w : World) (h1 : 1 ≤ n) (h2 : n ≤ 32) (h3 : 0 ≤ a) (h4 : a ≤ 32 - n) :
    Calls Tryz.prog 106 #[.int .i64 a, .int .i64 n] w fun e w' => e = .returned (.bool true) ∧ w = w' := by
  have h5 : decide (a ≤ 32 - n) = true := by simp; omega
  go_enter Tryz.func106, Tryz.ntmps106
  go_wp2
  go_ret
  exact ⟨rfl, rfl⟩
theorem hasField_no (a n : Int) (w : World) (h : ¬ Fits a n) :
    Calls Tryz.prog 106 #[.int .i64 a, .int .i64 n] w fun e w' => e = .returned (.bool false) ∧ w = w' := by
  unfold Fits at h
  by_cases h1 : 1 ≤ n
  · by_cases h2 : n ≤ 32
    · by_cases h3 : 0 ≤ a
      · have h4 : ¬ a ≤ 32 - n := by omega
        have h5 : decide (a ≤ 32 - n) = false := by simpa using h4
        clear h
        go_enter Tryz.func106, Tryz.ntmps106
        go_wp2
        go_ret
        exact ⟨rfl, rfl⟩
      · have h5 : decide (0 ≤ a) = false := by simpa using h3
        clear h
        go_enter Tryz.func106, Tryz.ntmps106
        go_wp2
        go_ret
        exact ⟨rfl, rfl⟩
    · have h5 : decide (n ≤ 32) = false := by simpa using h2
      clear h
      go_enter Tryz.func106, Tryz.ntmps106
      go_wp2
      go_ret
      exact ⟨rfl, rfl⟩
  · have h5 : decide (1 ≤ n) = false := by simpa using h1
    clear h
    go_enter Tryz.func106, Tryz.ntmps106
    go_wp2
    go_ret
    exact ⟨rfl, rfl⟩
theorem lowest_any (n : Int) (w : World) (h1 : 1 ≤ n) (h2 : n ≤ 32) :
    Calls Tryz.prog 107 #[.int .i64 n] w fun e w' => e = .returned (.int .u32 (4294967295 / 2 ^ (32 - n).toNat)) ∧ w = w' := by
  go_enter Tryz.func107, Tryz.ntmps107
  go_wp2
  go_ret
  exact ⟨rfl, rfl⟩
theorem ret_u32 {a b : Int} (h : a = b) : Ending.returned (.int .u32 a) = .returned (.int .u32 b) := by rw [h]
theorem div_cast (v a : Nat) : (v : Int) / 2 ^ a = ((v / 2 ^ a : Nat) : Int) := by push_cast; rfl
theorem ones_cast (n : Nat) : (4294967295 : Int) / 2 ^ n = ((4294967295 / 2 ^ n : Nat) : Int) := div_cast 4294967295 n
theorem mul_cast (v a : Nat) : (v : Int) * 2 ^ a = ((v * 2 ^ a : Nat) : Int) := by push_cast; rfl
theorem div_lt (v a : Nat) (h : v < 4294967296) : v / 2 ^ a < 4294967296 := Nat.lt_of_le_of_lt (Nat.div_le_self _ _) h
theorem field_eq (v a n : Nat) (h0 : v < 4294967296) (h2 : n ≤ 32) : bits .and .u32 ((v : Int) / 2 ^ a) (4294967295 / 2 ^ (32 - n)) = ((fieldN v a n : Nat) : Int) := by
  rw [div_cast, ones_cast, u32_and_nat _ _ (div_lt v a h0) (div_lt _ _ (by decide)), fieldN_code v a n h2]
theorem field_yes (v a n : Nat) (w : World) (h0 : v < 4294967296) (h1 : 1 ≤ n) (h2 : n ≤ 32) (h4 : a ≤ 32 - n) :
    Calls Tryz.prog 90 #[.int .u32 v, .int .i64 a, .int .i64 n] w fun e w' => e = .returned (.int .u32 (fieldN v a n : Nat)) ∧ ∃ k, w' = w.drewN k := by
  go_enter Tryz.func90, Tryz.ntmps90
  go_wp2_with (go_at_call 106; refine (hasField_yes _ _ _ (by omega) (by omega) (by omega) (by omega)).mono ?_; rintro e w' ⟨rfl, rfl⟩)
  go_quiet ((go_at_call 107; exact Calls.quiet_of_same ((lowest_any _ _ (by omega) (by omega)).mono fun _ _ ⟨h, h'⟩ => ⟨h, h'.symm⟩)))
  go_wp2
  go_ret
  exact ⟨ret_u32 (field_eq v a n h0 h2), _, rfl⟩
theorem field_no (v a n : Int) (w : World) (h : ¬ Fits a n) :
    Calls Tryz.prog 90 #[.int .u32 v, .int .i64 a, .int .i64 n] w fun e w' => e = .returned (.int .u32 0) ∧ w = w' := by
  go_enter Tryz.func90, Tryz.ntmps90
  go_wp2_with (go_at_call 106; refine (hasField_no _ _ _ h).mono ?_; rintro e w' ⟨rfl, rfl⟩)
  go_ret
  exact ⟨rfl, rfl⟩
/-- A field of a word, at every place and length. -/
def fieldI (v a n : Int) : Int := if Fits a n then ((fieldN v.toNat a.toNat n.toNat : Nat) : Int) else 0
theorem field_any (v a n : Int) (w : World) (h0 : 0 ≤ v) (h1 : v < 4294967296) :
    Calls Tryz.prog 90 #[.int .u32 v, .int .i64 a, .int .i64 n] w fun e w' => e = .returned (.int .u32 (fieldI v a n)) ∧ ∃ k, w' = w.drewN k := by
  unfold fieldI
  by_cases h : Fits a n
  · rw [if_pos h]
    obtain ⟨g1, g2, g3, g4⟩ := h
    obtain ⟨v, rfl⟩ := Int.eq_ofNat_of_zero_le h0
    obtain ⟨a, rfl⟩ := Int.eq_ofNat_of_zero_le g3
    obtain ⟨n, rfl⟩ := Int.eq_ofNat_of_zero_le (show 0 ≤ n by omega)
    simp only [Int.toNat_natCast]
    exact field_yes v a n w (by omega) (by omega) (by omega) (by omega)
  · rw [if_neg h]
    exact (field_no v a n w h).mono fun _ _ ⟨he, hw⟩ => ⟨he, 0, hw.symm⟩

/-! ### Put -/
theorem mod32_cast (x : Nat) : (x : Int) % 4294967296 = ((x % 4294967296 : Nat) : Int) := by omega
theorem put_eq (v a n x : Nat) (h0 : v < 4294967296) (h : a + n ≤ 32) :
    bits .or .u32 (bits .andNot .u32 v (4294967295 / 2 ^ (32 - n) * 2 ^ a % 4294967296)) (bits .and .u32 ((x : Int) * 2 ^ a % 4294967296) (4294967295 / 2 ^ (32 - n) * 2 ^ a % 4294967296)) = ((putN v a n x : Nat) : Int) := by
  rw [ones_cast, mul_cast, mul_cast, mod32_cast, mod32_cast]
  have hm : 4294967295 / 2 ^ (32 - n) * 2 ^ a % 4294967296 < 4294967296 := Nat.mod_lt _ (by decide)
  have hx : x * 2 ^ a % 4294967296 < 4294967296 := Nat.mod_lt _ (by decide)
  rw [u32_andNot_nat _ _ h0 hm, u32_and_nat _ _ hx hm,
    u32_or_nat _ _ (Nat.lt_of_le_of_lt Nat.and_le_left h0) (Nat.lt_of_le_of_lt Nat.and_le_left hx), putN_code v a n x _ h0 h rfl]
theorem put_yes (v a n x : Nat) (w : World) (h0 : v < 4294967296) (h1 : 1 ≤ n) (h2 : n ≤ 32) (h4 : a ≤ 32 - n) :
    Calls Tryz.prog 112 #[.int .u32 v, .int .i64 a, .int .i64 n, .int .u32 x] w fun e w' => e = .returned (.int .u32 (putN v a n x : Nat)) ∧ w = w' := by
  go_enter Tryz.func112, Tryz.ntmps112
  go_wp2_with (first | (go_at_call 106; refine (hasField_yes _ _ _ (by omega) (by omega) (by omega) (by omega)).mono ?_; rintro e w' ⟨rfl, rfl⟩) | (go_at_call 107; refine (lowest_any _ _ (by omega) (by omega)).mono ?_; rintro e w' ⟨rfl, rfl⟩))
  go_ret
  exact ⟨ret_u32 (put_eq v a n x h0 (by omega)), rfl⟩
theorem put_no (v a n x : Int) (w : World) (h : ¬ Fits a n) :
    Calls Tryz.prog 112 #[.int .u32 v, .int .i64 a, .int .i64 n, .int .u32 x] w fun e w' => e = .returned (.int .u32 v) ∧ w = w' := by
  go_enter Tryz.func112, Tryz.ntmps112
  go_wp2_with (go_at_call 106; refine (hasField_no _ _ _ h).mono ?_; rintro e w' ⟨rfl, rfl⟩)
  go_ret
  exact ⟨rfl, rfl⟩
/-- A word with a field, at every place and length. -/
def putI (v a n x : Int) : Int := if Fits a n then ((putN v.toNat a.toNat n.toNat x.toNat : Nat) : Int) else v
theorem put_any (v a n x : Int) (w : World) (h0 : 0 ≤ v) (h1 : v < 4294967296) (h2 : 0 ≤ x) :
    Calls Tryz.prog 112 #[.int .u32 v, .int .i64 a, .int .i64 n, .int .u32 x] w fun e w' => e = .returned (.int .u32 (putI v a n x)) ∧ w = w' := by
  unfold putI
  by_cases h : Fits a n
  · rw [if_pos h]
    obtain ⟨g1, g2, g3, g4⟩ := h
    obtain ⟨v, rfl⟩ := Int.eq_ofNat_of_zero_le h0
    obtain ⟨x, rfl⟩ := Int.eq_ofNat_of_zero_le h2
    obtain ⟨a, rfl⟩ := Int.eq_ofNat_of_zero_le g3
    obtain ⟨n, rfl⟩ := Int.eq_ofNat_of_zero_le (show 0 ≤ n by omega)
    simp only [Int.toNat_natCast]
    exact put_yes v a n x w (by omega) (by omega) (by omega) (by omega)
  · rw [if_neg h]
    exact put_no v a n x w h
end Go.Proofs.YtiiggmfindfkfaaGreat
namespace Go.Proofs.YtiiggmfindfkfaaGreat
open Go.RowKit Nt
namespace En

/-! ### Numbers -/
/-- A word's bit. -/
def bt (v : Int) (i : Nat) : Bool := v / 2 ^ i % 2 == 1
theorem fieldW (at' n : Nat) (v : Int) (r : Int) (w : World) (h0 : 0 ≤ v) (h1 : v < 4294967296) (hn : 1 ≤ n) (hn2 : at' + n ≤ 32) (hr : r = ((v.toNat / 2 ^ at' % 2 ^ n : Nat) : Int)) :
    Calls Tryz.prog 90 #[.int .u32 v, .int .i64 at', .int .i64 n] w fun e w' => e = .returned (.int .u32 r) ∧ ∃ k, w' = w.drewN k := by
  obtain ⟨v, rfl⟩ := Int.eq_ofNat_of_zero_le h0
  subst hr
  exact field_yes v at' n w (by omega) (by omega) (by omega) (by omega)

/-! ### The parts of an address -/
theorem first_any (v : Int) (w : World) (h0 : 0 ≤ v) (h1 : v < 4294967296) :
    Calls Tryz.prog 94 #[.int .u32 v] w fun e w' => e = .returned (.int .i64 (v / 16384 % 64)) ∧ ∃ k, w' = w.drewN k := by
  go_enter Tryz.func94, Tryz.ntmps94
  go_wp2_with fail
  refine (fieldW 14 6 v (v / 16384 % 64) _ h0 h1 (by omega) (by omega) (by omega)).mono ?_
  rintro e w1 ⟨rfl, k1, rfl⟩
  have g0 : 0 ≤ v / 16384 % 64 := by omega
  have g1 : v / 16384 % 64 < 64 := by omega
  go_wp2
  go_ret
  exact ⟨rfl, _, rfl⟩
theorem second_any (v : Int) (w : World) (h0 : 0 ≤ v) (h1 : v < 4294967296) :
    Calls Tryz.prog 95 #[.int .u32 v] w fun e w' => e = .returned (.int .i64 (v / 256 % 64)) ∧ ∃ k, w' = w.drewN k := by
  go_enter Tryz.func95, Tryz.ntmps95
  go_wp2_with fail
  refine (fieldW 8 6 v (v / 256 % 64) _ h0 h1 (by omega) (by omega) (by omega)).mono ?_
  rintro e w1 ⟨rfl, k1, rfl⟩
  have g0 : 0 ≤ v / 256 % 64 := by omega
  have g1 : v / 256 % 64 < 64 := by omega
  go_wp2
  go_ret
  exact ⟨rfl, _, rfl⟩
theorem inside_any (v : Int) (w : World) :
    Calls Tryz.prog 115 #[.int .u32 v] w fun e w' => e = .returned (.bool (decide (v < 1048576))) ∧ w = w' := by
  go_enter Tryz.func115, Tryz.ntmps115
  go_wp2
  go_ret
  exact ⟨rfl, rfl⟩
theorem join_yes (p o : Int) (w : World) (h0 : 0 ≤ p) (h1 : p < 4096) (h2 : 0 ≤ o) (h3 : o < 256) :
    Calls Tryz.prog 93 #[.int .i64 p, .int .i64 o] w fun e w' => e = .returned (.tuple #[.int .u32 (p * 256 + o), .bool true]) ∧ w = w' := by
  have e0 : decide (p < 0) = false := by simpa using h0
  have e1 : decide (4096 ≤ p) = false := by simpa using h1
  have e2 : decide (o < 0) = false := by simpa using h2
  have e3 : decide (256 ≤ o) = false := by simpa using h3
  have e4 : 0 ≤ p * 256 + o := by omega
  have e5 : p * 256 + o < 1048576 := by omega
  go_enter Tryz.func93, Tryz.ntmps93
  go_wp2
  go_ret2
  exact ⟨rfl, rfl⟩
theorem join_no (p o : Int) (w : World) (h : ¬ (0 ≤ p ∧ p < 4096 ∧ 0 ≤ o ∧ o < 256)) :
    Calls Tryz.prog 93 #[.int .i64 p, .int .i64 o] w fun e w' => e = .returned (.tuple #[.int .u32 0, .bool false]) ∧ w = w' := by
  by_cases h0 : p < 0
  · clear h
    go_enter Tryz.func93, Tryz.ntmps93
    go_wp2
    go_ret2
    exact ⟨rfl, rfl⟩
  have d0 : decide (p < 0) = false := by simpa using h0
  by_cases h1 : 4096 ≤ p
  · clear h
    go_enter Tryz.func93, Tryz.ntmps93
    go_wp2
    go_ret2
    exact ⟨rfl, rfl⟩
  have d1 : decide (4096 ≤ p) = false := by simpa using h1
  by_cases h2 : o < 0
  · clear h
    go_enter Tryz.func93, Tryz.ntmps93
    go_wp2
    go_ret2
    exact ⟨rfl, rfl⟩
  have d2 : decide (o < 0) = false := by simpa using h2
  have h3 : 256 ≤ o := by omega
  clear h
  go_enter Tryz.func93, Tryz.ntmps93
  go_wp2
  go_ret2
  exact ⟨rfl, rfl⟩
/-! ### Decode -/
theorem bit_any (b : Nat) (v : Int) (i : Nat) (w : World) (hc : w.cell? ⟨b, 0, none⟩ = some (.int .u32 v)) (h0 : 0 ≤ v) (h1 : v < 4294967296) (hi : i < 32) :
    Calls Tryz.prog 89 #[.int .i64 i, .pointer (some ⟨b, 0, none⟩)] w fun e w' => e = .returned (.bool (bt v i)) ∧ ∃ k, w' = w.drewN k := by
  obtain ⟨v, rfl⟩ := Int.eq_ofNat_of_zero_le h0
  go_enter Tryz.func89, Tryz.ntmps89
  go_wp2_with fail
  refine (field_yes v i 1 _ (by omega) (by omega) (by omega) (by omega)).mono ?_
  rintro e w1 ⟨rfl, k1, rfl⟩
  go_wp2
  go_ret
  refine ⟨congrArg (fun x => Ending.returned (.bool x)) ?_, _, rfl⟩
  unfold bt fieldN
  rw [Bool.eq_iff_iff]
  simp only [beq_iff_eq, div_cast]
  omega
theorem bit_at (b : Nat) (v : Int) (i : Nat) (I : Int) (w : World) (hc : w.cell? ⟨b, 0, none⟩ = some (.int .u32 v)) (h0 : 0 ≤ v) (h1 : v < 4294967296) (hI : I = i) (hi : i < 32) :
    Calls Tryz.prog 89 #[.int .i64 I, .pointer (some ⟨b, 0, none⟩)] w fun e w' => e = .returned (.bool (bt v i)) ∧ ∃ k, w' = w.drewN k := by
  subst hI
  exact bit_any b v i w hc h0 h1 hi
/-- A row of five is written. -/
theorem below5 {B b : Nat} {a w : World} (h : Below B a w) (hb : B ≤ b) (v0 v1 v2 v3 v4 : Value) :
    Below B a (((((w.setCell ⟨b, 0, none⟩ v0).setCell ⟨b, 1, none⟩ v1).setCell ⟨b, 2, none⟩ v2).setCell ⟨b, 3, none⟩ v3).setCell ⟨b, 4, none⟩ v4) :=
  ((((h.setCell hb _).setCell hb _).setCell hb _).setCell hb _).setCell hb _
set_option maxHeartbeats 1000000 in
theorem decode_no (v : Int) (w : World) (h0 : 0 ≤ v) (h1 : v < 4294967296) (h : v % 2 = 0) :
    Calls Tryz.prog 50 #[.int .u32 v] w fun e w' => e = .returned (.agg #[.bool false, .bool false, .bool false, .bool false, .int .i64 0]) ∧ Below w.heap.size w w' := by
  have e0 : bt v 0 = false := by unfold bt; simp; omega
  go_enter Tryz.func50, Tryz.ntmps50
  go_wp2_with (go_at_call 89; refine (bit_any _ v 0 _ (by simp) h0 h1 (by omega)).mono ?_; rintro e w1 ⟨rfl, k1, rfl⟩)
  refine bodyPost_ret (v := .agg #[.bool false, .bool false, .bool false, .bool false, .int .i64 0]) (by simp [results, Tryz.results50, go_sem]) rfl ⟨rfl, ?_⟩
  exact below5 (below_drewN (((Below.refl _ _).alloc (Nat.le_refl _) _).alloc (by simp) _) _) (by omega) _ _ _ _ _
set_option maxHeartbeats 1000000 in
theorem decode_yes (v : Int) (w : World) (h0 : 0 ≤ v) (h1 : v < 4294967296) (h : v % 2 = 1) :
    Calls Tryz.prog 50 #[.int .u32 v] w fun e w' => e = .returned (.agg #[.bool true, .bool (bt v 1), .bool (bt v 2), .bool (bt v 3), .int .i64 (v / 256 % 65536)]) ∧ Below w.heap.size w w' := by
  have e0 : bt v 0 = true := by unfold bt; simp; omega
  have z : IntKind.i64.wrap (v / 256 % 65536) = v / 256 % 65536 := IntWalk.i64_in _ (by omega)
  go_enter Tryz.func50, Tryz.ntmps50
  go_wp2_with (go_at_call 89; refine (bit_any _ v 0 _ (by simp) h0 h1 (by omega)).mono ?_; rintro e w1 ⟨rfl, k1, rfl⟩)
  go_region_held3 (fun w' => w'.cell? ⟨w.heap.size, 0, none⟩ = some (.int .u32 v)) (go_keep) (first
    | (go_at_call 89; with_reducible refine (bit_at _ v 1 1 _ (by simp) h0 h1 rfl (by omega)).mono ?_; rintro e w1 ⟨rfl, k2, rfl⟩)
    | (go_at_call 89; with_reducible refine (bit_at _ v 2 2 _ (by simp) h0 h1 rfl (by omega)).mono ?_; rintro e w1 ⟨rfl, k3, rfl⟩)
    | (go_at_call 89; with_reducible refine (bit_at _ v 3 3 _ (by simp) h0 h1 rfl (by omega)).mono ?_; rintro e w1 ⟨rfl, k4, rfl⟩)
    | (go_at_call 90; refine (fieldW 8 16 v (v / 256 % 65536) _ h0 h1 (by omega) (by omega) (by omega)).mono ?_; rintro e w1 ⟨rfl, k5, rfl⟩))
  clear z
  go_wp2
  refine bodyPost_ret (v := .agg #[.bool true, .bool (bt v 1), .bool (bt v 2), .bool (bt v 3), .int .i64 (v / 256 % 65536)]) (by simp [results, Tryz.results50, go_sem]) rfl ⟨rfl, ?_⟩
  exact below5 (below_drewN (((Below.refl _ _).alloc (Nat.le_refl _) _).alloc (by simp) _) _) (by omega) _ _ _ _ _
/-- The fields of a word's entry. -/
def dV (v : Int) : Bool := v % 2 == 1
def dW (v : Int) : Bool := v % 2 == 1 && v / 2 % 2 == 1
def dX (v : Int) : Bool := v % 2 == 1 && v / 4 % 2 == 1
def dB (v : Int) : Bool := v % 2 == 1 && v / 8 % 2 == 1
def dF (v : Int) : Int := if v % 2 = 1 then v / 256 % 65536 else 0
theorem decode_any (v : Int) (w : World) (h0 : 0 ≤ v) (h1 : v < 4294967296) :
    Calls Tryz.prog 50 #[.int .u32 v] w fun e w' => e = .returned (.agg #[.bool (dV v), .bool (dW v), .bool (dX v), .bool (dB v), .int .i64 (dF v)]) ∧ Below w.heap.size w w' := by
  by_cases h : v % 2 = 1
  · have e0 : (v % 2 == 1) = true := by simpa using h
    unfold dV dW dX dB dF
    rw [if_pos h]
    simp only [e0, Bool.true_and]
    exact decode_yes v w h0 h1 h
  · have e0 : (v % 2 == 1) = false := by simpa using h
    unfold dV dW dX dB dF
    rw [if_neg h]
    simp only [e0, Bool.false_and]
    exact decode_no v w h0 h1 (by omega)
end En
end Go.Proofs.YtiiggmfindfkfaaGreat
namespace Go.Proofs.YtiiggmfindfkfaaGreat
open Go.RowKit Nt
namespace En

/-- A bit as a number. -/
def b1 (b : Bool) : Int := if b then 1 else 0
theorem b1_lt (b : Bool) : 0 ≤ b1 b ∧ b1 b ≤ 1 := by cases b <;> decide
/-- An entry's word: as much of the frame as there is room for. -/
def lw (V W X B : Bool) (F : Int) : Int := 256 * (F % 65536) + b1 V + 2 * b1 W + 4 * b1 X + 8 * b1 B
theorem lw_lt (V W X B : Bool) (F : Int) : 0 ≤ lw V W X B F ∧ lw V W X B F < 16777216 := by
  have := b1_lt V
  have := b1_lt W
  have := b1_lt X
  have := b1_lt B
  unfold lw
  omega
/-! ### Allows -/
/-- Does an entry allow an access? -/
def alw (V W X : Bool) (a : Int) : Bool := V && (a == 0 || (a == 1 && W) || (a == 2 && X))
theorem allows_any (V W X B : Bool) (F a : Int) (w : World) :
    Calls Tryz.prog 117 #[.agg #[.bool V, .bool W, .bool X, .bool B, .int .i64 F], .int .i64 a] w fun e w' => e = .returned (.bool (alw V W X a)) ∧ Below w.heap.size w w' := by
  have bel := fun o => (Below.refl w.heap.size w).alloc (Nat.le_refl _) o
  by_cases h0 : a = 0
  · subst h0
    go_enter Tryz.func117, Tryz.ntmps117
    go_wp2
    go_ret
    exact ⟨by cases V <;> rfl, bel _⟩
  have d0 : (a == 0) = false := by simpa using h0
  by_cases h1 : a = 1
  · subst h1
    cases V
    all_goals
      go_enter Tryz.func117, Tryz.ntmps117
      go_wp2
      go_ret
      exact ⟨by cases W <;> cases X <;> rfl, bel _⟩
  have d1 : (a == 1) = false := by simpa using h1
  by_cases h2 : a = 2
  · subst h2
    cases V
    all_goals
      go_enter Tryz.func117, Tryz.ntmps117
      go_wp2
      go_ret
      exact ⟨by cases W <;> cases X <;> rfl, bel _⟩
  have d2 : (a == 2) = false := by simpa using h2
  go_enter Tryz.func117, Tryz.ntmps117
  go_wp2
  go_ret
  exact ⟨by unfold alw; rw [d0, d1, d2]; cases V <;> rfl, bel _⟩
/-! ### lay -/
theorem putN_sum (w a n v : Nat) (h1 : w < 2 ^ a) (h2 : v < 2 ^ n) : putN w a n v = w + v * 2 ^ a := by
  unfold putN
  have h3 : w / 2 ^ (a + n) = 0 := Nat.div_eq_of_lt (Nat.lt_of_lt_of_le h1 (Nat.pow_le_pow_right (by decide) (by omega)))
  rw [Nat.mod_eq_of_lt h2, h3, Nat.zero_mul, Nat.or_zero]
  have := low_or w a v
  rw [Nat.mod_eq_of_lt h1] at this ⊢
  exact this
theorem putN_parts (w a n v : Nat) : putN w a n v = w % 2 ^ a + v % 2 ^ n * 2 ^ a + w / 2 ^ (a + n) * 2 ^ (a + n) := by
  unfold putN
  rw [low_or w a (v % 2 ^ n)]
  have h : w % 2 ^ a + v % 2 ^ n * 2 ^ a < 2 ^ (a + n) := by
    have h1 : w % 2 ^ a < 2 ^ a := Nat.mod_lt _ (Nat.two_pow_pos a)
    have h2 : v % 2 ^ n < 2 ^ n := Nat.mod_lt _ (Nat.two_pow_pos n)
    rw [Nat.pow_add]
    calc w % 2 ^ a + v % 2 ^ n * 2 ^ a < 2 ^ a + v % 2 ^ n * 2 ^ a := by omega
      _ = (v % 2 ^ n + 1) * 2 ^ a := by rw [Nat.add_mul]; omega
      _ ≤ 2 ^ n * 2 ^ a := Nat.mul_le_mul_right _ h2
      _ = 2 ^ a * 2 ^ n := Nat.mul_comm _ _
  have := low_or (w % 2 ^ a + v % 2 ^ n * 2 ^ a) (a + n) (w / 2 ^ (a + n))
  rw [Nat.mod_eq_of_lt h] at this
  exact this
theorem putN_one (v i : Nat) (h : v / 2 ^ i % 2 = 0) : putN v i 1 1 = v + 2 ^ i := by
  rw [putN_parts]
  have e1 : 2 ^ (i + 1) = 2 ^ i * 2 := Nat.pow_succ ..
  have e2 : v / 2 ^ (i + 1) = v / 2 ^ i / 2 := by rw [e1, Nat.div_div_eq_div_mul]
  have e3 := Nat.div_add_mod v (2 ^ i)
  have e4 : v / 2 ^ i / 2 * (2 ^ i * 2) = 2 ^ i * (v / 2 ^ i) := by
    rw [Nat.mul_comm (2 ^ i) 2, ← Nat.mul_assoc, show v / 2 ^ i / 2 * 2 = v / 2 ^ i by omega, Nat.mul_comm]
  rw [e2, e1, e4]
  omega
/-- A bit as a number. -/
def n1 (b : Bool) (i : Nat) : Nat := if b then 2 ^ i else 0
theorem n1_b1 (b : Bool) (i : Nat) : (n1 b i : Int) = 2 ^ i * b1 b := by cases b <;> simp [n1, b1]
theorem n1_lt (b : Bool) (i : Nat) : n1 b i = 0 ∨ n1 b i = 2 ^ i := by cases b <;> simp [n1]
theorem tell_any (b i v : Nat) (I : Int) (on : Bool) (w : World) (hv : w.heap[b]? = some (.cells #[.int .u32 v] 52 (0, 0))) (h1 : v < 4294967296) (hI : I = i) (hi : i < 32) (hz : v / 2 ^ i % 2 = 0) :
    Calls Tryz.prog 113 #[.int .i64 I, .bool on, .pointer (some ⟨b, 0, none⟩)] w fun e w' => e = .returned (.tuple #[]) ∧ w'.heap[b]? = some (.cells #[.int .u32 ((v + n1 on i : Nat) : Int)] 52 (0, 0)) ∧ ∀ B, B ≤ b → Below B w w' := by
  subst hI
  have hc := cell_of_one hv
  have hf := free_of_one hv
  have HV := Lib.hid hv
  clear hv
  cases on
  · go_enter Tryz.func113, Tryz.ntmps113
    go_wp2
    go_end0
    exact ⟨rfl, HV.out, fun B _ => Below.refl _ _⟩
  · have HZ := Lib.hid hz
    clear hz
    go_enter Tryz.func113, Tryz.ntmps113
    go_wp2_with fail
    refine (put_yes v i 1 1 _ (by omega) (by omega) (by omega) (by omega)).mono ?_
    rintro e w1 ⟨rfl, rfl⟩
    go_wp2
    go_end0
    refine ⟨rfl, ?_, fun B hB => (Below.refl _ _).setCell hB _⟩
    rw [one_setCell HV.out, putN_one v i HZ.out]
    rfl
/-- An entry's cells. -/
structure Five (w : World) (b : Nat) (V W X B : Bool) (F : Int) : Prop where
  c0 : w.cell? ⟨b, 0, none⟩ = some (.bool V)
  c1 : w.cell? ⟨b, 1, none⟩ = some (.bool W)
  c2 : w.cell? ⟨b, 2, none⟩ = some (.bool X)
  c3 : w.cell? ⟨b, 3, none⟩ = some (.bool B)
  c4 : w.cell? ⟨b, 4, none⟩ = some (.int .i64 F)
theorem Five.kept {w w' : World} {b N : Nat} {V W X B : Bool} {F : Int} (h : Five w b V W X B F) (hb : Below N w w') (hlt : b < N) : Five w' b V W X B F :=
  ⟨(hb.cell (p := ⟨b, 0, none⟩) hlt).trans h.c0, (hb.cell (p := ⟨b, 1, none⟩) hlt).trans h.c1, (hb.cell (p := ⟨b, 2, none⟩) hlt).trans h.c2, (hb.cell (p := ⟨b, 3, none⟩) hlt).trans h.c3, (hb.cell (p := ⟨b, 4, none⟩) hlt).trans h.c4⟩
theorem five_new (w : World) (V W X B : Bool) (F : Int) (t : TypeId) : Five (w.alloc (.cells #[.bool V, .bool W, .bool X, .bool B, .int .i64 F] t)) w.heap.size V W X B F := by
  constructor <;> simp
theorem one_new2 (w : World) (o : Obj) (v : Value) (t : TypeId) : ((w.alloc o).alloc (.cells #[v] t)).heap[w.heap.size + 1]? = some (.cells #[v] t (0, 0)) := by
  have h : (w.alloc o).heap.size = w.heap.size + 1 := by simp
  rw [← h]
  exact heap_alloc_new _ _
theorem put16 (x : Int) (r : Nat) (w : World) (h0 : 0 ≤ x) (hr : (r : Int) = 256 * (x % 65536)) :
    Calls Tryz.prog 112 #[.int .u32 0, .int .i64 8, .int .i64 16, .int .u32 x] w fun e w' => e = .returned (.int .u32 r) ∧ w = w' := by
  obtain ⟨x, rfl⟩ := Int.eq_ofNat_of_zero_le h0
  refine (put_yes 0 8 16 x w (by omega) (by omega) (by omega) (by omega)).mono ?_
  rintro e w' ⟨rfl, rfl⟩
  refine ⟨ret_u32 ?_, rfl⟩
  rw [putN_parts]
  omega
set_option maxHeartbeats 1000000 in
theorem lay_any (V W X B : Bool) (F : Int) (w : World) :
    Calls Tryz.prog 108 #[.agg #[.bool V, .bool W, .bool X, .bool B, .int .i64 F]] w fun e w' => e = .returned (.int .u32 (lw V W X B F)) ∧ Below w.heap.size w w' := by
  have f0 : 0 ≤ F % 4294967296 := by omega
  obtain ⟨f, hf⟩ : ∃ f : Nat, (f : Int) = F % 65536 := ⟨(F % 65536).toNat, by omega⟩
  have k0 := n1_lt V 0
  have k1 := n1_lt W 1
  have k2 := n1_lt X 2
  have k3 := n1_lt B 3
  have hr : ((256 * f : Nat) : Int) = 256 * (F % 4294967296 % 65536) := by omega
  have er : lw V W X B F = ((256 * f + n1 V 0 + n1 W 1 + n1 X 2 + n1 B 3 : Nat) : Int) := by
    have p0 := n1_b1 V 0
    have p1 := n1_b1 W 1
    have p2 := n1_b1 X 2
    have p3 := n1_b1 B 3
    unfold lw
    omega
  have g0 : 256 * f < 16777216 := by omega
  have z0 : 256 * f / 2 ^ 0 % 2 = 0 := by omega
  have z1 : (256 * f + n1 V 0) / 2 ^ 1 % 2 = 0 := by omega
  have z2 : (256 * f + n1 V 0 + n1 W 1) / 2 ^ 2 % 2 = 0 := by omega
  have z3 : (256 * f + n1 V 0 + n1 W 1 + n1 X 2) / 2 ^ 3 % 2 = 0 := by omega
  have l1 : 256 * f + n1 V 0 < 4294967296 := by omega
  have l2 : 256 * f + n1 V 0 + n1 W 1 < 4294967296 := by omega
  have l3 : 256 * f + n1 V 0 + n1 W 1 + n1 X 2 < 4294967296 := by omega
  obtain ⟨r0, e0⟩ : ∃ r : Nat, r = 256 * f := ⟨_, rfl⟩
  obtain ⟨r1, e1⟩ : ∃ r : Nat, r = r0 + n1 V 0 := ⟨_, rfl⟩
  obtain ⟨r2, e2⟩ : ∃ r : Nat, r = r1 + n1 W 1 := ⟨_, rfl⟩
  obtain ⟨r3, e3⟩ : ∃ r : Nat, r = r2 + n1 X 2 := ⟨_, rfl⟩
  obtain ⟨r4, e4⟩ : ∃ r : Nat, r = r3 + n1 B 3 := ⟨_, rfl⟩
  rw [← e0] at z0 z1 z2 z3 l1 l2 l3 g0 hr er
  rw [← e1] at z1 z2 z3 l1 l2 l3 er
  rw [← e2] at z2 z3 l2 l3 er
  rw [← e3] at z3 l3 er
  rw [← e4] at er
  rw [er]
  clear er k0 k1 k2 k3 hf e0
  have E1 := Lib.hid e1
  have E2 := Lib.hid e2
  have E3 := Lib.hid e3
  have E4 := Lib.hid e4
  have Z0 := Lib.hid z0
  have Z1 := Lib.hid z1
  have Z2 := Lib.hid z2
  have Z3 := Lib.hid z3
  clear e1 e2 e3 e4 z0 z1 z2 z3
  go_enter Tryz.func108, Tryz.ntmps108
  go_wp2_with fail
  refine (put16 _ r0 _ f0 hr).mono ?_
  rintro e w1 ⟨rfl, rfl⟩
  clear hr f0
  go_wp2_with fail
  have H0 := Lib.hid (five_new w V W X B F 62)
  have bl : Below w.heap.size w ((w.alloc (.cells #[.bool V, .bool W, .bool X, .bool B, .int .i64 F] 62)).alloc (.cells #[.int .u32 r0] 52)) := ((Below.refl _ _).alloc (Nat.le_refl _) _).alloc (by simp) _
  have hv : ((w.alloc (.cells #[.bool V, .bool W, .bool X, .bool B, .int .i64 F] 62)).alloc (.cells #[.int .u32 r0] 52)).heap[w.heap.size + 1]? = some (.cells #[.int .u32 r0] 52 (0, 0)) := one_new2 w _ _ _
  have H1 := Lib.hid (H0.out.kept (w' := (w.alloc (.cells #[.bool V, .bool W, .bool X, .bool B, .int .i64 F] 62)).alloc (.cells #[.int .u32 r0] 52)) (N := w.heap.size + 1) ((Below.refl _ _).alloc (by simp) _) (by omega))
  clear H0
  revert H1 bl hv
  generalize (w.alloc (.cells #[.bool V, .bool W, .bool X, .bool B, .int .i64 F] 62)).alloc (.cells #[.int .u32 r0] 52) = u0
  intro bl hv H1
  refine (tell_any _ 0 r0 0 V _ hv (by omega) rfl (by omega) Z0.out).mono ?_
  rintro e u1 ⟨rfl, hv1, b1⟩
  rw [← E1.out] at hv1
  have q1 := H1.out.kept (b1 _ (Nat.le_refl _)) (by omega)
  have bl1 := bl.trans (b1 _ (by omega))
  have Q1 := Lib.hid q1
  have BL1 := Lib.hid bl1
  have HV1 := Lib.hid hv1
  have c1 := q1.c1
  clear b1 H1 bl bl1 hv hv1 q1
  go_wp2_with fail
  refine (tell_any _ 1 r1 1 W _ HV1.out (by omega) rfl (by omega) Z1.out).mono ?_
  rintro e u2 ⟨rfl, hv2, b2⟩
  rw [← E2.out] at hv2
  have q2 := Q1.out.kept (b2 _ (Nat.le_refl _)) (by omega)
  have BL2 := Lib.hid (BL1.out.trans (b2 _ (by omega)))
  have Q2 := Lib.hid q2
  have HV2 := Lib.hid hv2
  have c2 := q2.c2
  clear b2 Q1 BL1 HV1 hv2 q2 c1
  go_wp2_with fail
  refine (tell_any _ 2 r2 2 X _ HV2.out (by omega) rfl (by omega) Z2.out).mono ?_
  rintro e u3 ⟨rfl, hv3, b3⟩
  rw [← E3.out] at hv3
  have q3 := Q2.out.kept (b3 _ (Nat.le_refl _)) (by omega)
  have BL3 := Lib.hid (BL2.out.trans (b3 _ (by omega)))
  have Q3 := Lib.hid q3
  have HV3 := Lib.hid hv3
  have c3 := q3.c3
  clear b3 Q2 BL2 HV2 hv3 q3 c2
  go_wp2_with fail
  refine (tell_any _ 3 r3 3 B _ HV3.out (by omega) rfl (by omega) Z3.out).mono ?_
  rintro e u4 ⟨rfl, hv4, b4⟩
  rw [← E4.out] at hv4
  have BL4 := Lib.hid (BL3.out.trans (b4 _ (by omega)))
  have c4 := cell_of_one hv4
  clear b4 Q3 BL3 HV3 hv4 c3
  go_wp2
  go_ret
  exact ⟨rfl, BL4.out⟩
/-! ### Encode -/
theorem Five.kept' {w w' : World} {b : Nat} {V W X B : Bool} {F : Int} (h : Five w b V W X B F) (hb : Below w.heap.size w w') : Five w' b V W X B F := h.kept hb (block_lt_of_cell h.c0)
/-- Has an entry a word? -/
def gd (V W X B : Bool) (F : Int) : Bool := if V then decide (0 ≤ F) && decide (F ≤ 65535) else !W && !X && !B && F == 0
theorem lw_dec (V W X B : Bool) (F : Int) : dV (lw V W X B F) = V ∧ dW (lw V W X B F) = (V && W) ∧ dX (lw V W X B F) = (V && X) ∧ dB (lw V W X B F) = (V && B) ∧ dF (lw V W X B F) = if V then F % 65536 else 0 := by
  unfold dV dW dX dB dF lw
  cases V <;> cases W <;> cases X <;> cases B <;> simp [b1] <;> omega
end En
end Go.Proofs.YtiiggmfindfkfaaGreat
namespace Go.Proofs.YtiiggmfindfkfaaGreat
open Go.RowKit Nt
namespace En
set_option maxRecDepth 100000 in
set_option maxHeartbeats 1000000 in
theorem eqEnt (a0 a1 a2 a3 b0 b1 b2 b3 : Bool) (f g : Int) (w : World) : (Op.equalIn 10000 62 (.agg #[.bool a0, .bool a1, .bool a2, .bool a3, .int .i64 f]) (.agg #[.bool b0, .bool b1, .bool b2, .bool b3, .int .i64 g])).run Tryz.prog w = .ok (a0 == b0 && a1 == b1 && a2 == b2 && a3 == b3 && f == g) w := by
  have hS : Tryz.prog.underlying 62 = some (.struct (Tryz.prog.fieldsOf 62)) := by kernel_rfl
  have u3 := Tryz.underlying4
  have a3' := Tryz.isAgg4
  have z3 := Tryz.sizeOf4
  have u4 := Tryz.underlying3
  have a4' := Tryz.isAgg3
  have z4 := Tryz.sizeOf3
  rw [show (10000 : Nat) = 9999 + 1 from rfl, run_equalIn_struct w 9999 62 _ _ hS (by kernel_rfl)]
  simp only [Program.fieldsOf, Tryz.underlying62]
  by_cases e0 : a0 = b0
  · subst e0
    by_cases e1 : a1 = b1
    · subst e1
      by_cases e2 : a2 = b2
      · subst e2
        by_cases e3 : a3 = b3
        · subst e3
          go_simp
          split <;> simp_all
        · have d3 : (a3 == b3) = false := by simpa using e3
          go_simp
      · have d2 : (a2 == b2) = false := by simpa using e2
        go_simp
    · have d1 : (a1 == b1) = false := by simpa using e1
      go_simp
  · have d0 : (a0 == b0) = false := by simpa using e0
    go_simp
end En
end Go.Proofs.YtiiggmfindfkfaaGreat
namespace Go.Proofs.YtiiggmfindfkfaaGreat
open Go.RowKit Nt
namespace En
/-! ### Going over, and the document's own -/
end En
end Go.Proofs.YtiiggmfindfkfaaGreat
namespace Go.Proofs.YtiiggmfindfkfaaGreat
open Go.RowKit Nt
namespace En
/-- How much of the frame comes back. -/
def eF (V : Bool) (F : Int) : Int := if V then F % 65536 else 0
theorem decode_lw (V W X B : Bool) (F : Int) (w : World) :
    Calls Tryz.prog 50 #[.int .u32 (lw V W X B F)] w fun e w' => e = .returned (.agg #[.bool V, .bool (V && W), .bool (V && X), .bool (V && B), .int .i64 (eF V F)]) ∧ Below w.heap.size w w' := by
  have l := lw_lt V W X B F
  have d := decode_any (lw V W X B F) w l.1 (by omega)
  obtain ⟨e0, e1, e2, e3, e4⟩ := lw_dec V W X B F
  rw [e0, e1, e2, e3, e4] at d
  exact d
theorem gd_eq (V W X B : Bool) (F : Int) : (V == V && (V && W) == W && (V && X) == X && (V && B) == B && (if V then F % 65536 else 0) == F) = gd V W X B F := by
  unfold gd
  rw [Bool.eq_iff_iff]
  cases V <;> cases W <;> cases X <;> cases B <;> simp <;> omega
theorem eqLw (V W X B : Bool) (F : Int) (w : World) : (Op.equalIn 10000 62 (.agg #[.bool V, .bool (V && W), .bool (V && X), .bool (V && B), .int .i64 (eF V F)]) (.agg #[.bool V, .bool W, .bool X, .bool B, .int .i64 F])).run Tryz.prog w = .ok (gd V W X B F) w := by
  rw [eqEnt]
  exact congrArg (fun x => Result.ok x w) (gd_eq V W X B F)
/-- What Encode answers. -/
def encN (V W X B : Bool) (F : Int) : Int := if gd V W X B F then lw V W X B F else 0
set_option maxHeartbeats 1000000 in
theorem encode_any (V W X B : Bool) (F : Int) (w : World) :
    Calls Tryz.prog 98 #[.agg #[.bool V, .bool W, .bool X, .bool B, .int .i64 F]] w fun e w' => e = .returned (.tuple #[.int .u32 (encN V W X B F), .bool (gd V W X B F)]) ∧ Below w.heap.size w w' := by
  have b0 : Below w.heap.size w (w.alloc (.cells #[.bool V, .bool W, .bool X, .bool B, .int .i64 F] 62)) := (Below.refl _ _).alloc (Nat.le_refl _) _
  have B0 := Lib.hid b0
  have H0 := Lib.hid (five_new w V W X B F 62)
  have q := eqLw V W X B F
  clear b0
  cases hg : gd V W X B F
  all_goals
    have E := Lib.hid (show encN V W X B F = if gd V W X B F then lw V W X B F else 0 from rfl)
    rw [hg] at q
    go_enter Tryz.func98, Tryz.ntmps98
    go_wp2_with fail
    refine (lay_any _ _ _ _ _ _).mono ?_
    rintro e w1 ⟨rfl, hb⟩
    have H1 := Lib.hid (H0.out.kept' hb)
    have B1 := Lib.hid (B0.out.trans (hb.mono B0.out.size))
    clear hb
    go_wp2_with fail
    obtain ⟨x0, x1, x2, x3, x4⟩ := H1.out
    have k0 := cell_regrown x0
    have k1 := cell_regrown x1
    have k2 := cell_regrown x2
    have k3 := cell_regrown x3
    have k4 := cell_regrown x4
    clear x0 x1 x2 x3 x4
    refine wp_region_quiet_below (by kernel_rfl) (by kernel_rfl) ?_
    repeat (quiet_step (first | (go_at_call 50; exact Calls.regrown_of (decode_lw _ _ _ _ _ _))))
    refine wpQuiet_nil ?_
    intro _ hw'
    obtain ⟨⟨dq, osq⟩, hw''⟩ := hw'
    subst hw''
    have hb2 := below_regrown w1 dq osq
    go_wp2
    go_ret2
    exact ⟨by rw [E.out, hg]; rfl, B1.out.trans (hb2.mono B1.out.size)⟩
end En
end Go.Proofs.YtiiggmfindfkfaaGreat
