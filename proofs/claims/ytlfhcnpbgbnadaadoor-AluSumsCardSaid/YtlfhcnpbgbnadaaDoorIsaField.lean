/-
  What word.Field, word.Put and word.Extend and the document's own Field, Put and Extend answer, at every argument; no condition but that each argument is of its Go type.
-/
import Derived.Test.YtlfhcnpbgbnadaaDoorRows
import Derived.Test.YtlfhcnpbgbnadaaDoorNat
import Derived.WalkKit
import Derived.WalkSpells
import Derived.WalkLawsBesides
import Derived.Outline
import Derived.Deep.QuietTactic
import Derived.BigQuiet
import Derived.IntWalk
import Derived.Lib.Hide
import Derived.Laws.BitsAllLaws
namespace Go.Proofs.YtlfhcnpbgbnadaaDoor
open Go.RowKit Nt

/-- Is there a field of n bits at a? -/
def Fits (a n : Int) : Prop := 1 ≤ n ∧ n ≤ 32 ∧ 0 ≤ a ∧ a ≤ 32 - n
instance (a n : Int) : Decidable (Fits a n) := by unfold Fits; infer_instance

theorem hasField_yes (a n : Int) (w : World) (h1 : 1 ≤ n) (h2 : n ≤ 32) (h3 : 0 ≤ a) (h4 : a ≤ 32 - n) :
    Calls Tryd.prog 46 #[.int .i64 a, .int .i64 n] w fun e w' => e = .returned (.bool true) ∧ w = w' := by
  have h5 : decide (a ≤ 32 - n) = true := by simp; omega
  go_enter Tryd.func46, Tryd.ntmps46
  go_wp2
  go_ret
  exact ⟨rfl, rfl⟩
theorem hasField_no (a n : Int) (w : World) (h : ¬ Fits a n) :
    Calls Tryd.prog 46 #[.int .i64 a, .int .i64 n] w fun e w' => e = .returned (.bool false) ∧ w = w' := by
  unfold Fits at h
  by_cases h1 : 1 ≤ n
  · by_cases h2 : n ≤ 32
    · by_cases h3 : 0 ≤ a
      · have h4 : ¬ a ≤ 32 - n := by omega
        have h5 : decide (a ≤ 32 - n) = false := by simpa using h4
        clear h
        go_enter Tryd.func46, Tryd.ntmps46
        go_wp2
        go_ret
        exact ⟨rfl, rfl⟩
      · have h5 : decide (0 ≤ a) = false := by simpa using h3
        clear h
        go_enter Tryd.func46, Tryd.ntmps46
        go_wp2
        go_ret
        exact ⟨rfl, rfl⟩
    · have h5 : decide (n ≤ 32) = false := by simpa using h2
      clear h
      go_enter Tryd.func46, Tryd.ntmps46
      go_wp2
      go_ret
      exact ⟨rfl, rfl⟩
  · have h5 : decide (1 ≤ n) = false := by simpa using h1
    clear h
    go_enter Tryd.func46, Tryd.ntmps46
    go_wp2
    go_ret
    exact ⟨rfl, rfl⟩
theorem lowest_any (n : Int) (w : World) (h1 : 1 ≤ n) (h2 : n ≤ 32) :
    Calls Tryd.prog 47 #[.int .i64 n] w fun e w' => e = .returned (.int .u32 (4294967295 / 2 ^ (32 - n).toNat)) ∧ w = w' := by
  go_enter Tryd.func47, Tryd.ntmps47
  go_wp2
  go_ret
  exact ⟨rfl, rfl⟩
theorem ret_u32 {a b : Int} (h : a = b) : Ending.returned (.int .u32 a) = .returned (.int .u32 b) := by rw [h]
theorem div_cast (v a : Nat) : (v : Int) / 2 ^ a = ((v / 2 ^ a : Nat) : Int) := by push_cast; rfl
theorem ones_cast (n : Nat) : (4294967295 : Int) / 2 ^ n = ((4294967295 / 2 ^ n : Nat) : Int) := div_cast 4294967295 n
theorem mul_cast (v a : Nat) : (v : Int) * 2 ^ a = ((v * 2 ^ a : Nat) : Int) := by push_cast; rfl
theorem div_lt (v a : Nat) (h : v < 4294967296) : v / 2 ^ a < 4294967296 := Nat.lt_of_le_of_lt (Nat.div_le_self _ _) h
theorem field_eq (v a n : Nat) (h0 : v < 4294967296) (h2 : n ≤ 32) : bits .and .u32 ((v : Int) / 2 ^ a) (4294967295 / 2 ^ (32 - n)) = ((fieldN v a n : Nat) : Int) := by
  rw [div_cast, ones_cast, u32_and_nat _ _ (div_lt v a h0) (div_lt _ _ (by decide)), fieldN_code v a n h2]
theorem field_yes (v a n : Nat) (w : World) (h0 : v < 4294967296) (h1 : 1 ≤ n) (h2 : n ≤ 32) (h4 : a ≤ 32 - n) :
    Calls Tryd.prog 32 #[.int .u32 v, .int .i64 a, .int .i64 n] w fun e w' => e = .returned (.int .u32 (fieldN v a n : Nat)) ∧ ∃ k, w' = w.drewN k := by
  go_enter Tryd.func32, Tryd.ntmps32
  go_wp2_with (go_at_call 46; refine (hasField_yes _ _ _ (by omega) (by omega) (by omega) (by omega)).mono ?_; rintro e w' ⟨rfl, rfl⟩)
  go_quiet ((go_at_call 47; exact Calls.quiet_of_same ((lowest_any _ _ (by omega) (by omega)).mono fun _ _ ⟨h, h'⟩ => ⟨h, h'.symm⟩)))
  go_wp2
  go_ret
  exact ⟨ret_u32 (field_eq v a n h0 h2), _, rfl⟩
theorem field_no (v a n : Int) (w : World) (h : ¬ Fits a n) :
    Calls Tryd.prog 32 #[.int .u32 v, .int .i64 a, .int .i64 n] w fun e w' => e = .returned (.int .u32 0) ∧ w = w' := by
  go_enter Tryd.func32, Tryd.ntmps32
  go_wp2_with (go_at_call 46; refine (hasField_no _ _ _ h).mono ?_; rintro e w' ⟨rfl, rfl⟩)
  go_ret
  exact ⟨rfl, rfl⟩
/-- A field of a word, at every place and length. -/
def fieldI (v a n : Int) : Int := if Fits a n then ((fieldN v.toNat a.toNat n.toNat : Nat) : Int) else 0
theorem field_any (v a n : Int) (w : World) (h0 : 0 ≤ v) (h1 : v < 4294967296) :
    Calls Tryd.prog 32 #[.int .u32 v, .int .i64 a, .int .i64 n] w fun e w' => e = .returned (.int .u32 (fieldI v a n)) ∧ ∃ k, w' = w.drewN k := by
  unfold fieldI
  by_cases h : Fits a n
  · rw [if_pos h]
    obtain ⟨g1, g2, g3, g4⟩ := h
    obtain ⟨v, rfl⟩ := Int.eq_ofNat_of_zero_le h0
    obtain ⟨a, rfl⟩ := Int.eq_ofNat_of_zero_le g3
    obtain ⟨n, rfl⟩ := Int.eq_ofNat_of_zero_le (show 0 ≤ n by omega)
    simp only [Int.toNat_natCast]
    exact field_yes v a n w (by omega) (by omega) (by omega) (by omega)
  · rw [if_neg h]
    exact (field_no v a n w h).mono fun _ _ ⟨he, hw⟩ => ⟨he, 0, hw.symm⟩

theorem fits_yes (a n : Int) (w : World) (h1 : 1 ≤ n) (h2 : n ≤ 32) (h3 : 0 ≤ a) (h4 : a ≤ 32 - n) :
    Calls Tryd.prog 53 #[.int .i64 a, .int .i64 n] w fun e w' => e = .returned (.bool true) ∧ w = w' := by
  have h5 : decide (a ≤ 32 - n) = true := by simp; omega
  go_enter Tryd.func53, Tryd.ntmps53
  go_wp2
  go_ret
  exact ⟨rfl, rfl⟩
theorem fits_no (a n : Int) (w : World) (h : ¬ Fits a n) :
    Calls Tryd.prog 53 #[.int .i64 a, .int .i64 n] w fun e w' => e = .returned (.bool false) ∧ w = w' := by
  unfold Fits at h
  by_cases h1 : 1 ≤ n
  · by_cases h2 : n ≤ 32
    · by_cases h3 : 0 ≤ a
      · have h4 : ¬ a ≤ 32 - n := by omega
        have h5 : decide (a ≤ 32 - n) = false := by simpa using h4
        clear h
        go_enter Tryd.func53, Tryd.ntmps53
        go_wp2
        go_ret
        exact ⟨rfl, rfl⟩
      · have h5 : decide (0 ≤ a) = false := by simpa using h3
        clear h
        go_enter Tryd.func53, Tryd.ntmps53
        go_wp2
        go_ret
        exact ⟨rfl, rfl⟩
    · have h5 : decide (n ≤ 32) = false := by simpa using h2
      clear h
      go_enter Tryd.func53, Tryd.ntmps53
      go_wp2
      go_ret
      exact ⟨rfl, rfl⟩
  · have h5 : decide (1 ≤ n) = false := by simpa using h1
    clear h
    go_enter Tryd.func53, Tryd.ntmps53
    go_wp2
    go_ret
    exact ⟨rfl, rfl⟩
theorem bit_eq (v a : Nat) (h0 : v < 4294967296) : bits .and .u32 ((v : Int) / 2 ^ a) 1 = ((bitN v a : Nat) : Int) := by
  rw [div_cast, show (1 : Int) = ((1 : Nat) : Int) from rfl, u32_and_nat _ _ (div_lt v a h0) (by decide), nat_mask1]
  rfl
theorem bit_any (v : Nat) (a : Int) (w : World) (h1 : 0 ≤ a) (h2 : a < 32) (h0 : v < 4294967296) :
    Calls Tryd.prog 54 #[.int .u32 v, .int .i64 a] w fun e w' => e = .returned (.int .u32 (bitN v a.toNat : Nat)) ∧ w = w' := by
  obtain ⟨a, rfl⟩ := Int.eq_ofNat_of_zero_le h1
  rw [Int.toNat_natCast]
  go_enter Tryd.func54, Tryd.ntmps54
  go_wp2
  go_ret
  exact ⟨ret_u32 (bit_eq v a h0), rfl⟩
theorem pow_lt (b k : Nat) (hb : b < 2) (hk : k < 32) : b * 2 ^ k < 4294967296 := by
  have h1 : 2 ^ k ≤ 2 ^ 31 := Nat.pow_le_pow_right (by decide) (by omega)
  have h2 : b * 2 ^ k ≤ 1 * 2 ^ k := Nat.mul_le_mul_right _ (by omega)
  omega
/-- One bit more is put into a number's lowest bits. -/
theorem or_round (T k b : Nat) (hb : b = bitN T k) (hk : k < 32) :
    bits .or .u32 ((T : Int) % 2 ^ k) ((b : Int) * 2 ^ k % 4294967296) = ((T % 2 ^ (k + 1) : Nat) : Int) := by
  have hb2 : b < 2 := by rw [hb]; exact bitN_lt _ _
  have e1 : (T : Int) % 2 ^ k = ((T % 2 ^ k : Nat) : Int) := by push_cast; rfl
  have e2 : (b : Int) * 2 ^ k % 4294967296 = ((b * 2 ^ k : Nat) : Int) := by
    rw [mul_cast]
    have := pow_lt b k hb2 hk
    omega
  have h1 : T % 2 ^ k < 2 ^ k := Nat.mod_lt _ (Nat.two_pow_pos k)
  have h2 : 2 ^ k ≤ 2 ^ 32 := Nat.pow_le_pow_right (by decide) (by omega)
  rw [e1, e2, u32_or_nat _ _ (by omega) (pow_lt b k hb2 hk), low_or, low_succ, hb]
theorem low_end (T k : Nat) (h : T % 2 ^ k = T) : (T : Int) % 2 ^ k = T := by
  have e : ((T % 2 ^ k : Nat) : Int) = (T : Int) := by rw [h]
  push_cast at e
  exact e
theorem rfield_yes (v a n : Nat) (w : World) (h0 : v < 4294967296) (h1 : 1 ≤ n) (h2 : n ≤ 32) (h4 : a ≤ 32 - n) :
    Calls Tryd.prog 40 #[.int .u32 v, .int .i64 a, .int .i64 n] w fun e w' => e = .returned (.int .u32 (fieldN v a n : Nat)) ∧ w = w' := by
  go_enter Tryd.func40, Tryd.ntmps40
  go_wp2_with (go_at_call 53; refine (fits_yes _ _ _ (by omega) (by omega) (by omega) (by omega)).mono ?_; rintro e w' ⟨rfl, rfl⟩)
  go_loop [7, 8] (fun t i => ∃ k : Nat, k ≤ n ∧ i = .int .i64 k ∧ t = .int .u32 (fieldN v a n % 2 ^ k : Nat)) (fun _ i => n - (intOf i).toNat)
  case atStart => exact ⟨0, Nat.zero_le _, rfl, by simp [Nat.mod_one]⟩
  case round =>
    obtain ⟨k, hk, rfl, rfl⟩ := hrel
    by_cases hlt : k < n
    · go_wp2_with (go_at_call 54; refine (bit_any _ _ _ (by omega) (by omega) (by omega)).mono ?_; rintro e w' ⟨rfl, rfl⟩)
      go_round
      case rel => exact ⟨k + 1, by omega, by go_num, congrArg (Value.int .u32) (or_round _ k _ (fieldN_bit v a n k hlt).symm (by omega))⟩
      case measure => simp [intOf]; omega
    · go_wp2
      go_ret
      have e : k = n := by omega
      subst e
      exact ⟨ret_u32 (low_end _ _ (fieldN_low _ _ _)), rfl⟩
theorem rfield_no (v a n : Int) (w : World) (h : ¬ Fits a n) :
    Calls Tryd.prog 40 #[.int .u32 v, .int .i64 a, .int .i64 n] w fun e w' => e = .returned (.int .u32 0) ∧ w = w' := by
  go_enter Tryd.func40, Tryd.ntmps40
  go_wp2_with (go_at_call 53; refine (fits_no _ _ _ h).mono ?_; rintro e w' ⟨rfl, rfl⟩)
  go_ret
  exact ⟨rfl, rfl⟩
theorem rfield_any (v a n : Int) (w : World) (h0 : 0 ≤ v) (h1 : v < 4294967296) :
    Calls Tryd.prog 40 #[.int .u32 v, .int .i64 a, .int .i64 n] w fun e w' => e = .returned (.int .u32 (fieldI v a n)) ∧ w = w' := by
  unfold fieldI
  by_cases h : Fits a n
  · rw [if_pos h]
    obtain ⟨g1, g2, g3, g4⟩ := h
    obtain ⟨v, rfl⟩ := Int.eq_ofNat_of_zero_le h0
    obtain ⟨a, rfl⟩ := Int.eq_ofNat_of_zero_le g3
    obtain ⟨n, rfl⟩ := Int.eq_ofNat_of_zero_le (show 0 ≤ n by omega)
    simp only [Int.toNat_natCast]
    exact rfield_yes v a n w (by omega) (by omega) (by omega) (by omega)
  · rw [if_neg h]
    exact rfield_no v a n w h

/-! ### Put -/
theorem mod32_cast (x : Nat) : (x : Int) % 4294967296 = ((x % 4294967296 : Nat) : Int) := by omega
theorem put_eq (v a n x : Nat) (h0 : v < 4294967296) (h : a + n ≤ 32) :
    bits .or .u32 (bits .andNot .u32 v (4294967295 / 2 ^ (32 - n) * 2 ^ a % 4294967296)) (bits .and .u32 ((x : Int) * 2 ^ a % 4294967296) (4294967295 / 2 ^ (32 - n) * 2 ^ a % 4294967296)) = ((putN v a n x : Nat) : Int) := by
  rw [ones_cast, mul_cast, mul_cast, mod32_cast, mod32_cast]
  have hm : 4294967295 / 2 ^ (32 - n) * 2 ^ a % 4294967296 < 4294967296 := Nat.mod_lt _ (by decide)
  have hx : x * 2 ^ a % 4294967296 < 4294967296 := Nat.mod_lt _ (by decide)
  rw [u32_andNot_nat _ _ h0 hm, u32_and_nat _ _ hx hm,
    u32_or_nat _ _ (Nat.lt_of_le_of_lt Nat.and_le_left h0) (Nat.lt_of_le_of_lt Nat.and_le_left hx), putN_code v a n x _ h0 h rfl]
theorem put_yes (v a n x : Nat) (w : World) (h0 : v < 4294967296) (h1 : 1 ≤ n) (h2 : n ≤ 32) (h4 : a ≤ 32 - n) :
    Calls Tryd.prog 34 #[.int .u32 v, .int .i64 a, .int .i64 n, .int .u32 x] w fun e w' => e = .returned (.int .u32 (putN v a n x : Nat)) ∧ w = w' := by
  go_enter Tryd.func34, Tryd.ntmps34
  go_wp2_with (first | (go_at_call 46; refine (hasField_yes _ _ _ (by omega) (by omega) (by omega) (by omega)).mono ?_; rintro e w' ⟨rfl, rfl⟩) | (go_at_call 47; refine (lowest_any _ _ (by omega) (by omega)).mono ?_; rintro e w' ⟨rfl, rfl⟩))
  go_ret
  exact ⟨ret_u32 (put_eq v a n x h0 (by omega)), rfl⟩
theorem put_no (v a n x : Int) (w : World) (h : ¬ Fits a n) :
    Calls Tryd.prog 34 #[.int .u32 v, .int .i64 a, .int .i64 n, .int .u32 x] w fun e w' => e = .returned (.int .u32 v) ∧ w = w' := by
  go_enter Tryd.func34, Tryd.ntmps34
  go_wp2_with (go_at_call 46; refine (hasField_no _ _ _ h).mono ?_; rintro e w' ⟨rfl, rfl⟩)
  go_ret
  exact ⟨rfl, rfl⟩
/-- A word with a field, at every place and length. -/
def putI (v a n x : Int) : Int := if Fits a n then ((putN v.toNat a.toNat n.toNat x.toNat : Nat) : Int) else v
theorem put_any (v a n x : Int) (w : World) (h0 : 0 ≤ v) (h1 : v < 4294967296) (h2 : 0 ≤ x) :
    Calls Tryd.prog 34 #[.int .u32 v, .int .i64 a, .int .i64 n, .int .u32 x] w fun e w' => e = .returned (.int .u32 (putI v a n x)) ∧ w = w' := by
  unfold putI
  by_cases h : Fits a n
  · rw [if_pos h]
    obtain ⟨g1, g2, g3, g4⟩ := h
    obtain ⟨v, rfl⟩ := Int.eq_ofNat_of_zero_le h0
    obtain ⟨x, rfl⟩ := Int.eq_ofNat_of_zero_le h2
    obtain ⟨a, rfl⟩ := Int.eq_ofNat_of_zero_le g3
    obtain ⟨n, rfl⟩ := Int.eq_ofNat_of_zero_le (show 0 ≤ n by omega)
    simp only [Int.toNat_natCast]
    exact put_yes v a n x w (by omega) (by omega) (by omega) (by omega)
  · rw [if_neg h]
    exact put_no v a n x w h
/-! ### Extend -/
theorem ext_eq (v n : Nat) (h1 : 1 ≤ n) (h2 : n ≤ 32) : wrap32 ((v : Int) * 2 ^ (32 - n) % 4294967296) / 2 ^ (32 - n) % 4294967296 = ((extN v n : Nat) : Int) := by
  have hp : 2 ^ n * 2 ^ (32 - n) = 4294967296 := by rw [← Nat.pow_add, show n + (32 - n) = 32 from by omega]
  have hh : 2 ^ n = 2 * 2 ^ (n - 1) := half n h1
  have hq : 2 ^ (n - 1) * 2 ^ (32 - n) = 2147483648 := by
    rw [← Nat.pow_add, show n - 1 + (32 - n) = 31 from by omega]
  have hP : 0 < 2 ^ (32 - n) := Nat.two_pow_pos _
  have hm : v * 2 ^ (32 - n) % 4294967296 = v % 2 ^ n * 2 ^ (32 - n) := by
    rw [← hp, Nat.mul_mod_mul_right]
  have hl : v % 2 ^ n < 2 ^ n := Nat.mod_lt _ (Nat.two_pow_pos n)
  have hc : ((2 : Int) ^ (32 - n)) = ((2 ^ (32 - n) : Nat) : Int) := by push_cast; rfl
  have h3 : 2 ^ n ≤ 2 ^ 32 := Nat.pow_le_pow_right (by decide) h2
  rw [mul_cast, mod32_cast, hm, hc]
  unfold extN wrap32
  generalize v % 2 ^ n = m at *
  generalize 2 ^ (32 - n) = P at *
  by_cases ht : 2 ^ (n - 1) ≤ m
  · rw [if_pos ht]
    have g1 : 2 ^ (n - 1) * P ≤ m * P := Nat.mul_le_mul_right P ht
    have g2 : (m + 1) * P ≤ 2 ^ n * P := Nat.mul_le_mul_right P hl
    rw [Nat.add_mul] at g2
    have e1 : (((m * P : Nat) : Int) + 2147483648) % 4294967296 - 2147483648 = ((m : Int) - (2 ^ n : Nat)) * (P : Int) := by
      have e2 : ((m : Int) - (2 ^ n : Nat)) * (P : Int) = ((m * P : Nat) : Int) - ((2 ^ n * P : Nat) : Int) := by
        rw [Int.sub_mul]; push_cast; rfl
      rw [e2, hp]
      omega
    rw [e1, Int.mul_ediv_cancel _ (by omega)]
    omega
  · rw [if_neg ht]
    have g1 : (m + 1) * P ≤ 2 ^ (n - 1) * P := Nat.mul_le_mul_right P (by omega)
    rw [Nat.add_mul] at g1
    have e1 : (((m * P : Nat) : Int) + 2147483648) % 4294967296 - 2147483648 = (m : Int) * (P : Int) := by
      have e2 : (m : Int) * (P : Int) = ((m * P : Nat) : Int) := by push_cast; rfl
      rw [e2]
      omega
    rw [e1, Int.mul_ediv_cancel _ (by omega)]
    omega
theorem ext_yes (v n : Nat) (w : World) (h1 : 1 ≤ n) (h2 : n ≤ 32) :
    Calls Tryd.prog 60 #[.int .u32 v, .int .i64 n] w fun e w' => e = .returned (.int .u32 (extN v n : Nat)) ∧ w = w' := by
  go_enter Tryd.func60, Tryd.ntmps60
  go_wp2_with (go_at_call 46; refine (hasField_yes _ _ _ (by omega) (by omega) (by omega) (by omega)).mono ?_; rintro e w' ⟨rfl, rfl⟩)
  go_ret
  exact ⟨ret_u32 (ext_eq v n h1 h2), rfl⟩
theorem ext_no (v n : Int) (w : World) (h : ¬ Fits 0 n) :
    Calls Tryd.prog 60 #[.int .u32 v, .int .i64 n] w fun e w' => e = .returned (.int .u32 0) ∧ w = w' := by
  go_enter Tryd.func60, Tryd.ntmps60
  go_wp2_with (go_at_call 46; refine (hasField_no _ _ _ h).mono ?_; rintro e w' ⟨rfl, rfl⟩)
  go_ret
  exact ⟨rfl, rfl⟩
/-- A number with its sign, at every length. -/
def extI (v n : Int) : Int := if Fits 0 n then ((extN v.toNat n.toNat : Nat) : Int) else 0
theorem ext_any (v n : Int) (w : World) (h0 : 0 ≤ v) :
    Calls Tryd.prog 60 #[.int .u32 v, .int .i64 n] w fun e w' => e = .returned (.int .u32 (extI v n)) ∧ w = w' := by
  unfold extI
  by_cases h : Fits 0 n
  · rw [if_pos h]
    obtain ⟨g1, g2, g3, g4⟩ := h
    obtain ⟨v, rfl⟩ := Int.eq_ofNat_of_zero_le h0
    obtain ⟨n, rfl⟩ := Int.eq_ofNat_of_zero_le (show 0 ≤ n by omega)
    simp only [Int.toNat_natCast]
    exact ext_yes v n w (by omega) (by omega)
  · rw [if_neg h]
    exact ext_no v n w h
end Go.Proofs.YtlfhcnpbgbnadaaDoor
