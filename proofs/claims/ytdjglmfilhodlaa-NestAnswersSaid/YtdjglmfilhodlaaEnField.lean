/-
  What word.Field and word.Put answer, at every argument; no condition but that each argument is of its Go type.
-/
import Derived.Test.YtdjglmfilhodlaaRows
import Derived.Test.YtdjglmfilhodlaaNat
import Derived.WalkKit
import Derived.WalkSpells
import Derived.WalkLawsBesides
import Derived.Outline
import Derived.Deep.QuietTactic
import Derived.BigQuiet
import Derived.IntWalk
import Derived.Lib.Hide
import Derived.Laws.BitsAllLaws
namespace Go.Proofs.Ytdjglmfilhodlaa
open Go.RowKit Nt

/-- Is there a field of n bits at a? -/
def Fits (a n : Int) : Prop := 1 ≤ n ∧ n ≤ 32 ∧ 0 ≤ a ∧ a ≤ 32 - n
instance (a n : Int) : Decidable (Fits a n) := by unfold Fits; infer_instance

theorem hasField_yes (a n : Int) (w : World) (h1 : 1 ≤ n) (h2 : n ≤ 32) (h3 : 0 ≤ a) (h4 : a ≤ 32 - n) :
    Calls Try.prog 70 #[.int .i64 a, .int .i64 n] w fun e w' => e = .returned (.bool true) ∧ w = w' := by
  have h5 : decide (a ≤ 32 - n) = true := by simp; omega
  go_enter Try.func70, Try.ntmps70
  go_wp2
  go_ret
  exact ⟨rfl, rfl⟩
theorem hasField_no (a n : Int) (w : World) (h : ¬ Fits a n) :
    Calls Try.prog 70 #[.int .i64 a, .int .i64 n] w fun e w' => e = .returned (.bool false) ∧ w = w' := by
  unfold Fits at h
  by_cases h1 : 1 ≤ n
  · by_cases h2 : n ≤ 32
    · by_cases h3 : 0 ≤ a
      · have h4 : ¬ a ≤ 32 - n := by omega
        have h5 : decide (a ≤ 32 - n) = false := by simpa using h4
        clear h
        go_enter Try.func70, Try.ntmps70
        go_wp2
        go_ret
        exact ⟨rfl, rfl⟩
      · have h5 : decide (0 ≤ a) = false := by simpa using h3
        clear h
        go_enter Try.func70, Try.ntmps70
        go_wp2
        go_ret
        exact ⟨rfl, rfl⟩
    · have h5 : decide (n ≤ 32) = false := by simpa using h2
      clear h
      go_enter Try.func70, Try.ntmps70
      go_wp2
      go_ret
      exact ⟨rfl, rfl⟩
  · have h5 : decide (1 ≤ n) = false := by simpa using h1
    clear h
    go_enter Try.func70, Try.ntmps70
    go_wp2
    go_ret
    exact ⟨rfl, rfl⟩
theorem lowest_any (n : Int) (w : World) (h1 : 1 ≤ n) (h2 : n ≤ 32) :
    Calls Try.prog 71 #[.int .i64 n] w fun e w' => e = .returned (.int .u32 (4294967295 / 2 ^ (32 - n).toNat)) ∧ w = w' := by
  go_enter Try.func71, Try.ntmps71
  go_wp2
  go_ret
  exact ⟨rfl, rfl⟩
theorem ret_u32 {a b : Int} (h : a = b) : Ending.returned (.int .u32 a) = .returned (.int .u32 b) := by rw [h]
theorem div_cast (v a : Nat) : (v : Int) / 2 ^ a = ((v / 2 ^ a : Nat) : Int) := by push_cast; rfl
theorem ones_cast (n : Nat) : (4294967295 : Int) / 2 ^ n = ((4294967295 / 2 ^ n : Nat) : Int) := div_cast 4294967295 n
theorem mul_cast (v a : Nat) : (v : Int) * 2 ^ a = ((v * 2 ^ a : Nat) : Int) := by push_cast; rfl
theorem div_lt (v a : Nat) (h : v < 4294967296) : v / 2 ^ a < 4294967296 := Nat.lt_of_le_of_lt (Nat.div_le_self _ _) h
theorem field_eq (v a n : Nat) (h0 : v < 4294967296) (h2 : n ≤ 32) : bits .and .u32 ((v : Int) / 2 ^ a) (4294967295 / 2 ^ (32 - n)) = ((fieldN v a n : Nat) : Int) := by
  rw [div_cast, ones_cast, u32_and_nat _ _ (div_lt v a h0) (div_lt _ _ (by decide)), fieldN_code v a n h2]
theorem field_yes (v a n : Nat) (w : World) (h0 : v < 4294967296) (h1 : 1 ≤ n) (h2 : n ≤ 32) (h4 : a ≤ 32 - n) :
    Calls Try.prog 57 #[.int .u32 v, .int .i64 a, .int .i64 n] w fun e w' => e = .returned (.int .u32 (fieldN v a n : Nat)) ∧ ∃ k, w' = w.drewN k := by
  go_enter Try.func57, Try.ntmps57
  go_wp2_with (go_at_call 70; refine (hasField_yes _ _ _ (by omega) (by omega) (by omega) (by omega)).mono ?_; rintro e w' ⟨rfl, rfl⟩)
  go_quiet ((go_at_call 71; exact Calls.quiet_of_same ((lowest_any _ _ (by omega) (by omega)).mono fun _ _ ⟨h, h'⟩ => ⟨h, h'.symm⟩)))
  go_wp2
  go_ret
  exact ⟨ret_u32 (field_eq v a n h0 h2), _, rfl⟩
theorem field_no (v a n : Int) (w : World) (h : ¬ Fits a n) :
    Calls Try.prog 57 #[.int .u32 v, .int .i64 a, .int .i64 n] w fun e w' => e = .returned (.int .u32 0) ∧ w = w' := by
  go_enter Try.func57, Try.ntmps57
  go_wp2_with (go_at_call 70; refine (hasField_no _ _ _ h).mono ?_; rintro e w' ⟨rfl, rfl⟩)
  go_ret
  exact ⟨rfl, rfl⟩
/-- A field of a word, at every place and length. -/
def fieldI (v a n : Int) : Int := if Fits a n then ((fieldN v.toNat a.toNat n.toNat : Nat) : Int) else 0
theorem field_any (v a n : Int) (w : World) (h0 : 0 ≤ v) (h1 : v < 4294967296) :
    Calls Try.prog 57 #[.int .u32 v, .int .i64 a, .int .i64 n] w fun e w' => e = .returned (.int .u32 (fieldI v a n)) ∧ ∃ k, w' = w.drewN k := by
  unfold fieldI
  by_cases h : Fits a n
  · rw [if_pos h]
    obtain ⟨g1, g2, g3, g4⟩ := h
    obtain ⟨v, rfl⟩ := Int.eq_ofNat_of_zero_le h0
    obtain ⟨a, rfl⟩ := Int.eq_ofNat_of_zero_le g3
    obtain ⟨n, rfl⟩ := Int.eq_ofNat_of_zero_le (show 0 ≤ n by omega)
    simp only [Int.toNat_natCast]
    exact field_yes v a n w (by omega) (by omega) (by omega) (by omega)
  · rw [if_neg h]
    exact (field_no v a n w h).mono fun _ _ ⟨he, hw⟩ => ⟨he, 0, hw.symm⟩

/-! ### Put -/
theorem mod32_cast (x : Nat) : (x : Int) % 4294967296 = ((x % 4294967296 : Nat) : Int) := by omega
theorem put_eq (v a n x : Nat) (h0 : v < 4294967296) (h : a + n ≤ 32) :
    bits .or .u32 (bits .andNot .u32 v (4294967295 / 2 ^ (32 - n) * 2 ^ a % 4294967296)) (bits .and .u32 ((x : Int) * 2 ^ a % 4294967296) (4294967295 / 2 ^ (32 - n) * 2 ^ a % 4294967296)) = ((putN v a n x : Nat) : Int) := by
  rw [ones_cast, mul_cast, mul_cast, mod32_cast, mod32_cast]
  have hm : 4294967295 / 2 ^ (32 - n) * 2 ^ a % 4294967296 < 4294967296 := Nat.mod_lt _ (by decide)
  have hx : x * 2 ^ a % 4294967296 < 4294967296 := Nat.mod_lt _ (by decide)
  rw [u32_andNot_nat _ _ h0 hm, u32_and_nat _ _ hx hm,
    u32_or_nat _ _ (Nat.lt_of_le_of_lt Nat.and_le_left h0) (Nat.lt_of_le_of_lt Nat.and_le_left hx), putN_code v a n x _ h0 h rfl]
/-- A word with a field, at every place and length. -/
def putI (v a n x : Int) : Int := if Fits a n then ((putN v.toNat a.toNat n.toNat x.toNat : Nat) : Int) else v
end Go.Proofs.Ytdjglmfilhodlaa
