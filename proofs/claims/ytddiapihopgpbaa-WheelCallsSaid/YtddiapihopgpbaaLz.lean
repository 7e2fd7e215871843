/-
  What math/bits.Len64 and LeadingZeros64 answer, at every number of 64 bits.
-/
import Derived.Test.YtddiapihopgpbaaRows
import Derived.WalkKit
import Derived.WalkSpells
import Derived.WalkLawsBesides
import Derived.Outline
import Derived.IntWalk
import Derived.Lib.Hide
import Derived.Lib.BitFns
namespace Go.Proofs.Ytddiapihopgpbaa
open Go.RowKit
theorem tab_size : Lib.len8tab.size = 256 := by decide +kernel
theorem tab_fin : ∀ n : Fin 256, (Lib.len8tab[n.val]'(by rw [tab_size]; exact n.isLt)).toNat = Lib.bitLen n.val ∧ Lib.bitLen n.val ≤ 8 := by decide +kernel
theorem tab_at (i : Nat) (hi : i < Lib.len8tab.size) (h : i < 256) : (Lib.len8tab[i]'hi).toNat = Lib.bitLen i := (tab_fin ⟨i, h⟩).1
theorem len_close (c : Int) (X i t : Nat) (ht : t = Lib.bitLen i) (h : i < 256) (h0 : 0 ≤ c) (h1 : c ≤ 56) (hb : (Lib.bitLen X : Int) = c + Lib.bitLen i) :
    wrap64 (c + wrap64 (t : Int)) = (Lib.bitLen X : Nat) := by
  have l := (tab_fin ⟨i, h⟩).2
  simp only at l
  rw [ht, hb]
  unfold wrap64
  omega
set_option maxRecDepth 100000 in
set_option maxHeartbeats 1000000 in
theorem len64_any (x : Int) (w : World) (h0 : 0 ≤ x) (h1 : x ≤ 18446744073709551615) :
    Calls Try.prog 40 #[.int .u64 x] w fun e w' => e = .returned (.int .i64 (Lib.bitLen x.toNat)) ∧ w = w' := by
  have hz : Lib.len8tab.size = 256 := by decide +kernel
  go_enter Try.func40, Try.ntmps40
  go_wp2
  all_goals (go_ret; refine ⟨congrArg Ending.returned (congrArg (Value.int IntKind.i64) ?_), rfl⟩)
  · refine len_close 56 x.toNat _ _ (tab_at _ _ (by omega)) (by omega) (by decide) (by decide) ?_
    rw [show (x / 4294967296 / 65536 / 256).toNat = x.toNat / 72057594037927936 by omega, Lib.bitLen_shift56 x.toNat (by omega) (by omega)]
    omega
  · refine len_close 48 x.toNat _ _ (tab_at _ _ (by omega)) (by omega) (by decide) (by decide) ?_
    rw [show (x / 4294967296 / 65536).toNat = x.toNat / 281474976710656 by omega, Lib.bitLen_shift48 x.toNat (by omega) (by omega)]
    omega
  · refine len_close 40 x.toNat _ _ (tab_at _ _ (by omega)) (by omega) (by decide) (by decide) ?_
    rw [show (x / 4294967296 / 256).toNat = x.toNat / 1099511627776 by omega, Lib.bitLen_shift40 x.toNat (by omega) (by omega)]
    omega
  · refine len_close 32 x.toNat _ _ (tab_at _ _ (by omega)) (by omega) (by decide) (by decide) ?_
    rw [show (x / 4294967296).toNat = x.toNat / 4294967296 by omega, Lib.bitLen_shift32 x.toNat (by omega) (by omega)]
    omega
  · refine len_close 24 x.toNat _ _ (tab_at _ _ (by omega)) (by omega) (by decide) (by decide) ?_
    rw [show (x / 65536 / 256).toNat = x.toNat / 16777216 by omega, Lib.bitLen_shift24 x.toNat (by omega) (by omega)]
    omega
  · refine len_close 16 x.toNat _ _ (tab_at _ _ (by omega)) (by omega) (by decide) (by decide) ?_
    rw [show (x / 65536).toNat = x.toNat / 65536 by omega, Lib.bitLen_shift16 x.toNat (by omega) (by omega)]
    omega
  · refine len_close 8 x.toNat _ _ (tab_at _ _ (by omega)) (by omega) (by decide) (by decide) ?_
    rw [show (x / 256).toNat = x.toNat / 256 by omega, Lib.bitLen_shift8 x.toNat (by omega) (by omega)]
    omega
  · have e := len_close 0 x.toNat x.toNat _ (tab_at _ (by omega) (by omega)) (by omega) (by decide) (by decide) (by omega)
    rw [Int.zero_add] at e
    exact e
theorem len_bounds : ∀ (f x : Nat), x < 2 ^ f → f ≤ 64 → x ≠ 0 → 2 ^ (Lib.bitLen x - 1) ≤ x ∧ x < 2 ^ Lib.bitLen x ∧ 1 ≤ Lib.bitLen x ∧ Lib.bitLen x ≤ f
  | 0, x, h, _, h0 => by omega
  | f + 1, x, h, hf, h0 => by
    have h64 : x < 2 ^ 64 := Nat.lt_of_lt_of_le h (Nat.pow_le_pow_right (by decide) hf)
    have e := Lib.bitLen_half x h0 h64
    by_cases h1 : x / 2 = 0
    · have : x = 1 := by omega
      subst this
      have e1 : Lib.bitLen 1 = 1 := by decide +kernel
      rw [e1]
      refine ⟨by decide, by decide, by decide, by omega⟩
    · have i := len_bounds f (x / 2) (by rw [Nat.pow_succ] at h; omega) (by omega) h1
      obtain ⟨i1, i2, i3, i4⟩ := i
      have p1 : 2 ^ (Lib.bitLen x) = 2 * 2 ^ (Lib.bitLen (x / 2)) := by rw [e, Nat.add_comm, Nat.pow_succ, Nat.mul_comm]
      have p2 : 2 ^ (Lib.bitLen x - 1) = 2 * 2 ^ (Lib.bitLen (x / 2) - 1) := by
        rw [show Lib.bitLen x - 1 = (Lib.bitLen (x / 2) - 1) + 1 by omega, Nat.pow_succ, Nat.mul_comm]
      rw [p1, p2]
      refine ⟨by omega, by omega, by omega, by omega⟩
/-- How far a number can be shifted up. -/
def lz (y : Int) : Nat := 64 - Lib.bitLen y.toNat
theorem lz_fits (y : Int) (h0 : 1 ≤ y) (h1 : y < 18446744073709551616) : lz y ≤ 63 ∧ 9223372036854775808 ≤ y * (2 ^ lz y : Nat) ∧ y * (2 ^ lz y : Nat) < 18446744073709551616 := by
  obtain ⟨Y, rfl⟩ := Int.eq_ofNat_of_zero_le (show 0 ≤ y by omega)
  unfold lz
  rw [Int.toNat_natCast]
  obtain ⟨b1, b2, b3, b4⟩ := len_bounds 64 Y (by omega) (by decide) (by omega)
  generalize Lib.bitLen Y = L at *
  have e1 : 2 ^ (L - 1) * 2 ^ (64 - L) = 9223372036854775808 := by rw [← Nat.pow_add, show L - 1 + (64 - L) = 63 by omega]
  have e2 : 2 ^ L * 2 ^ (64 - L) = 18446744073709551616 := by rw [← Nat.pow_add, show L + (64 - L) = 64 by omega]
  have m1 : 2 ^ (L - 1) * 2 ^ (64 - L) ≤ Y * 2 ^ (64 - L) := Nat.mul_le_mul_right _ b1
  have m2 : Y * 2 ^ (64 - L) < 2 ^ L * 2 ^ (64 - L) := Nat.mul_lt_mul_of_pos_right b2 (Nat.two_pow_pos _)
  rw [← Int.natCast_mul]
  omega
end Go.Proofs.Ytddiapihopgpbaa
