/-
  What the document's own functions on numbers of 128 bits (warderref01: wideBit, with, double) answer; a number N is handed in as its high word N / 2^64 and its low word N % 2^64; conditions: each number is below 2^128, and what each theorem says.
-/
import Derived.Test.YtalaalpafafpbaaDoorRows
import Derived.Test.YtalaalpafafpbaaDoorMtWide
import Derived.Test.YtalaalpafafpbaaDoorNat
import Derived.StillTactics
import Derived.Laws.Pointers
import Derived.Deep.RegionHeld3
import Derived.Deep.OwnRows
namespace Go.Proofs.YtalaalpafafpbaaDoor
open Go.RowKit Nt
namespace Rf

/-- The bit of a number at a place. -/
def bitI (N : Int) (i : Nat) : Int := N / 2 ^ i % 2
theorem bitI_01 (N : Int) (i : Nat) : 0 ≤ bitI N i ∧ bitI N i ≤ 1 := by unfold bitI; omega
theorem pow_cast (i : Nat) : (2 : Int) ^ i = ((2 ^ i : Nat) : Int) := by push_cast; rfl
theorem bitI_nat (N i : Nat) : bitI N i = ((bitN N i : Nat) : Int) := by
  unfold bitI bitN
  rw [pow_cast]
  omega
theorem and_one (N : Int) (k : Nat) (h0 : 0 ≤ N) (h1 : N < 18446744073709551616) : bits .and .u64 (N / 2 ^ k) 1 = bitI N k := by
  obtain ⟨n, rfl⟩ := Int.eq_ofNat_of_zero_le h0
  rw [bitI_nat, pow_cast]
  have e : (n : Int) / ((2 ^ k : Nat) : Int) = ((n / 2 ^ k : Nat) : Int) := by omega
  have l : n / 2 ^ k ≤ n := Nat.div_le_self _ _
  rw [e, show (1 : Int) = ((1 : Nat) : Int) from rfl, u64_and_nat _ _ (by omega) (by decide), nat_mask1]
  rfl
theorem split_bits (N i : Nat) : bitN N i = if i < 64 then bitN (N % 18446744073709551616) i else bitN (N / 18446744073709551616) (i - 64) := by
  have e : N = 2 ^ 64 * (N / 18446744073709551616) + N % 18446744073709551616 := by omega
  have l : N % 18446744073709551616 < 2 ^ 64 := by omega
  rw [bitN_eq]
  conv => lhs; rw [e]
  rw [Nat.testBit_two_pow_mul_add _ l]
  by_cases h : i < 64
  · rw [if_pos h, if_pos h, bitN_eq]
  · rw [if_neg h, if_neg h, bitN_eq]
theorem bit_low (N : Int) (i : Nat) (h0 : 0 ≤ N) (h : i < 64) : bitI (N % 18446744073709551616) i = bitI N i := by
  obtain ⟨n, rfl⟩ := Int.eq_ofNat_of_zero_le h0
  have e : (n : Int) % 18446744073709551616 = ((n % 18446744073709551616 : Nat) : Int) := by omega
  rw [e, bitI_nat, bitI_nat, split_bits n i, if_pos h]
theorem bit_high (N : Int) (i : Nat) (h0 : 0 ≤ N) (h : 64 ≤ i) : bitI (N / 18446744073709551616) (i - 64) = bitI N i := by
  obtain ⟨n, rfl⟩ := Int.eq_ofNat_of_zero_le h0
  have e : (n : Int) / 18446744073709551616 = ((n / 18446744073709551616 : Nat) : Int) := by omega
  rw [e, bitI_nat, bitI_nat, split_bits n i, if_neg (by omega)]
theorem ret_u64 {a b : Int} (h : a = b) : Ending.returned (.int .u64 a) = .returned (.int .u64 b) := by rw [h]
set_option maxRecDepth 100000 in
theorem wideBit_any (N i : Int) (w : World) (h0 : 0 ≤ N) (h1 : N < 340282366920938463463374607431768211456) (i0 : 0 ≤ i) (i1 : i < 128) :
    Calls Tryd.prog 33 #[.agg #[.int .u64 (N / 18446744073709551616), .int .u64 (N % 18446744073709551616)], .int .i64 i] w fun e w' => e = .returned (.int .u64 (bitI N i.toNat)) ∧ Below w.heap.size w w' := by
  obtain ⟨i, rfl⟩ := Int.eq_ofNat_of_zero_le i0
  rw [Int.toNat_natCast]
  by_cases h : 64 ≤ i
  · have E := Lib.hid ((and_one (N / 18446744073709551616) (i - 64) (by omega) (by omega)).trans (bit_high N i h0 h))
    go_enter Tryd.func33, Tryd.ntmps33
    go_wp2
    go_ret
    refine ⟨ret_u64 ?_, (Below.refl _ _).alloc (Nat.le_refl _) _⟩
    exact E.out
  · have E := Lib.hid ((and_one (N % 18446744073709551616) i (by omega) (by omega)).trans (bit_low N i h0 (by omega)))
    go_enter Tryd.func33, Tryd.ntmps33
    go_wp2
    go_ret
    refine ⟨ret_u64 ?_, (Below.refl _ _).alloc (Nat.le_refl _) _⟩
    exact E.out
theorem or_add (a b : Int) (k : Nat) (h0 : 0 ≤ a) (h1 : a < 18446744073709551616) (h2 : 0 ≤ b) (h3 : b < 18446744073709551616) (hm : a % ((2 ^ k : Nat) : Int) = 0) (hb : b < ((2 ^ k : Nat) : Int)) : bits .or .u64 a b = a + b := by
  obtain ⟨A, rfl⟩ := Int.eq_ofNat_of_zero_le h0
  obtain ⟨B, rfl⟩ := Int.eq_ofNat_of_zero_le h2
  rw [u64_or_nat _ _ (by omega) (by omega), nat_join k A B (by omega) (by omega)]
  omega
theorem double_any (N : Int) (w : World) (h0 : 0 ≤ N) (h1 : N < 170141183460469231731687303715884105728) :
    Calls Tryd.prog 31 #[.agg #[.int .u64 (N / 18446744073709551616), .int .u64 (N % 18446744073709551616)]] w fun e w' => e = .returned (.agg #[.int .u64 (2 * N / 18446744073709551616), .int .u64 (2 * N % 18446744073709551616)]) ∧ Below w.heap.size w w' := by
  have e1 : bits .or .u64 (N / 18446744073709551616 * 2) (N % 18446744073709551616 / 9223372036854775808) = 2 * N / 18446744073709551616 := by
    rw [or_add _ _ 1 (by omega) (by omega) (by omega) (by omega) (by omega) (by omega)]
    omega
  have e2 : IntKind.u64.wrap (N % 18446744073709551616 * 2) = 2 * N % 18446744073709551616 := by rw [IntKind.wrap_u64]; omega
  have E1 := Lib.hid e1
  have E2 := Lib.hid e2
  clear e1 e2
  go_enter Tryd.func31, Tryd.ntmps31
  go_wp2
  rw [E1.out, E2.out]
  refine bodyPost_ret (v := .agg #[.int .u64 (2 * N / 18446744073709551616), .int .u64 (2 * N % 18446744073709551616)]) (by simp [results, Tryd.results31, go_sem]) rfl ⟨rfl, ?_⟩
  exact ((Below.refl _ _).alloc (Nat.le_refl _) _).alloc (by simp) _
theorem low_bit0 (N : Nat) (i : Nat) (h : bitN N i = 0) : N ||| 2 ^ i = N + 2 ^ i := by
  have h1 : N = 2 ^ i * (N / 2 ^ i) + N % 2 ^ i := (Nat.div_add_mod N (2 ^ i)).symm
  apply Nat.eq_of_testBit_eq
  intro j
  have hl : N % 2 ^ i < 2 ^ i := Nat.mod_lt _ (Nat.two_pow_pos i)
  have he : N / 2 ^ i % 2 = 0 := h
  have e2 : N + 2 ^ i = 2 ^ i * (N / 2 ^ i + 1) + N % 2 ^ i := by
    rw [Nat.mul_add, Nat.mul_one]; omega
  rw [Nat.testBit_or, Nat.testBit_two_pow, e2, Nat.testBit_two_pow_mul_add _ hl]
  by_cases hj : j < i
  · rw [if_pos hj]
    have : ¬ i = j := by omega
    conv => lhs; rw [h1]
    rw [Nat.testBit_two_pow_mul_add _ hl, if_pos hj]
    simp [this]
  · rw [if_neg hj]
    conv => lhs; rw [h1]
    rw [Nat.testBit_two_pow_mul_add _ hl, if_neg hj]
    by_cases hij : i = j
    · subst hij
      rw [Nat.sub_self, Nat.testBit_zero, Nat.testBit_zero]
      simp
      omega
    · obtain ⟨k, hk⟩ : ∃ k, j - i = k + 1 := ⟨j - i - 1, by omega⟩
      rw [hk, Nat.testBit_succ, Nat.testBit_succ]
      have : (N / 2 ^ i + 1) / 2 = N / 2 ^ i / 2 := by omega
      rw [this]
      simp [hij]
theorem or_bit (x : Int) (k : Nat) (h0 : 0 ≤ x) (h1 : x < 18446744073709551616) (hk : k < 64) (hb : bitI x k = 0) : bits .or .u64 x (2 ^ k) = x + 2 ^ k := by
  obtain ⟨X, rfl⟩ := Int.eq_ofNat_of_zero_le h0
  rw [bitI_nat] at hb
  have hp : 2 ^ k ≤ 2 ^ 63 := Nat.pow_le_pow_right (by decide) (by omega)
  rw [pow_cast, u64_or_nat _ _ (by omega) (by omega), low_bit0 X k (by omega)]
  omega
theorem pow_le63 (k : Nat) (h : k < 64) : (1 : Int) ≤ 2 ^ k ∧ (2 : Int) ^ k ≤ 9223372036854775808 := by
  have hp : 2 ^ k ≤ 2 ^ 63 := Nat.pow_le_pow_right (by decide) (by omega)
  have := Nat.two_pow_pos k
  rw [pow_cast]
  omega
theorem add_bit_lt (x : Nat) (k n : Nat) (h : x < 2 ^ n) (hk : k < n) (hb : bitN x k = 0) : x + 2 ^ k < 2 ^ n := by
  rw [← low_bit0 x k hb]
  exact Nat.or_lt_two_pow h (Nat.pow_lt_pow_right (by decide) hk)
theorem add_bit_lt64 (x : Int) (k : Nat) (h0 : 0 ≤ x) (h : x < 18446744073709551616) (hk : k < 64) (hb : bitI x k = 0) : x + 2 ^ k < 18446744073709551616 := by
  obtain ⟨X, rfl⟩ := Int.eq_ofNat_of_zero_le h0
  rw [bitI_nat] at hb
  have := add_bit_lt X k 64 (by omega) hk (by omega)
  rw [pow_cast]
  omega
theorem pow_high (i : Nat) (h : 64 ≤ i) : (2 : Int) ^ i = 2 ^ (i - 64) * 18446744073709551616 := by
  rw [show (18446744073709551616 : Int) = 2 ^ 64 from rfl, ← Int.pow_add, Nat.sub_add_cancel h]
theorem wrap_pow (k : Nat) (h : k < 64) : IntKind.u64.wrap (2 ^ k) = 2 ^ k := by
  have := pow_le63 k h
  rw [IntKind.wrap_u64, Int.emod_eq_of_lt (by omega) (by omega)]
set_option maxRecDepth 100000 in
theorem with_any (N i : Int) (w : World) (h0 : 0 ≤ N) (h1 : N < 340282366920938463463374607431768211456) (i0 : 0 ≤ i) (i1 : i < 128) (hb : bitI N i.toNat = 0) :
    Calls Tryd.prog 34 #[.agg #[.int .u64 (N / 18446744073709551616), .int .u64 (N % 18446744073709551616)], .int .i64 i] w fun e w' =>
      e = .returned (.agg #[.int .u64 ((N + 2 ^ i.toNat) / 18446744073709551616), .int .u64 ((N + 2 ^ i.toNat) % 18446744073709551616)]) ∧ Below w.heap.size w w' := by
  obtain ⟨i, rfl⟩ := Int.eq_ofNat_of_zero_le i0
  rw [Int.toNat_natCast] at hb ⊢
  by_cases h : 64 ≤ i
  · have hb2 : bitI (N / 18446744073709551616) (i - 64) = 0 := (bit_high N i h0 h).trans hb
    have e0 := or_bit (N / 18446744073709551616) (i - 64) (by omega) (by omega) (by omega) hb2
    have hp := pow_high i h
    have e1 : bits .or .u64 (N / 18446744073709551616) (IntKind.u64.wrap (2 ^ (i - 64))) = (N + 2 ^ i) / 18446744073709551616 := by
      rw [wrap_pow _ (by omega), e0, hp]; omega
    have e2 : N % 18446744073709551616 = (N + 2 ^ i) % 18446744073709551616 := by rw [hp]; omega
    have E1 := Lib.hid e1
    have E2 := Lib.hid e2
    clear e0 e1 e2 hp hb hb2
    go_enter Tryd.func34, Tryd.ntmps34
    go_wp2
    refine bodyPost_ret (v := .agg #[.int .u64 (bits .or .u64 (N / 18446744073709551616) (IntKind.u64.wrap (2 ^ (i - 64)))), .int .u64 (N % 18446744073709551616)]) (by simp [results, Tryd.results34, go_sem]) rfl ⟨by rw [E1.out, E2.out], ?_⟩
    exact ((Below.refl _ _).alloc (Nat.le_refl _) _).alloc (by simp) _
  · have hb2 : bitI (N % 18446744073709551616) i = 0 := (bit_low N i h0 (by omega)).trans hb
    have e0 := or_bit (N % 18446744073709551616) i (by omega) (by omega) (by omega) hb2
    have e3 := add_bit_lt64 (N % 18446744073709551616) i (by omega) (by omega) (by omega) hb2
    have e4 := pow_le63 i (by omega)
    have e1 : bits .or .u64 (N % 18446744073709551616) (IntKind.u64.wrap (2 ^ i)) = (N + 2 ^ i) % 18446744073709551616 := by
      rw [wrap_pow _ (by omega), e0]; omega
    have e2 : N / 18446744073709551616 = (N + 2 ^ i) / 18446744073709551616 := by omega
    have E1 := Lib.hid e1
    have E2 := Lib.hid e2
    clear e0 e1 e2 e3 e4 hb hb2
    go_enter Tryd.func34, Tryd.ntmps34
    go_wp2
    refine bodyPost_ret (v := .agg #[.int .u64 (N / 18446744073709551616), .int .u64 (bits .or .u64 (N % 18446744073709551616) (IntKind.u64.wrap (2 ^ i)))]) (by simp [results, Tryd.results34, go_sem]) rfl ⟨by rw [E1.out, E2.out], ?_⟩
    exact ((Below.refl _ _).alloc (Nat.le_refl _) _).alloc (by simp) _
/-- What was there stays. -/
def Keeps (w w' : World) : Prop := ∀ b i v, w.cell? ⟨b, i, none⟩ = some v → w'.cell? ⟨b, i, none⟩ = some v
theorem keeps {w w' : World} (h : Below w.heap.size w w') : Keeps w w' := fun b i _ hc => (h.cell (p := ⟨b, i, none⟩) (World.block_lt_of_cell? w _ hc)).trans hc
/-! ### minus -/
/-! ### Rows of two words -/
def pr (x y : Int) : Nat → Value
  | 0 => .int .u64 x
  | _ => .int .u64 y
theorem pr_row (w : World) (x y : Int) (t : TypeId) : (w.alloc (.cells #[.int .u64 x, .int .u64 y] t)).rowIs w.heap.size t 2 (pr x y) := by
  refine World.rowIs_alloc w _ t _ ?_
  intro i hi
  match i, hi with
  | 0, _ => rfl
  | 1, _ => rfl
theorem row_keep {w w' : World} {b n : Nat} {t : TypeId} {f : Nat → Value} (h : w.rowIs b t n f) (hb : Below w.heap.size w w') : w'.rowIs b t n f := h.of_block (hb.block b h.lt)
theorem pr_set {w : World} {b : Nat} {t : TypeId} {f : Nat → Value} (h : w.rowIs b t 2 f) (x y : Int) : ((w.setCell ⟨b, 0, none⟩ (.int .u64 x)).setCell ⟨b, 1, none⟩ (.int .u64 y)).rowIs b t 2 (pr x y) := by
  refine ((h.set 0 _).set 1 _).congr ?_
  intro i hi
  match i, hi with
  | 0, _ => rfl
  | 1, _ => rfl
/-! ### Add: bit by bit -/
/-- The lowest k bits of a sum, and what is carried. -/
def sumTo (A B : Int) (k : Nat) : Int := (A % 2 ^ k + B % 2 ^ k) % 2 ^ k
def carryTo (A B : Int) (k : Nat) : Int := (A % 2 ^ k + B % 2 ^ k) / 2 ^ k
theorem low_succI (A : Int) (k : Nat) : A % 2 ^ (k + 1) = A % 2 ^ k + bitI A k * 2 ^ k := by
  unfold bitI
  have hP := pow_cast k
  have h2 : (2 : Int) ^ (k + 1) = 2 ^ k * 2 := by rw [Int.pow_succ]
  have hp : (0 : Int) < 2 ^ k := by rw [hP]; have := Nat.two_pow_pos k; omega
  generalize (2 : Int) ^ k = P at *
  rw [h2, Int.emod_def A (P * 2), Int.emod_def A P, Int.emod_def (A / P) 2, ← Int.ediv_ediv_of_nonneg (by omega)]
  rw [Int.sub_mul, Int.mul_comm (A / P) P, Int.mul_assoc P 2, Int.mul_comm (2 * (A / P / 2)) P]
  omega
theorem add_step (A B : Int) (k : Nat) :
    sumTo A B (k + 1) = sumTo A B k + (bitI A k + bitI B k + carryTo A B k) % 2 * 2 ^ k ∧ carryTo A B (k + 1) = (bitI A k + bitI B k + carryTo A B k) / 2 := by
  unfold sumTo carryTo
  rw [low_succI A k, low_succI B k]
  have h2 : (2 : Int) ^ (k + 1) = 2 ^ k * 2 := by rw [Int.pow_succ]
  have hp : (0 : Int) < 2 ^ k := by rw [pow_cast]; have := Nat.two_pow_pos k; omega
  rw [h2]
  generalize A % 2 ^ k = a
  generalize B % 2 ^ k = b
  generalize bitI A k = x
  generalize bitI B k = y
  generalize (2 : Int) ^ k = P at *
  have e : a + x * P + (b + y * P) = (a + b) % P + (x + y + (a + b) / P) * P := by
    have e1 := Int.emod_add_mul_ediv (a + b) P
    rw [Int.add_mul, Int.add_mul, Int.mul_comm ((a + b) / P) P]
    omega
  have r0 : 0 ≤ (a + b) % P := Int.emod_nonneg _ (by omega)
  have r1 : (a + b) % P < P := Int.emod_lt_of_pos _ hp
  rw [e]
  generalize (a + b) % P = r at *
  generalize x + y + (a + b) / P = s at *
  have es : s = s / 2 * 2 + s % 2 := by omega
  have e3 : r + s * P = (r + s % 2 * P) + P * 2 * (s / 2) := by
    conv => lhs; rw [es]
    rw [Int.add_mul, Int.mul_assoc, Int.mul_comm (s / 2), Int.mul_comm 2 P]
    omega
  have b0 : 0 ≤ r + s % 2 * P ∧ r + s % 2 * P < P * 2 := by
    rcases (show s % 2 = 0 ∨ s % 2 = 1 by omega) with h | h
    · rw [h, Int.zero_mul]; omega
    · rw [h, Int.one_mul]; omega
  rw [e3]
  refine ⟨?_, ?_⟩
  · rw [Int.add_mul_emod_self_left, Int.emod_eq_of_lt b0.1 b0.2]
  · rw [Int.add_mul_ediv_left _ _ (by omega), Int.ediv_eq_zero_of_lt b0.1 b0.2, Int.zero_add]
end Rf
end Go.Proofs.YtalaalpafafpbaaDoor
