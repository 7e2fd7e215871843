/-
  What the document's own Compare of numbers of 128 bits answers; a number N is handed in as its words N / 2^64 and N % 2^64, below 2^128.
-/
import Derived.Test.YtlbdklkocjlobaaRef
namespace Go.Proofs.Ytlbdklkocjlobaa
open Go.RowKit Nt
namespace Rf
theorem half_up (A : Int) (j : Nat) : A / 2 ^ j = A / 2 ^ (j + 1) * 2 + bitI A j := by
  unfold bitI
  have hp : (0 : Int) < 2 ^ j := by rw [pow_cast]; have := Nat.two_pow_pos j; omega
  rw [Int.pow_succ, ← Int.ediv_ediv_of_nonneg (by omega)]
  omega
theorem less_of (A B : Int) (j : Nat) (h : A / 2 ^ j < B / 2 ^ j) : A < B := by
  rcases Int.lt_or_le A B with g | g
  · exact g
  · have hp : (0 : Int) < 2 ^ j := by rw [pow_cast]; have := Nat.two_pow_pos j; omega
    have := Int.ediv_le_ediv hp g
    omega
theorem ord_less {A B : Int} (h : A < B) : ord A B = -1 := if_pos h
theorem ord_more {A B : Int} (h : B < A) : ord A B = 1 := by unfold ord; rw [if_neg (by omega), if_pos h]
theorem ord_same {A B : Int} (h : A = B) : ord A B = 0 := by unfold ord; rw [if_neg (by omega), if_neg (by omega)]
/-- What holds at the head of Compare's loop. -/
def CmpRel (A B : Int) (w wr : World) : Prop :=
  wr.rowIs w.heap.size 43 2 (pr (A / 18446744073709551616) (A % 18446744073709551616)) ∧ wr.rowIs (w.heap.size + 1) 43 2 (pr (B / 18446744073709551616) (B % 18446744073709551616)) ∧ Below w.heap.size w wr
theorem CmpRel.keep {A B : Int} {w wr wx : World} (h : CmpRel A B w wr) (hb : Below wr.heap.size wr wx) : CmpRel A B w wx :=
  ⟨row_keep h.1 hb, row_keep h.2.1 hb, h.2.2.trans (hb.mono h.2.2.size)⟩
theorem i_eq (j : Nat) : (((j + 1 : Nat) : Int) - 1) = (j : Int) := by omega
set_option maxRecDepth 100000 in
set_option maxHeartbeats 1600000 in
theorem rcmp_any (A B : Int) (w : World) (a0 : 0 ≤ A) (a1 : A < 340282366920938463463374607431768211456) (b0 : 0 ≤ B) (b1 : B < 340282366920938463463374607431768211456) :
    Calls Try.prog 31 #[.agg #[.int .u64 (A / 18446744073709551616), .int .u64 (A % 18446744073709551616)], .agg #[.int .u64 (B / 18446744073709551616), .int .u64 (B % 18446744073709551616)]] w fun e w' =>
      e = .returned (.int .i64 (ord A B)) ∧ Below w.heap.size w w' := by
  go_enter Try.func31, Try.ntmps31
  go_wp2
  go_loopw [5] (fun i wr => ∃ k : Nat, k ≤ 128 ∧ i = .int .i64 ((k : Int) - 1) ∧ Hid (A / 2 ^ k = B / 2 ^ k) ∧ CmpRel A B w wr) (fun i _ => (intOf i + 1).toNat)
  case atStart =>
    have p : (2 : Int) ^ 128 = 340282366920938463463374607431768211456 := rfl
    have ra := pr_row w (A / 18446744073709551616) (A % 18446744073709551616) 43
    have rb := pr_row (w.alloc (.cells #[.int .u64 (A / 18446744073709551616), .int .u64 (A % 18446744073709551616)] 43)) (B / 18446744073709551616) (B % 18446744073709551616) 43
    simp only [World.size_alloc] at rb
    exact ⟨128, by omega, rfl, Lib.hid (by rw [p, Int.ediv_eq_zero_of_lt a0 a1, Int.ediv_eq_zero_of_lt b0 b1]), ra.alloc _, rb, ((Below.refl _ _).alloc (Nat.le_refl _) _).alloc (by simp) _⟩
  case round =>
    obtain ⟨k, hk, rfl, HE, hrel⟩ := hrel
    have R := Lib.hid hrel
    have ca0 := hrel.1.cell (i := 0) (by decide)
    have ca1 := hrel.1.cell (i := 1) (by decide)
    simp only [pr] at ca0 ca1
    clear hrel
    match k, hk, HE with
    | 0, hk, HE =>
      go_wp2
      go_ret
      have e : A = B := by have := HE.out; simpa using this
      exact ⟨ret_i64 (ord_same e).symm, R.out.2.2⟩
    | j + 1, hk, HE =>
      rw [i_eq]
      have x := bitI_01 A j
      have y := bitI_01 B j
      have k0 : (0 : Int) ≤ (j : Int) := by omega
      have k1 : (j : Int) < 128 := by omega
      have ha := half_up A j
      have hb := half_up B j
      rw [HE.out] at ha
      have HA := Lib.hid ha
      have HB := Lib.hid hb
      clear ha hb
      go_wp2_with fail
      refine (wideBit_any A _ _ a0 a1 k0 k1).mono ?_
      rintro e wx ⟨rfl, bx⟩
      have R2 := Lib.hid (R.out.keep bx)
      have cb0 := R2.out.2.1.cell (i := 0) (by decide)
      have cb1 := R2.out.2.1.cell (i := 1) (by decide)
      simp only [pr] at cb0 cb1
      clear bx R
      go_wp2_with fail
      refine (wideBit_any B _ _ b0 b1 k0 k1).mono ?_
      rintro e wy ⟨rfl, bq⟩
      have R3 := Lib.hid (R2.out.keep bq)
      clear bq R2 ca0 ca1 cb0 cb1
      by_cases h1 : bitI A j < bitI B j
      · have o := Lib.hid (ord_less (less_of A B j (by rw [HA.out, HB.out]; omega)))
        go_wp2
        go_ret
        exact ⟨ret_i64 o.out.symm, R3.out.2.2⟩
      · by_cases h2 : bitI B j < bitI A j
        · have o := Lib.hid (ord_more (less_of B A j (by rw [HA.out, HB.out]; omega)))
          go_wp2
          go_ret
          exact ⟨ret_i64 o.out.symm, R3.out.2.2⟩
        · have o := Lib.hid (show A / 2 ^ j = B / 2 ^ j by rw [HA.out, HB.out]; omega)
          go_wp2
          go_roundw
          case rel => exact ⟨j, by omega, by go_num, o, R3.out⟩
          case measure => simp [intOf]
end Rf
end Go.Proofs.Ytlbdklkocjlobaa
