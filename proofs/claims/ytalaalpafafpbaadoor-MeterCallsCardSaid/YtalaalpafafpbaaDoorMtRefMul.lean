/-
  What the document's own Mul answers, at every two numbers of 64 bits.
-/
import Derived.Test.YtalaalpafafpbaaDoorMtRefAdd
namespace Go.Proofs.YtalaalpafafpbaaDoor
open Go.RowKit Nt
namespace Rf
theorem half_up (A : Int) (j : Nat) : A / 2 ^ j = A / 2 ^ (j + 1) * 2 + bitI A j := by
  unfold bitI
  have hp : (0 : Int) < 2 ^ j := by rw [pow_cast]; have := Nat.two_pow_pos j; omega
  rw [Int.pow_succ, ← Int.ediv_ediv_of_nonneg (by omega)]
  omega
theorem i_eq (j : Nat) : (((j + 1 : Nat) : Int) - 1) = (j : Int) := by omega
theorem radd_low (N a : Int) (w : World) (h0 : 0 ≤ N) (h1 : 0 ≤ a) (h2 : a < 18446744073709551616) (h : N + a < 340282366920938463463374607431768211456) :
    Calls Tryd.prog 32 #[.agg #[.int .u64 (N / 18446744073709551616), .int .u64 (N % 18446744073709551616)], .agg #[.int .u64 0, .int .u64 a]] w fun e w' =>
      e = .returned (.tuple #[.agg #[.int .u64 ((N + a) / 18446744073709551616), .int .u64 ((N + a) % 18446744073709551616)], .bool true]) ∧ Below w.heap.size w w' := by
  have c := radd_any N a w h0 (by omega) h1 (by omega)
  have e : addEnd N a = _ := if_pos h
  rw [Int.ediv_eq_zero_of_lt h1 h2, Int.emod_eq_of_lt h1 h2, e] at c
  exact c
/-- What holds at the head of Mul's loop. -/
def MulRel (X : Int) (w wr : World) : Prop :=
  wr.rowIs w.heap.size 56 2 (pr 0 0) ∧ wr.rowIs (w.heap.size + 1) 56 2 (pr (X / 18446744073709551616) (X % 18446744073709551616)) ∧ Below w.heap.size w wr
theorem MulRel.keep {X : Int} {w wr wx : World} (h : MulRel X w wr) (hb : Below wr.heap.size wr wx) : MulRel X w wx :=
  ⟨row_keep h.1 hb, row_keep h.2.1 hb, h.2.2.trans (hb.mono h.2.2.size)⟩
theorem MulRel.set {X Y : Int} {w wr : World} (h : MulRel X w wr) :
    MulRel Y w ((wr.setCell ⟨w.heap.size + 1, 0, none⟩ (.int .u64 (Y / 18446744073709551616))).setCell ⟨w.heap.size + 1, 1, none⟩ (.int .u64 (Y % 18446744073709551616))) :=
  ⟨(h.1.setOther (by simp) _).setOther (by simp) _, pr_set h.2.1 _ _, (h.2.2.setCell (by simp) _).setCell (by simp) _⟩
theorem prod_bound (a b : Int) (j : Nat) (a0 : 0 ≤ a) (a1 : a < 18446744073709551616) (b0 : 0 ≤ b) (b1 : b < 18446744073709551616) : 0 ≤ a * (b / 2 ^ j) ∧ a * (b / 2 ^ j) ≤ 340282366920938463426481119284349108225 := by
  have hp : (0 : Int) < 2 ^ j := by rw [pow_cast]; have := Nat.two_pow_pos j; omega
  have q0 : 0 ≤ b / 2 ^ j := Int.ediv_nonneg b0 (by omega)
  have q1 : b / 2 ^ j ≤ b := Int.ediv_le_self _ b0
  have h3 : a * (b / 2 ^ j) ≤ 18446744073709551615 * 18446744073709551615 := Int.mul_le_mul (by omega) (by omega) q0 (by decide)
  exact ⟨Int.mul_nonneg a0 q0, h3⟩
set_option maxRecDepth 100000 in
set_option maxHeartbeats 1600000 in
theorem rmul_any (a b : Int) (w : World) (a0 : 0 ≤ a) (a1 : a < 18446744073709551616) (b0 : 0 ≤ b) (b1 : b < 18446744073709551616) :
    Calls Tryd.prog 27 #[.int .u64 a, .int .u64 b] w fun e w' =>
      e = .returned (.agg #[.int .u64 (a * b / 18446744073709551616), .int .u64 (a * b % 18446744073709551616)]) ∧ Below w.heap.size w w' := by
  go_enter Tryd.func27, Tryd.ntmps27
  go_wp2
  go_loopw [6] (fun i wr => ∃ k : Nat, k ≤ 64 ∧ i = .int .i64 ((k : Int) - 1) ∧ MulRel (a * (b / 2 ^ k)) w wr) (fun i _ => (intOf i + 1).toNat)
  case atStart =>
    have p : (2 : Int) ^ 64 = 18446744073709551616 := rfl
    have ra := pr_row w 0 0 56
    have rb := pr_row (w.alloc (.cells #[.int .u64 0, .int .u64 0] 56)) 0 0 56
    simp only [World.size_alloc] at rb
    refine ⟨64, by omega, rfl, ?_⟩
    unfold MulRel
    rw [p, Int.ediv_eq_zero_of_lt b0 b1, Int.mul_zero]
    exact ⟨ra.alloc _, rb, ((Below.refl _ _).alloc (Nat.le_refl _) _).alloc (by simp) _⟩
  case round =>
    obtain ⟨k, hk, rfl, hrel⟩ := hrel
    have R := Lib.hid hrel
    have c0 := hrel.2.1.cell (i := 0) (by decide)
    have c1 := hrel.2.1.cell (i := 1) (by decide)
    simp only [pr] at c0 c1
    clear hrel
    match k, hk with
    | 0, hk =>
      have m0 := R.out.1.cell (i := 0) (by decide)
      have m1 := R.out.1.cell (i := 1) (by decide)
      have f0 := R.out.1.frozen 0
      have f1 := R.out.1.frozen 1
      have n0 := (pr_set R.out.1 (a * b / 18446744073709551616) (a * b % 18446744073709551616)).cell (i := 0) (by decide)
      have n1 := (pr_set R.out.1 (a * b / 18446744073709551616) (a * b % 18446744073709551616)).cell (i := 1) (by decide)
      simp only [pr] at m0 m1 n0 n1
      have e : a * (b / 2 ^ 0) = a * b := by simp
      rw [e] at c0 c1
      have bb := Lib.hid R.out.2.2
      clear R e
      go_wp2
      refine bodyPost_ret (v := .agg #[.int .u64 (a * b / 18446744073709551616), .int .u64 (a * b % 18446744073709551616)]) (by simp [results, Tryd.results27, go_sem, n0, n1]) rfl ⟨rfl, ?_⟩
      exact (bb.out.setCell (by simp) _).setCell (by simp) _
    | j + 1, hk =>
      rw [i_eq]
      have k0 : (0 : Int) ≤ (j : Int) := by omega
      have k1 : (j : Int) < 64 := by omega
      have pb := prod_bound a b (j + 1) a0 a1 b0 b1
      have pc := prod_bound a b j a0 a1 b0 b1
      have x := bitI_01 b j
      have e : a * (b / 2 ^ j) = 2 * (a * (b / 2 ^ (j + 1))) + a * bitI b j := by
        rw [half_up b j, Int.mul_add, ← Int.mul_assoc]
        omega
      have AE := Lib.hid (and_one b j b0 b1)
      have E := Lib.hid e
      have hX : 2 * (a * (b / 2 ^ (j + 1))) ≤ a * (b / 2 ^ j) := by
        have : 0 ≤ a * bitI b j := Int.mul_nonneg a0 x.1
        omega
      clear e
      generalize a * (b / 2 ^ (j + 1)) = X at *
      generalize hY : a * (b / 2 ^ j) = Y at *
      have HY := Lib.hid hY
      clear hY
      go_wp2_with fail
      refine (double_any X _ (by omega) (by omega)).mono ?_
      rintro e wx ⟨rfl, bx⟩
      have R2 := Lib.hid (R.out.keep bx)
      have q0 := R2.out.2.1.cell (i := 0) (by decide)
      have q1 := R2.out.2.1.cell (i := 1) (by decide)
      have f0 := R2.out.2.1.frozen 0
      have f1 := R2.out.2.1.frozen 1
      simp only [pr] at q0 q1
      clear bx R c0 c1
      by_cases hs : bitI b j = 1
      · have d : (bits .and .u64 (b / 2 ^ j) 1 == 1) = true := by rw [AE.out, hs]; rfl
        have EY : Y = 2 * X + a := by have := E.out; rw [hs, Int.mul_one] at this; exact this
        have EY2 := Lib.hid EY
        have lt : 2 * X + a < 340282366920938463463374607431768211456 := by omega
        have ge : 0 ≤ 2 * X := by omega
        clear EY hs
        go_wp2_with fail
        have R3 := Lib.hid (R2.out.set (Y := 2 * X))
        refine (radd_low (2 * X) a _ ge a0 a1 lt).mono ?_
        rintro e wy ⟨rfl, bq⟩
        have R4 := Lib.hid (R3.out.keep bq)
        have s0 := R4.out.2.1.cell (i := 0) (by decide)
        have s1 := R4.out.2.1.cell (i := 1) (by decide)
        have g0 := R4.out.2.1.frozen 0
        have g1 := R4.out.2.1.frozen 1
        simp only [pr] at s0 s1
        clear bq R3 R2 q0 q1 f0 f1
        go_wp2
        go_roundw
        case rel => exact ⟨j, by omega, by go_num, by rw [HY.out, EY2.out]; exact R4.out.set⟩
        case measure => simp [intOf]
      · have d : (bits .and .u64 (b / 2 ^ j) 1 == 1) = false := by rw [AE.out]; simpa using hs
        have hz : bitI b j = 0 := by omega
        have EY : Y = 2 * X := by have := E.out; rw [hz, Int.mul_zero, Int.add_zero] at this; exact this
        have EY2 := Lib.hid EY
        clear EY hs hz
        go_wp2
        go_roundw
        case rel => exact ⟨j, by omega, by go_num, by rw [HY.out, EY2.out]; exact R2.out.set⟩
        case measure => simp [intOf]
end Rf
end Go.Proofs.YtalaalpafafpbaaDoor
