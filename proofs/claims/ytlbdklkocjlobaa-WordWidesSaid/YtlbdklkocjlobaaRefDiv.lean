/-
  What the document's own Div answers, at every number of 128 bits (handed in as its words N / 2^64 and N % 2^64) and every divisor that isn't 0.
-/
import Derived.Test.YtlbdklkocjlobaaRefMul
import Derived.Test.YtlbdklkocjlobaaDivNum
namespace Go.Proofs.Ytlbdklkocjlobaa
open Go.RowKit Nt
namespace Rf
theorem rcmp_low (N b : Int) (w : World) (h0 : 0 ≤ N) (h1 : N < 340282366920938463463374607431768211456) (b0 : 0 ≤ b) (b1 : b < 18446744073709551616) :
    Calls Try.prog 31 #[.agg #[.int .u64 (N / 18446744073709551616), .int .u64 (N % 18446744073709551616)], .agg #[.int .u64 0, .int .u64 b]] w fun e w' =>
      e = .returned (.int .i64 (ord N b)) ∧ Below w.heap.size w w' := by
  have c := rcmp_any N b w h0 h1 b0 (by omega)
  rw [Int.ediv_eq_zero_of_lt b0 b1, Int.emod_eq_of_lt b0 b1] at c
  exact c
/-- What holds at the head of Div's loop: the number's box, the result's, the quotient so far (Q, shifted up), the rest so far. -/
def DivRel (A q r : Int) (w wr : World) : Prop :=
  wr.rowIs w.heap.size 43 2 (pr (A / 18446744073709551616) (A % 18446744073709551616)) ∧ wr.rowIs (w.heap.size + 1) 43 2 (pr 0 0) ∧
  wr.rowIs (w.heap.size + 2) 43 2 (pr (q / 18446744073709551616) (q % 18446744073709551616)) ∧ wr.rowIs (w.heap.size + 3) 43 2 (pr (r / 18446744073709551616) (r % 18446744073709551616)) ∧ Below w.heap.size w wr
theorem DivRel.keep {A q r : Int} {w wr wx : World} (h : DivRel A q r w wr) (hb : Below wr.heap.size wr wx) : DivRel A q r w wx :=
  ⟨row_keep h.1 hb, row_keep h.2.1 hb, row_keep h.2.2.1 hb, row_keep h.2.2.2.1 hb, h.2.2.2.2.trans (hb.mono h.2.2.2.2.size)⟩
theorem DivRel.drew {A q r : Int} {w wr : World} (h : DivRel A q r w wr) : DivRel A q r w wr.drew := ⟨h.1, h.2.1, h.2.2.1, h.2.2.2.1, h.2.2.2.2.drew⟩
theorem DivRel.setR {A q r s : Int} {w wr : World} (h : DivRel A q r w wr) :
    DivRel A q s w ((wr.setCell ⟨w.heap.size + 3, 0, none⟩ (.int .u64 (s / 18446744073709551616))).setCell ⟨w.heap.size + 3, 1, none⟩ (.int .u64 (s % 18446744073709551616))) :=
  ⟨(h.1.setOther (by simp) _).setOther (by simp) _, (h.2.1.setOther (by simp) _).setOther (by simp) _, (h.2.2.1.setOther (by simp) _).setOther (by simp) _, pr_set h.2.2.2.1 _ _, (h.2.2.2.2.setCell (by simp) _).setCell (by simp) _⟩
theorem DivRel.setQ {A q r s : Int} {w wr : World} (h : DivRel A q r w wr) :
    DivRel A s r w ((wr.setCell ⟨w.heap.size + 2, 0, none⟩ (.int .u64 (s / 18446744073709551616))).setCell ⟨w.heap.size + 2, 1, none⟩ (.int .u64 (s % 18446744073709551616))) :=
  ⟨(h.1.setOther (by simp) _).setOther (by simp) _, (h.2.1.setOther (by simp) _).setOther (by simp) _, pr_set h.2.2.1 _ _, (h.2.2.2.1.setOther (by simp) _).setOther (by simp) _, (h.2.2.2.2.setCell (by simp) _).setCell (by simp) _⟩
/-- The low word alone is written. -/
theorem pr_set1 {w : World} {b : Nat} {t : TypeId} {x y : Int} (h : w.rowIs b t 2 (pr x y)) (z : Int) : (w.setCell ⟨b, 1, none⟩ (.int .u64 z)).rowIs b t 2 (pr x z) := by
  refine (h.set 1 _).congr ?_
  intro i hi
  match i, hi with
  | 0, _ => rfl
  | 1, _ => rfl
theorem DivRel.setLow {A q r s z : Int} {w wr : World} (h : DivRel A q r w wr) (e1 : r / 18446744073709551616 = s / 18446744073709551616) (e2 : z = s % 18446744073709551616) :
    DivRel A q s w (wr.setCell ⟨w.heap.size + 3, 1, none⟩ (.int .u64 z)) := by
  refine ⟨h.1.setOther (by simp) _, h.2.1.setOther (by simp) _, h.2.2.1.setOther (by simp) _, ?_, h.2.2.2.2.setCell (by simp) _⟩
  rw [← e1, ← e2]
  exact pr_set1 h.2.2.2.1 z
/-- One digit more. -/
theorem div_step (A b : Int) (j : Nat) (hb : 0 < b) :
    (A / 2 ^ (j + 1)) % b * 2 + bitI A j < b ∧ A / 2 ^ j / b = A / 2 ^ (j + 1) / b * 2 ∧ A / 2 ^ j % b = A / 2 ^ (j + 1) % b * 2 + bitI A j ∨
    b ≤ (A / 2 ^ (j + 1)) % b * 2 + bitI A j ∧ A / 2 ^ j / b = A / 2 ^ (j + 1) / b * 2 + 1 ∧ A / 2 ^ j % b = A / 2 ^ (j + 1) % b * 2 + bitI A j - b := by
  have x := bitI_01 A j
  have e := half_up A j
  have r0 : 0 ≤ A / 2 ^ (j + 1) % b := Int.emod_nonneg _ (by omega)
  have r1 : A / 2 ^ (j + 1) % b < b := Int.emod_lt_of_pos _ hb
  have d := Int.emod_add_mul_ediv (A / 2 ^ (j + 1)) b
  rw [e]
  generalize A / 2 ^ (j + 1) = N at *
  generalize bitI A j = t at *
  generalize hq : N / b = Q at *
  generalize hr : N % b = R at *
  have hN : N * 2 + t = Q * 2 * b + (R * 2 + t) := by
    rw [← d, Int.mul_comm b Q, Int.mul_right_comm Q 2 b]
    omega
  by_cases h : R * 2 + t < b
  · left
    obtain ⟨u1, u2⟩ := Dv.uniq hN (by omega) h
    exact ⟨h, u1, u2⟩
  · right
    have hN2 : N * 2 + t = (Q * 2 + 1) * b + (R * 2 + t - b) := by
      rw [hN, Int.add_mul (Q * 2) 1 b, Int.one_mul]
      omega
    obtain ⟨u1, u2⟩ := Dv.uniq hN2 (by omega) (by omega)
    exact ⟨by omega, u1, u2⟩
theorem bit_shift (Q : Int) (j : Nat) : bitI (Q * 2 ^ (j + 1)) j = 0 := by
  unfold bitI
  have hp : (0 : Int) < 2 ^ j := by rw [pow_cast]; have := Nat.two_pow_pos j; omega
  rw [Int.pow_succ, ← Int.mul_assoc, Int.mul_right_comm, Int.mul_ediv_cancel _ (by omega)]
  omega
theorem quo_range (A b : Int) (k : Nat) (a0 : 0 ≤ A) (hb : 0 < b) : 0 ≤ A / 2 ^ k / b * 2 ^ k ∧ A / 2 ^ k / b * 2 ^ k ≤ A := by
  have hp : (0 : Int) < 2 ^ k := by rw [pow_cast]; have := Nat.two_pow_pos k; omega
  have h1 : 0 ≤ A / 2 ^ k := Int.ediv_nonneg a0 (by omega)
  have h2 : 0 ≤ A / 2 ^ k / b := Int.ediv_nonneg h1 (by omega)
  have h3 : A / 2 ^ k / b ≤ A / 2 ^ k := Int.ediv_le_self _ h1
  have h4 : A / 2 ^ k / b * 2 ^ k ≤ A / 2 ^ k * 2 ^ k := Int.mul_le_mul_of_nonneg_right h3 (by omega)
  have h5 : A / 2 ^ k * 2 ^ k ≤ A := Int.ediv_mul_le A (by omega)
  exact ⟨Int.mul_nonneg h2 (by omega), by omega⟩
theorem or_low (r t : Int) (t0 : 0 ≤ t) (t1 : t ≤ 1) : bits .or .u64 (2 * r % 18446744073709551616) t = (2 * r + t) % 18446744073709551616 ∧ 2 * r / 18446744073709551616 = (2 * r + t) / 18446744073709551616 := by
  refine ⟨?_, by omega⟩
  rw [or_add _ _ 1 (by omega) (by omega) t0 (by omega) (by omega) (by omega)]
  omega
theorem ord_ge {N b : Int} (h : b ≤ N) : decide (0 ≤ ord N b) = true := by
  unfold ord
  by_cases g : b < N
  · rw [if_neg (by omega), if_pos g]; rfl
  · rw [if_neg (by omega), if_neg g]; rfl
theorem ord_lt {N b : Int} (h : N < b) : decide (0 ≤ ord N b) = false := by unfold ord; rw [if_pos h]; rfl
set_option maxRecDepth 100000 in
set_option maxHeartbeats 3200000 in
theorem rdiv_any (A b : Int) (w : World) (a0 : 0 ≤ A) (a1 : A < 340282366920938463463374607431768211456) (b0 : 1 ≤ b) (b1 : b < 18446744073709551616) :
    Calls Try.prog 27 #[.agg #[.int .u64 (A / 18446744073709551616), .int .u64 (A % 18446744073709551616)], .int .u64 b] w fun e w' =>
      e = .returned (.tuple #[.agg #[.int .u64 (A / b / 18446744073709551616), .int .u64 (A / b % 18446744073709551616)], .int .u64 (A % b), .bool true]) ∧ Below w.heap.size w w' := by
  have hz : (b == 0) = false := by simp; omega
  have hb : 0 < b := by omega
  go_enter Try.func27, Try.ntmps27
  go_wp2
  go_loopw [9] (fun i wr => ∃ k : Nat, k ≤ 128 ∧ i = .int .i64 ((k : Int) - 1) ∧ DivRel A (A / 2 ^ k / b * 2 ^ k) (A / 2 ^ k % b) w wr) (fun i _ => (intOf i + 1).toNat)
  case atStart =>
    have p : (2 : Int) ^ 128 = 340282366920938463463374607431768211456 := rfl
    have ra := pr_row w (A / 18446744073709551616) (A % 18446744073709551616) 43
    have rb := pr_row (w.alloc (.cells #[.int .u64 (A / 18446744073709551616), .int .u64 (A % 18446744073709551616)] 43)) 0 0 43
    have rc := pr_row ((w.alloc (.cells #[.int .u64 (A / 18446744073709551616), .int .u64 (A % 18446744073709551616)] 43)).alloc (.cells #[.int .u64 0, .int .u64 0] 43)) 0 0 43
    have rd := pr_row (((w.alloc (.cells #[.int .u64 (A / 18446744073709551616), .int .u64 (A % 18446744073709551616)] 43)).alloc (.cells #[.int .u64 0, .int .u64 0] 43)).alloc (.cells #[.int .u64 0, .int .u64 0] 43)) 0 0 43
    simp only [World.size_alloc] at rb rc rd
    refine ⟨128, by omega, rfl, ?_⟩
    unfold DivRel
    rw [p, Int.ediv_eq_zero_of_lt a0 a1]
    simp only [Int.zero_ediv, Int.zero_mul, Int.zero_emod]
    exact ⟨((ra.alloc _).alloc _).alloc _, (rb.alloc _).alloc _, rc.alloc _, rd, ((((Below.refl _ _).alloc (Nat.le_refl _) _).alloc (by simp) _).alloc (by simp; omega) _).alloc (by simp; omega) _⟩
  case round =>
    obtain ⟨k, hk, rfl, hrel⟩ := hrel
    have R := Lib.hid hrel
    clear hrel
    match k, hk with
    | 0, hk =>
      have e1 : A / 2 ^ 0 / b * 2 ^ 0 = A / b := by simp
      have e2 : A / 2 ^ 0 % b = A % b := by simp
      have R0 := R.out
      rw [e1, e2] at R0
      have r0 : 0 ≤ A % b := Int.emod_nonneg _ (by omega)
      have r1 : A % b < b := Int.emod_lt_of_pos _ hb
      have e3 : A % b % 18446744073709551616 = A % b := Int.emod_eq_of_lt r0 (by omega)
      have c0 := R0.2.2.1.cell (i := 0) (by decide)
      have c1 := R0.2.2.1.cell (i := 1) (by decide)
      have d1 := R0.2.2.2.1.cell (i := 1) (by decide)
      have m0 := R0.2.1.cell (i := 0) (by decide)
      have m1 := R0.2.1.cell (i := 1) (by decide)
      have f0 := R0.2.1.frozen 0
      have f1 := R0.2.1.frozen 1
      have n0 := (pr_set R0.2.1 (A / b / 18446744073709551616) (A / b % 18446744073709551616)).cell (i := 0) (by decide)
      have n1 := (pr_set R0.2.1 (A / b / 18446744073709551616) (A / b % 18446744073709551616)).cell (i := 1) (by decide)
      simp only [pr] at c0 c1 d1 m0 m1 n0 n1
      rw [e3] at d1
      have bb := Lib.hid R0.2.2.2.2
      clear R R0 e1 e2 e3
      go_wp2
      go_region
      all_goals
        go_wp2
        refine bodyPost_ret (v := .tuple #[.agg #[.int .u64 (A / b / 18446744073709551616), .int .u64 (A / b % 18446744073709551616)], .int .u64 (A % b), .bool true]) (by simp [results, Try.results27, go_sem, n0, n1]) rfl ⟨rfl, ?_⟩
        exact ((bb.out.setCell (by simp) _).setCell (by simp) _).drew
    | j + 1, hk =>
      rw [i_eq]
      have k0 : (0 : Int) ≤ (j : Int) := by omega
      have k1 : (j : Int) < 128 := by omega
      have x := bitI_01 A j
      have DS := Lib.hid (div_step A b j hb)
      have SH := Lib.hid (bit_shift (A / 2 ^ (j + 1) / b) j)
      have qr := quo_range A b (j + 1) a0 hb
      have r0 : 0 ≤ A / 2 ^ (j + 1) % b := Int.emod_nonneg _ (by omega)
      have r1 : A / 2 ^ (j + 1) % b < b := Int.emod_lt_of_pos _ hb
      have P2 := Lib.hid (show (2 : Int) ^ (j + 1) = 2 ^ j * 2 from by rw [Int.pow_succ])
      generalize hQ : A / 2 ^ (j + 1) / b = Q at *
      generalize hr : A / 2 ^ (j + 1) % b = r at *
      clear hQ hr
      generalize hq : Q * 2 ^ (j + 1) = q at *
      have HQ := Lib.hid hq
      clear hq
      have c0 := R.out.2.2.2.1.cell (i := 0) (by decide)
      have c1 := R.out.2.2.2.1.cell (i := 1) (by decide)
      simp only [pr] at c0 c1
      go_wp2_with fail
      refine (double_any r _ (by omega) (by omega)).mono ?_
      rintro e wx ⟨rfl, bx⟩
      have R2 := Lib.hid (R.out.keep bx)
      have q0 := R2.out.2.2.2.1.cell (i := 0) (by decide)
      have q1 := R2.out.2.2.2.1.cell (i := 1) (by decide)
      have f0 := R2.out.2.2.2.1.frozen 0
      have f1 := R2.out.2.2.2.1.frozen 1
      simp only [pr] at q0 q1
      clear bx R c0 c1
      go_wp2_with fail
      have R3 := Lib.hid (R2.out.setR (s := 2 * r))
      revert R3
      generalize (wx.setCell ⟨w.heap.size + 1 + 1 + 1, 0, none⟩ (.int .u64 (2 * r / 18446744073709551616))).setCell ⟨w.heap.size + 1 + 1 + 1, 1, none⟩ (.int .u64 (2 * r % 18446744073709551616)) = V
      intro R3
      clear R2 q0 q1 f0 f1
      have v1 := R3.out.2.2.2.1.cell (i := 1) (by decide)
      have g1 := R3.out.2.2.2.1.frozen 1
      have va0 := R3.out.1.cell (i := 0) (by decide)
      have va1 := R3.out.1.cell (i := 1) (by decide)
      simp only [pr] at v1 va0 va1
      have OL := Lib.hid (or_low r (bitI A j) x.1 x.2)
      go_region_with (go_at_call 38; refine (wideBit_any A _ _ a0 a1 k0 k1).mono ?_; rintro e wy ⟨rfl, bq⟩; have R4 := Lib.hid (R3.out.drew.keep bq); have h1 := R4.out.2.2.2.1.frozen 1; have u1 := keeps bq _ _ _ v1)
      all_goals
        rw [OL.out.1]
        have R5 := Lib.hid (R4.out.setLow (s := 2 * r + bitI A j) OL.out.2 rfl)
        revert R5
        generalize wy.setCell ⟨w.heap.size + 1 + 1 + 1, 1, none⟩ (.int .u64 ((2 * r + bitI A j) % 18446744073709551616)) = V2
        intro R5
        clear R3 R4 bq h1 u1 v1 g1 va0 va1 OL
        have c0 := R5.out.2.2.2.1.cell (i := 0) (by decide)
        have c1 := R5.out.2.2.2.1.cell (i := 1) (by decide)
        simp only [pr] at c0 c1
        go_wp2_with fail
        refine (rcmp_low (2 * r + bitI A j) b _ (by omega) (by omega) (by omega) b1).mono ?_
        rintro e wz ⟨rfl, bz⟩
        have R6 := Lib.hid (R5.out.keep bz)
        clear bz R5 c0 c1
        have c0 := R6.out.2.2.2.1.cell (i := 0) (by decide)
        have c1 := R6.out.2.2.2.1.cell (i := 1) (by decide)
        simp only [pr] at c0 c1
        rcases DS.out with ⟨l1, l2, l3⟩ | ⟨l1, l2, l3⟩
        · have d := ord_lt (show 2 * r + bitI A j < b by omega)
          have L2 := Lib.hid (show A / 2 ^ j / b * 2 ^ j = q by rw [l2, ← HQ.out, P2.out, Int.mul_assoc, Int.mul_comm 2])
          have L3 := Lib.hid (show A / 2 ^ j % b = 2 * r + bitI A j by rw [l3]; omega)
          clear l1 l2 l3
          go_wp2
          go_roundw
          case rel => exact ⟨j, by omega, by go_num, by rw [L2.out, L3.out]; exact R6.out⟩
          case measure => simp [intOf]
        · have d := ord_ge (show b ≤ 2 * r + bitI A j by omega)
          have L2 := Lib.hid (show A / 2 ^ j / b * 2 ^ j = q + 2 ^ j by rw [l2, ← HQ.out, P2.out, Int.add_mul, Int.one_mul, Int.mul_assoc, Int.mul_comm 2])
          have L3 := Lib.hid (show A / 2 ^ j % b = 2 * r + bitI A j - b by rw [l3]; omega)
          have hge : b ≤ 2 * r + bitI A j := by omega
          clear l1 l2 l3
          go_wp2_with fail
          refine (minus_any (2 * r + bitI A j) b _ (by omega) (by omega) (by omega) b1 hge).mono ?_
          rintro e wm ⟨rfl, bm⟩
          have R7 := Lib.hid (R6.out.keep bm)
          have s0 := R7.out.2.2.2.1.cell (i := 0) (by decide)
          have s1 := R7.out.2.2.2.1.cell (i := 1) (by decide)
          have t0 := R7.out.2.2.2.1.frozen 0
          have t1 := R7.out.2.2.2.1.frozen 1
          have R8 := Lib.hid (R7.out.setR (s := 2 * r + bitI A j - b))
          have y0 := R8.out.2.2.1.cell (i := 0) (by decide)
          have y1 := R8.out.2.2.1.cell (i := 1) (by decide)
          simp only [pr] at s0 s1 y0 y1
          clear bm R6 R7 c0 c1
          go_wp2_with fail
          refine (with_any q _ _ (by omega) (by omega) k0 k1 (by simpa using SH.out)).mono ?_
          rintro e wn ⟨rfl, bn⟩
          have R9 := Lib.hid (R8.out.keep bn)
          have z0 := R9.out.2.2.1.cell (i := 0) (by decide)
          have z1 := R9.out.2.2.1.cell (i := 1) (by decide)
          have m0 := R9.out.2.2.1.frozen 0
          have m1 := R9.out.2.2.1.frozen 1
          simp only [pr] at z0 z1
          clear bn R8 s0 s1 t0 t1 y0 y1
          go_wp2
          go_roundw
          case rel => exact ⟨j, by omega, by go_num, by rw [L2.out, L3.out]; exact R9.out.setQ⟩
          case measure => simp [intOf]
theorem rdiv_zero (h l : Int) (w : World) :
    Calls Try.prog 27 #[.agg #[.int .u64 h, .int .u64 l], .int .u64 0] w fun e w' =>
      e = .returned (.tuple #[.agg #[.int .u64 0, .int .u64 0], .int .u64 0, .bool false]) ∧ Below w.heap.size w w' := by
  go_enter Try.func27, Try.ntmps27
  go_wp2
  refine bodyPost_ret (v := .tuple #[.agg #[.int .u64 0, .int .u64 0], .int .u64 0, .bool false]) (by simp [results, Try.results27, go_sem]) rfl ⟨rfl, ?_⟩
  exact (((Below.refl _ _).alloc (Nat.le_refl _) _).alloc (by simp) _)
end Rf
end Go.Proofs.Ytlbdklkocjlobaa
