/-
  What the document's own Add of numbers of 128 bits answers; a number N is handed in as its words N / 2^64 and N % 2^64, below 2^128.
-/
import Derived.Test.YtalaalpafafpbaaDoorMtRef01
namespace Go.Proofs.YtalaalpafafpbaaDoor
open Go.RowKit Nt
namespace Rf
theorem sumTo_range (A B : Int) (k : Nat) : 0 ≤ sumTo A B k ∧ sumTo A B k < 2 ^ k := by
  have hp : (0 : Int) < 2 ^ k := by rw [pow_cast]; have := Nat.two_pow_pos k; omega
  unfold sumTo
  exact ⟨Int.emod_nonneg _ (by omega), Int.emod_lt_of_pos _ hp⟩
theorem carryTo_01 (A B : Int) (k : Nat) : 0 ≤ carryTo A B k ∧ carryTo A B k ≤ 1 := by
  have hp : (0 : Int) < 2 ^ k := by rw [pow_cast]; have := Nat.two_pow_pos k; omega
  unfold carryTo
  have a0 : 0 ≤ A % 2 ^ k := Int.emod_nonneg _ (by omega)
  have a1 : A % 2 ^ k < 2 ^ k := Int.emod_lt_of_pos _ hp
  have b0 : 0 ≤ B % 2 ^ k := Int.emod_nonneg _ (by omega)
  have b1 : B % 2 ^ k < 2 ^ k := Int.emod_lt_of_pos _ hp
  refine ⟨Int.ediv_nonneg (by omega) (by omega), ?_⟩
  have : (A % 2 ^ k + B % 2 ^ k) / 2 ^ k < 2 := Int.ediv_lt_of_lt_mul hp (by omega)
  omega
theorem pow_128 (k : Nat) (h : k ≤ 128) : (2 : Int) ^ k ≤ 340282366920938463463374607431768211456 := by
  have hp : 2 ^ k ≤ 2 ^ 128 := Nat.pow_le_pow_right (by decide) h
  rw [pow_cast]
  omega
/-- A number below 2^k has no bit at k. -/
theorem bit_above (N : Int) (k : Nat) (h0 : 0 ≤ N) (h1 : N < 2 ^ k) : bitI N k = 0 := by
  unfold bitI
  rw [Int.ediv_eq_zero_of_lt h0 h1]
  rfl
/-- What holds at the head of Add's loop. -/
def AddRel (A B : Int) (w : World) (k : Nat) (wr : World) : Prop :=
  wr.rowIs w.heap.size 56 2 (pr (A / 18446744073709551616) (A % 18446744073709551616)) ∧ wr.rowIs (w.heap.size + 1) 56 2 (pr (B / 18446744073709551616) (B % 18446744073709551616)) ∧
  wr.rowIs (w.heap.size + 2) 56 2 (pr 0 0) ∧ wr.rowIs (w.heap.size + 3) 56 2 (pr (sumTo A B k / 18446744073709551616) (sumTo A B k % 18446744073709551616)) ∧ Below w.heap.size w wr
theorem AddRel.keep {A B : Int} {w wr wx : World} {k : Nat} (h : AddRel A B w k wr) (hb : Below wr.heap.size wr wx) : AddRel A B w k wx :=
  ⟨row_keep h.1 hb, row_keep h.2.1 hb, row_keep h.2.2.1 hb, row_keep h.2.2.2.1 hb, h.2.2.2.2.trans (hb.mono h.2.2.2.2.size)⟩
theorem AddRel.drew {A B : Int} {w wr : World} {k : Nat} (h : AddRel A B w k wr) : AddRel A B w k wr.drew := ⟨h.1, h.2.1, h.2.2.1, h.2.2.2.1, h.2.2.2.2.drew⟩
theorem AddRel.next {A B : Int} {w wr : World} {k : Nat} (h : AddRel A B w k wr) (e : sumTo A B (k + 1) = sumTo A B k) : AddRel A B w (k + 1) wr := by
  unfold AddRel
  rw [e]
  exact h
theorem AddRel.set {A B : Int} {w wr : World} {k : Nat} (h : AddRel A B w k wr) {x : Int} (e : sumTo A B (k + 1) = x) :
    AddRel A B w (k + 1) ((wr.setCell ⟨w.heap.size + 3, 0, none⟩ (.int .u64 (x / 18446744073709551616))).setCell ⟨w.heap.size + 3, 1, none⟩ (.int .u64 (x % 18446744073709551616))) := by
  unfold AddRel
  rw [e]
  refine ⟨(h.1.setOther (by simp) _).setOther (by simp) _, (h.2.1.setOther (by simp) _).setOther (by simp) _, (h.2.2.1.setOther (by simp) _).setOther (by simp) _, pr_set h.2.2.2.1 _ _, (h.2.2.2.2.setCell (by simp) _).setCell (by simp) _⟩
theorem and1 (s : Int) (h0 : 0 ≤ s) (h1 : s < 18446744073709551616) : bits .and .u64 s 1 = s % 2 := by
  obtain ⟨n, rfl⟩ := Int.eq_ofNat_of_zero_le h0
  rw [show (1 : Int) = ((1 : Nat) : Int) from rfl, u64_and_nat _ _ (by omega) (by decide), nat_mask1]
  omega
/-- How a sum ends. -/
def addEnd (A B : Int) : Ending :=
  if A + B < 340282366920938463463374607431768211456 then .returned (.tuple #[.agg #[.int .u64 ((A + B) / 18446744073709551616), .int .u64 ((A + B) % 18446744073709551616)], .bool true]) else .returned (.tuple #[.agg #[.int .u64 0, .int .u64 0], .bool false])
theorem ends (A B : Int) (a0 : 0 ≤ A) (a1 : A < 340282366920938463463374607431768211456) (b0 : 0 ≤ B) (b1 : B < 340282366920938463463374607431768211456) :
    sumTo A B 128 = (A + B) % 340282366920938463463374607431768211456 ∧ carryTo A B 128 = (A + B) / 340282366920938463463374607431768211456 := by
  unfold sumTo carryTo
  rw [show (2 : Int) ^ 128 = 340282366920938463463374607431768211456 from rfl, Int.emod_eq_of_lt a0 a1, Int.emod_eq_of_lt b0 b1]
  exact ⟨rfl, rfl⟩
set_option maxRecDepth 100000 in
set_option maxHeartbeats 1600000 in
theorem radd_any (A B : Int) (w : World) (a0 : 0 ≤ A) (a1 : A < 340282366920938463463374607431768211456) (b0 : 0 ≤ B) (b1 : B < 340282366920938463463374607431768211456) :
    Calls Tryd.prog 32 #[.agg #[.int .u64 (A / 18446744073709551616), .int .u64 (A % 18446744073709551616)], .agg #[.int .u64 (B / 18446744073709551616), .int .u64 (B % 18446744073709551616)]] w fun e w' =>
      e = addEnd A B ∧ Below w.heap.size w w' := by
  go_enter Tryd.func32, Tryd.ntmps32
  go_wp2
  go_loopw [7, 8] (fun c i wr => ∃ k : Nat, k ≤ 128 ∧ i = .int .i64 k ∧ c = .int .u64 (carryTo A B k) ∧ AddRel A B w k wr) (fun _ i _ => 128 - (intOf i).toNat)
  case atStart =>
    have z0 : carryTo A B 0 = 0 := by simp [carryTo, Int.emod_one]
    have z1 : sumTo A B 0 = 0 := by simp [sumTo, Int.emod_one]
    refine ⟨0, Nat.zero_le _, rfl, by rw [z0], ?_⟩
    unfold AddRel
    rw [z1]
    have ra := pr_row w (A / 18446744073709551616) (A % 18446744073709551616) 56
    have rb := pr_row (w.alloc (.cells #[.int .u64 (A / 18446744073709551616), .int .u64 (A % 18446744073709551616)] 56)) (B / 18446744073709551616) (B % 18446744073709551616) 56
    have rc := pr_row ((w.alloc (.cells #[.int .u64 (A / 18446744073709551616), .int .u64 (A % 18446744073709551616)] 56)).alloc (.cells #[.int .u64 (B / 18446744073709551616), .int .u64 (B % 18446744073709551616)] 56)) 0 0 56
    have rd := pr_row (((w.alloc (.cells #[.int .u64 (A / 18446744073709551616), .int .u64 (A % 18446744073709551616)] 56)).alloc (.cells #[.int .u64 (B / 18446744073709551616), .int .u64 (B % 18446744073709551616)] 56)).alloc (.cells #[.int .u64 0, .int .u64 0] 56)) 0 0 56
    simp only [World.size_alloc] at rb rc rd
    exact ⟨((ra.alloc _).alloc _).alloc _, (rb.alloc _).alloc _, rc.alloc _, rd, ((((Below.refl _ _).alloc (Nat.le_refl _) _).alloc (by simp) _).alloc (by simp; omega) _).alloc (by simp; omega) _⟩
  case round =>
    obtain ⟨k, hk, rfl, rfl, hrel⟩ := hrel
    have R := Lib.hid hrel
    obtain ⟨r1, r2, r3, r4, rb⟩ := hrel
    have ca0 := r1.cell (i := 0) (by decide)
    have ca1 := r1.cell (i := 1) (by decide)
    have cb0 := r2.cell (i := 0) (by decide)
    have cb1 := r2.cell (i := 1) (by decide)
    clear r1 r2 r3 r4 rb
    simp only [pr] at ca0 ca1 cb0 cb1
    by_cases hlt : k < 128
    · have x := bitI_01 A k
      have y := bitI_01 B k
      have z := carryTo_01 A B k
      have st := add_step A B k
      have ST := Lib.hid st
      clear st
      have k0 : (0 : Int) ≤ (k : Int) := by omega
      have k1 : (k : Int) < 128 := by omega
      go_wp2_with fail
      have hw1 : IntKind.u64.wrap (bitI A k + bitI B k) = bitI A k + bitI B k := by rw [IntKind.wrap_u64]; omega
      have hw2 : IntKind.u64.wrap (bitI A k + bitI B k + carryTo A B k) = bitI A k + bitI B k + carryTo A B k := by rw [IntKind.wrap_u64]; omega
      go_region_held3 (fun w' => w'.cell? ⟨w.heap.size, 0, none⟩ = some (.int .u64 (A / 18446744073709551616)) ∧ w'.cell? ⟨w.heap.size, 1, none⟩ = some (.int .u64 (A % 18446744073709551616)) ∧ w'.cell? ⟨w.heap.size + 1, 0, none⟩ = some (.int .u64 (B / 18446744073709551616)) ∧ w'.cell? ⟨w.heap.size + 1, 1, none⟩ = some (.int .u64 (B % 18446744073709551616)))
        (first
          | go_keep
          | (go_split_ands
             refine ⟨?_, ?_, ?_, ?_⟩
             all_goals (refine kx _ _ _ ?_; assumption)))
        ((go_at_call 33; refine (wideBit_any _ _ _ (by assumption) (by assumption) k0 k1).mono ?_; rintro e wx ⟨rfl, bx⟩; have kx := keeps bx))
      clear hw1 hw2
      rename_i wx0 bx0 kx0 hHeld
      have R2 := Lib.hid ((R.out.drew.keep bx0).keep bx)
      clear hHeld kx kx0 bx bx0 R ca0 ca1 cb0 cb1
      have c0 := R2.out.2.2.2.1.cell (i := 0) (by decide)
      have c1 := R2.out.2.2.2.1.cell (i := 1) (by decide)
      simp only [pr] at c0 c1
      by_cases hs : (bitI A k + bitI B k + carryTo A B k) % 2 = 1
      · have d : (bits .and .u64 (bitI A k + bitI B k + carryTo A B k) 1 == 1) = true := by rw [and1 _ (by omega) (by omega), hs]; rfl
        have sr := sumTo_range A B k
        have sp := pow_128 k (by omega)
        have sb := bit_above _ k sr.1 sr.2
        have HS := Lib.hid hs
        have s0 := sr.1
        have s1 : sumTo A B k < 340282366920938463463374607431768211456 := by omega
        have SB := Lib.hid sb
        clear hs sr sp sb
        go_wp2_with (go_at_call 34; refine (with_any (sumTo A B k) _ _ s0 s1 k0 k1 (by simpa using SB.out)).mono ?_; rintro e wy ⟨rfl, bq⟩; have R3 := Lib.hid (R2.out.keep bq); have q0 := R3.out.2.2.2.1.cell (i := 0) (by decide); have q1 := R3.out.2.2.2.1.cell (i := 1) (by decide); have f0 := R3.out.2.2.2.1.frozen 0; have f1 := R3.out.2.2.2.1.frozen 1)
        go_roundw
        case rel =>
          exact ⟨k + 1, by omega, by go_num, congrArg (Value.int .u64) ST.out.2.symm, R3.out.set (by rw [ST.out.1, HS.out, Int.one_mul])⟩
        case measure => simp [intOf]; omega
      · have hz : (bitI A k + bitI B k + carryTo A B k) % 2 = 0 := by omega
        have d : (bits .and .u64 (bitI A k + bitI B k + carryTo A B k) 1 == 1) = false := by rw [and1 _ (by omega) (by omega), hz]; rfl
        have HZ := Lib.hid hz
        clear hs hz
        go_wp2
        go_roundw
        case rel => exact ⟨k + 1, by omega, by go_num, congrArg (Value.int .u64) ST.out.2.symm, R2.out.next (by rw [ST.out.1, HZ.out, Int.zero_mul, Int.add_zero])⟩
        case measure => simp [intOf]; omega
    · have ek : k = 128 := by omega
      subst ek
      obtain ⟨e1, e2⟩ := ends A B a0 a1 b0 b1
      have m0 := R.out.2.2.1.cell (i := 0) (by decide)
      have m1 := R.out.2.2.1.cell (i := 1) (by decide)
      have f0 := R.out.2.2.1.frozen 0
      have f1 := R.out.2.2.1.frozen 1
      have c0 := R.out.2.2.2.1.cell (i := 0) (by decide)
      have c1 := R.out.2.2.2.1.cell (i := 1) (by decide)
      simp only [pr] at m0 m1 c0 c1
      have bb := Lib.hid R.out.2.2.2.2
      have RR := Lib.hid R.out.2.2.1
      clear R ca0 ca1 cb0 cb1
      by_cases hs : A + B < 340282366920938463463374607431768211456
      · have g1 : sumTo A B 128 = A + B := by rw [e1]; omega
        have g2 : decide (0 < carryTo A B 128) = false := by rw [e2]; simp; omega
        have GP := Lib.hid (show addEnd A B = _ from if_pos hs)
        rw [g1] at c0 c1
        clear e1 e2 g1 hs
        go_wp2
        rw [GP.out]
        have n0 := (pr_set RR.out ((A + B) / 18446744073709551616) ((A + B) % 18446744073709551616)).cell (i := 0) (by decide)
        have n1 := (pr_set RR.out ((A + B) / 18446744073709551616) ((A + B) % 18446744073709551616)).cell (i := 1) (by decide)
        simp only [pr] at n0 n1
        refine bodyPost_ret (v := .tuple #[.agg #[.int .u64 ((A + B) / 18446744073709551616), .int .u64 ((A + B) % 18446744073709551616)], .bool true]) (by simp [results, Tryd.results32, go_sem, n0, n1]) rfl ⟨rfl, ?_⟩
        exact (bb.out.setCell (by simp; omega) _).setCell (by simp; omega) _
      · have g2 : decide (0 < carryTo A B 128) = true := by rw [e2]; simp; omega
        have GP := Lib.hid (show addEnd A B = _ from if_neg hs)
        clear e1 e2 hs
        go_wp2
        rw [GP.out]
        have n0 := (pr_set RR.out 0 0).cell (i := 0) (by decide)
        have n1 := (pr_set RR.out 0 0).cell (i := 1) (by decide)
        simp only [pr] at n0 n1
        refine bodyPost_ret (v := .tuple #[.agg #[.int .u64 0, .int .u64 0], .bool false]) (by simp [results, Tryd.results32, go_sem, n0, n1]) rfl ⟨rfl, ?_⟩
        exact (bb.out.setCell (by simp; omega) _).setCell (by simp; omega) _
end Rf
end Go.Proofs.YtalaalpafafpbaaDoor
