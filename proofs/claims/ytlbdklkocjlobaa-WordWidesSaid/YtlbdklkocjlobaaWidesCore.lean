/-
  The walk of warderlaw01.WordWides, the two sums and the two quotients being taken as they are told; conditions: each number is below 2^128, each word below 2^64.
-/
import Derived.Test.YtlbdklkocjlobaaRows
import Derived.Test.YtlbdklkocjlobaaAlive
import Derived.Test.YtlbdklkocjlobaaRefDiv
import Derived.WalkKit
import Derived.Below
import Derived.Deep.DeepCutAuto
namespace Go.Proofs.Ytlbdklkocjlobaa.wordWides
open Go.RowKit Rf

theorem bcell {W w1 : World} (hb : Below W.heap.size W w1) : (∀ b o, b < W.heap.size → w1.cell? ⟨b, o, none⟩ = W.cell? ⟨b, o, none⟩) ∧ (∀ b o, b < W.heap.size → w1.frozen? ⟨b, o, none⟩ = W.frozen? ⟨b, o, none⟩) :=
  ⟨fun b o h => hb.cell (p := ⟨b, o, none⟩) h, fun b o h => hb.frozen (p := ⟨b, o, none⟩) h⟩
theorem swap2 {w : World} {o1 o2 : Obj} {b i : Nat} {v : Value} (hb : b < w.heap.size) (h : (w.alloc o1).cell? ⟨b, i, none⟩ = some v) : (w.alloc o2).cell? ⟨b, i, none⟩ = some v := by
  rw [World.cell?_alloc_past _ _ _ hb] at h ⊢
  exact h
theorem set2 {w : World} {b b1 i : Nat} {x y v : Value} (hb : b ≠ b1) (h : w.cell? ⟨b, i, none⟩ = some v) : ((w.setCell ⟨b1, 0, none⟩ x).setCell ⟨b1, 1, none⟩ y).cell? ⟨b, i, none⟩ = some v := by
  rw [World.cell?_of_block (Below.heap_setCell _ _ _ _ hb), World.cell?_of_block (Below.heap_setCell _ _ _ _ hb)]
  exact h
theorem swapB {B : Nat} {a w : World} {o1 o2 : Obj} (hb : B ≤ w.heap.size) (h : Below B a (w.alloc o1)) : Below B a (w.alloc o2) := by
  refine ⟨h.os, h.tape, h.output, ?_, ?_⟩
  · have := h.size
    simpa using this
  · intro k hk
    have e := h.block k hk
    rw [Below.heap_alloc _ _ _ (Nat.lt_of_lt_of_le hk hb)] at e ⊢
    exact e
theorem setB {B : Nat} {a w : World} {b1 : Nat} {x y : Value} (hb : B ≤ b1) (h : Below B a w) : Below B a ((w.setCell ⟨b1, 0, none⟩ x).setCell ⟨b1, 1, none⟩ y) := (h.setCell hb _).setCell hb _
theorem set_a {w : World} {g : Nat} {x y v0 : Value} (h : w.cell? ⟨g, 0, none⟩ = some v0) : ((w.setCell ⟨g, 0, none⟩ x).setCell ⟨g, 1, none⟩ y).cell? ⟨g, 0, none⟩ = some x := by
  rw [World.cell?_setCell_other _ _ _ _ (by simp)]
  exact World.cell?_setCell_same _ _ _ h
theorem set_b {w : World} {g : Nat} {x y v0 : Value} (h : w.cell? ⟨g, 1, none⟩ = some v0) : ((w.setCell ⟨g, 0, none⟩ x).setCell ⟨g, 1, none⟩ y).cell? ⟨g, 1, none⟩ = some y := by
  refine World.cell?_setCell_same _ _ _ (u := v0) ?_
  rw [World.cell?_setCell_other _ _ _ _ (by simp)]
  exact h
theorem keep_alloc (w : World) (o : Obj) : Keeps w (w.alloc o) := keeps ((Below.refl _ _).alloc (Nat.le_refl _) _)
/-- A number's words, as a value. -/
abbrev wv (N : Int) : Value := .agg #[.int .u64 (N / 18446744073709551616), .int .u64 (N % 18446744073709551616)]
theorem wadd (A B : Int) (w : World) (a0 : 0 ≤ A) (a1 : A < 340282366920938463463374607431768211456) (b0 : 0 ≤ B) (b1 : B < 340282366920938463463374607431768211456) :
    Calls Try.prog 23 #[wv A, wv B] w fun e w' => e = addEnd A B ∧ Below w.heap.size w w' := by
  unfold addEnd
  by_cases h : A + B < 340282366920938463463374607431768211456
  · have c := add_yes (A / 18446744073709551616) (A % 18446744073709551616) (B / 18446744073709551616) (B % 18446744073709551616) ⟨by omega, by omega⟩ ⟨by omega, by omega⟩ ⟨by omega, by omega⟩ ⟨by omega, by omega⟩ (by omega) w
    have e1 : A / 18446744073709551616 + B / 18446744073709551616 + (A % 18446744073709551616 + B % 18446744073709551616) / 18446744073709551616 = (A + B) / 18446744073709551616 := by omega
    have e2 : (A % 18446744073709551616 + B % 18446744073709551616) % 18446744073709551616 = (A + B) % 18446744073709551616 := by omega
    rw [e1, e2] at c
    rw [if_pos h]
    exact c
  · rw [if_neg h]
    exact add_no (A / 18446744073709551616) (A % 18446744073709551616) (B / 18446744073709551616) (B % 18446744073709551616) ⟨by omega, by omega⟩ ⟨by omega, by omega⟩ ⟨by omega, by omega⟩ ⟨by omega, by omega⟩ (by omega) w
theorem wcmp (A B : Int) (w : World) :
    Calls Try.prog 30 #[wv A, wv B] w fun e w' => e = .returned (.int .i64 (ord A B)) ∧ Below w.heap.size w w' := by
  have c := compare_any (A / 18446744073709551616) (A % 18446744073709551616) (B / 18446744073709551616) (B % 18446744073709551616) w
  have e : ord2 (A / 18446744073709551616) (A % 18446744073709551616) (B / 18446744073709551616) (B % 18446744073709551616) = ord A B := by
    unfold ord2
    by_cases h1 : A / 18446744073709551616 < B / 18446744073709551616
    · rw [if_pos h1, ord_less (by omega)]
    · rw [if_neg h1]
      by_cases h2 : B / 18446744073709551616 < A / 18446744073709551616
      · rw [if_pos h2, ord_more (by omega)]
      · rw [if_neg h2]
        rcases Int.lt_trichotomy A B with g | g | g
        · rw [ord_less g, ord_less (by omega)]
        · rw [ord_same g, ord_same (by omega)]
        · rw [ord_more g, ord_more (by omega)]
  rw [e] at c
  exact c
theorem wdiv (A b : Int) (w : World) (a0 : 0 ≤ A) (a1 : A < 340282366920938463463374607431768211456) (b0 : 1 ≤ b) (b1 : b < 18446744073709551616) :
    Calls Try.prog 26 #[wv A, .int .u64 b] w fun e w' =>
      e = .returned (.tuple #[wv (A / b), .int .u64 (A % b), .bool true]) ∧ Below w.heap.size w w' := by
  have c := div_any (A / 18446744073709551616) (A % 18446744073709551616) b w ⟨by omega, by omega⟩ ⟨by omega, by omega⟩ ⟨by omega, b1⟩ b0
  have h0 : 0 ≤ A / 18446744073709551616 % b := Int.emod_nonneg _ (by omega)
  have h1 : A / 18446744073709551616 % b < b := Int.emod_lt_of_pos _ (by omega)
  have d := Int.emod_add_mul_ediv (A / 18446744073709551616) b
  have n0 : 0 ≤ A / 18446744073709551616 % b * 18446744073709551616 + A % 18446744073709551616 := by omega
  have d2 := Int.emod_add_mul_ediv (A / 18446744073709551616 % b * 18446744073709551616 + A % 18446744073709551616) b
  have m0 : 0 ≤ (A / 18446744073709551616 % b * 18446744073709551616 + A % 18446744073709551616) % b := Int.emod_nonneg _ (by omega)
  have m1 : (A / 18446744073709551616 % b * 18446744073709551616 + A % 18446744073709551616) % b < b := Int.emod_lt_of_pos _ (by omega)
  have l0 : 0 ≤ (A / 18446744073709551616 % b * 18446744073709551616 + A % 18446744073709551616) / b := Int.ediv_nonneg n0 (by omega)
  have l1 : (A / 18446744073709551616 % b * 18446744073709551616 + A % 18446744073709551616) / b < 18446744073709551616 := Int.ediv_lt_of_lt_mul (by omega) (by omega)
  generalize hq : A / 18446744073709551616 / b = Q at *
  generalize hR : A / 18446744073709551616 % b = R at *
  generalize hL : (R * 18446744073709551616 + A % 18446744073709551616) / b = L at *
  generalize hM : (R * 18446744073709551616 + A % 18446744073709551616) % b = T at *
  have hA : A = (Q * 18446744073709551616 + L) * b + T := by
    have : A = A / 18446744073709551616 * 18446744073709551616 + A % 18446744073709551616 := by omega
    rw [Int.add_mul, Int.mul_right_comm]
    rw [Int.mul_comm b Q] at d
    rw [Int.mul_comm b L] at d2
    omega
  obtain ⟨u1, u2⟩ := Dv.uniq hA m0 m1
  have e1 : A / b / 18446744073709551616 = Q := by rw [u1]; omega
  have e2 : A / b % 18446744073709551616 = L := by rw [u1]; omega
  have e3 : A % b = T := u2
  show Calls Try.prog 26 #[wv A, .int .u64 b] w fun e w' => e = .returned (.tuple #[.agg #[.int .u64 (A / b / 18446744073709551616), .int .u64 (A / b % 18446744073709551616)], .int .u64 (A % b), .bool true]) ∧ Below w.heap.size w w'
  rw [e1, e2, e3]
  exact c
set_option maxRecDepth 100000 in
set_option maxHeartbeats 3200000 in
theorem core (A B x y S D r : Int) (o h : Bool) (w : World) (a0 : 0 ≤ A) (a1 : A < 340282366920938463463374607431768211456) (b0 : 0 ≤ B) (b1 : B < 340282366920938463463374607431768211456)
    (X : W64 x) (Y : W64 y)
    (HA : Hid (∀ w, Calls Try.prog 23 #[wv A, wv B] w fun e w' => e = .returned (.tuple #[wv S, .bool o]) ∧ Below w.heap.size w w'))
    (HR : Hid (∀ w, Calls Try.prog 24 #[wv A, wv B] w fun e w' => e = .returned (.tuple #[wv S, .bool o]) ∧ Below w.heap.size w w'))
    (HD : Hid (∀ w, Calls Try.prog 26 #[wv A, .int .u64 x] w fun e w' => e = .returned (.tuple #[wv D, .int .u64 r, .bool h]) ∧ Below w.heap.size w w'))
    (HE : Hid (∀ w, Calls Try.prog 27 #[wv A, .int .u64 x] w fun e w' => e = .returned (.tuple #[wv D, .int .u64 r, .bool h]) ∧ Below w.heap.size w w')) :
    Calls Try.prog 5 #[wv A, wv B, .int .u64 x, .int .u64 y] w fun e w' => e = .returned (.bool true) ∧ Below w.heap.size w w' := by
  obtain ⟨x0, x1⟩ := id X
  obtain ⟨y0, y1⟩ := id Y
  go_enter Try.func5, Try.ntmps5
  go_wp2_with fail
  refine (alive_any _).mono ?_
  rintro e wa ⟨rfl, ba⟩
  have BA := Lib.hid ((((Below.refl _ _).alloc (Nat.le_refl _) _).alloc (by simp) _).trans (ba.mono (by simp; omega)))
  have ka := keeps ba
  have p0 := ka w.heap.size 0 (.int .u64 (A / 18446744073709551616)) (by simp)
  have p1 := ka w.heap.size 1 (.int .u64 (A % 18446744073709551616)) (by simp)
  have p2 := ka (w.heap.size + 1) 0 (.int .u64 (B / 18446744073709551616)) (by simp)
  have p3 := ka (w.heap.size + 1) 1 (.int .u64 (B % 18446744073709551616)) (by simp)
  have za : w.heap.size + 2 ≤ wa.heap.size := by have := ba.size; simpa using this
  clear ka ba
  go_wp2_with fail
  refine (HA.out _).mono ?_
  rintro e wb ⟨rfl, bb⟩
  have BB := Lib.hid (BA.out.trans (bb.mono BA.out.size))
  have kb := keeps bb
  have q0 := kb _ _ _ p0
  have q1 := kb _ _ _ p1
  have q2 := kb _ _ _ p2
  have q3 := kb _ _ _ p3
  have zb : w.heap.size + 2 ≤ wb.heap.size := Nat.le_trans za bb.size
  clear kb bb BA p0 p1 p2 p3
  go_wp2_with fail
  have bv : Below wb.heap.size wb (wb.alloc (.cells #[.int .u64 (S / 18446744073709551616), .int .u64 (S % 18446744073709551616)] 40)) := (Below.refl _ _).alloc (Nat.le_refl _) _
  have kv := keeps bv
  have c0 := kv _ _ _ q0
  have c1 := kv _ _ _ q1
  have c2 := kv _ _ _ q2
  have c3 := kv _ _ _ q3
  have s0 : (wb.alloc (.cells #[.int .u64 (S / 18446744073709551616), .int .u64 (S % 18446744073709551616)] 40)).cell? ⟨wb.heap.size, 0, none⟩ = some (.int .u64 (S / 18446744073709551616)) := by simp
  have s1 : (wb.alloc (.cells #[.int .u64 (S / 18446744073709551616), .int .u64 (S % 18446744073709551616)] 40)).cell? ⟨wb.heap.size, 1, none⟩ = some (.int .u64 (S % 18446744073709551616)) := by simp
  have BV := Lib.hid (BB.out.trans (bv.mono BB.out.size))
  have VB : wb.heap.size < (wb.alloc (.cells #[.int .u64 (S / 18446744073709551616), .int .u64 (S % 18446744073709551616)] 40)).heap.size := by simp
  have VZ : w.heap.size + 3 ≤ (wb.alloc (.cells #[.int .u64 (S / 18446744073709551616), .int .u64 (S % 18446744073709551616)] 40)).heap.size := by simp; omega
  clear kv bv BB q0 q1 q2 q3
  revert c0 c1 c2 c3 s0 s1 BV VZ VB
  generalize wb.alloc (.cells #[.int .u64 (S / 18446744073709551616), .int .u64 (S % 18446744073709551616)] 40) = V
  intro c0 c1 c2 c3 s0 s1 BV VB VZ
  have sz : w.heap.size + 3 ≤ V.heap.size := VZ
  clear VZ
  have vb : wb.heap.size < V.heap.size := VB
  clear VB
  have BW := BV.out
  go_cut [11, 12] (fun s11 s12 w' => ∃ g : Nat, s11 = .pointer (some ⟨g, 0, none⟩) ∧ s12 = .bool o ∧ w'.cell? ⟨g, 0, none⟩ = some (.int .u64 (S / 18446744073709551616)) ∧ w'.cell? ⟨g, 1, none⟩ = some (.int .u64 (S % 18446744073709551616)) ∧ w'.cell? ⟨w.heap.size, 0, none⟩ = some (.int .u64 (A / 18446744073709551616)) ∧ w'.cell? ⟨w.heap.size, 1, none⟩ = some (.int .u64 (A % 18446744073709551616)) ∧ w'.cell? ⟨w.heap.size + 1, 0, none⟩ = some (.int .u64 (B / 18446744073709551616)) ∧ w'.cell? ⟨w.heap.size + 1, 1, none⟩ = some (.int .u64 (B % 18446744073709551616)) ∧ w'.cell? ⟨wb.heap.size, 0, none⟩ = some (.int .u64 (S / 18446744073709551616)) ∧ w'.cell? ⟨wb.heap.size, 1, none⟩ = some (.int .u64 (S % 18446744073709551616)) ∧ Below w.heap.size w w')
  case first =>
    go_region_held3 (fun w' => w'.cell? ⟨w.heap.size, 0, none⟩ = some (.int .u64 (A / 18446744073709551616)) ∧ w'.cell? ⟨w.heap.size, 1, none⟩ = some (.int .u64 (A % 18446744073709551616)) ∧ w'.cell? ⟨w.heap.size + 1, 0, none⟩ = some (.int .u64 (B / 18446744073709551616)) ∧ w'.cell? ⟨w.heap.size + 1, 1, none⟩ = some (.int .u64 (B % 18446744073709551616)) ∧ w'.cell? ⟨wb.heap.size, 0, none⟩ = some (.int .u64 (S / 18446744073709551616)) ∧ w'.cell? ⟨wb.heap.size, 1, none⟩ = some (.int .u64 (S % 18446744073709551616)) ∧ Below w.heap.size w w')
        (first
          | exact ⟨c0, c1, c2, c3, s0, s1, BW⟩
          | exact ⟨c0, c1, c2, c3, s0, s1, BW.drew⟩
          | (go_split_ands; refine ⟨(hc _ _ (by first | omega | (simp; omega))).trans (by assumption), (hc _ _ (by first | omega | (simp; omega))).trans (by assumption), (hc _ _ (by first | omega | (simp; omega))).trans (by assumption), (hc _ _ (by first | omega | (simp; omega))).trans (by assumption), (hc _ _ (by first | omega | (simp; omega))).trans (by assumption), (hc _ _ (by first | omega | (simp; omega))).trans (by assumption), Below.trans (by assumption) (bx.mono (Below.size (by assumption)))⟩)
          | (go_split_ands; refine ⟨keep_alloc _ _ _ _ _ (by assumption), keep_alloc _ _ _ _ _ (by assumption), keep_alloc _ _ _ _ _ (by assumption), keep_alloc _ _ _ _ _ (by assumption), keep_alloc _ _ _ _ _ (by assumption), keep_alloc _ _ _ _ _ (by assumption), Below.alloc (by assumption) (Below.size (by assumption)) _⟩)
          | (go_split_ands; refine ⟨swap2 (by omega) (by assumption), swap2 (by omega) (by assumption), swap2 (by omega) (by assumption), swap2 (by omega) (by assumption), swap2 (by omega) (by assumption), swap2 (by omega) (by assumption), swapB (by omega) (by assumption)⟩)
          | (go_split_ands; refine ⟨set2 (by omega) (by assumption), set2 (by omega) (by assumption), set2 (by omega) (by assumption), set2 (by omega) (by assumption), set2 (by omega) (by assumption), set2 (by omega) (by assumption), setB (by omega) (by assumption)⟩))
        (first
          | (go_at_call 25; refine (of_any _ _ _).mono ?_; rintro e wx ⟨rfl, bx⟩; obtain ⟨hc, hf⟩ := bcell bx; have hz := bx.size; (try simp at hz); (try (have hzt := Nat.lt_of_lt_of_le (by assumption) hz)); (try (have hzl := Nat.lt_of_succ_le hz)))
          | (go_at_call 24; refine (HR.out _).mono ?_; rintro e wx ⟨rfl, bx⟩; obtain ⟨hc, hf⟩ := bcell bx; have hz := bx.size; (try simp at hz); (try (have hzt := Nat.lt_of_lt_of_le (by assumption) hz)); (try (have hzl := Nat.lt_of_succ_le hz))))
    all_goals
      rename_i hHeld
      go_wp2_with fail
      go_meet
      exact ⟨_, rfl, rfl, by first | (simp; done) | (refine set_a (v0 := .int .u64 0) ?_; simp [*]), by first | (simp; done) | (refine set_b (v0 := .int .u64 0) ?_; simp [*]), hHeld⟩
  case rest =>
    obtain ⟨g, rfl, rfl, t0, t1, d0, d1, d2, d3, e0, e1, BX⟩ := hcut
    have BX2 := Lib.hid BX
    clear BX BW BV c0 c1 c2 c3 s0 s1
    go_wp2_with fail
    refine (HD.out _).mono ?_
    rintro e wd ⟨rfl, bd⟩
    have kd := keeps bd
    have t0 := kd _ _ _ t0
    have t1 := kd _ _ _ t1
    have d0 := kd _ _ _ d0
    have d1 := kd _ _ _ d1
    have d2 := kd _ _ _ d2
    have d3 := kd _ _ _ d3
    have e0 := kd _ _ _ e0
    have e1 := kd _ _ _ e1
    have BD := Lib.hid (BX2.out.trans (bd.mono BX2.out.size))
    clear kd bd BX2
    go_upto_region 6 with (fail)
    have t0 := keep_alloc wd (.cells #[.int .u64 (D / 18446744073709551616), .int .u64 (D % 18446744073709551616)] 40) _ _ _ t0
    have t1 := keep_alloc wd (.cells #[.int .u64 (D / 18446744073709551616), .int .u64 (D % 18446744073709551616)] 40) _ _ _ t1
    have d0 := keep_alloc wd (.cells #[.int .u64 (D / 18446744073709551616), .int .u64 (D % 18446744073709551616)] 40) _ _ _ d0
    have d1 := keep_alloc wd (.cells #[.int .u64 (D / 18446744073709551616), .int .u64 (D % 18446744073709551616)] 40) _ _ _ d1
    have d2 := keep_alloc wd (.cells #[.int .u64 (D / 18446744073709551616), .int .u64 (D % 18446744073709551616)] 40) _ _ _ d2
    have d3 := keep_alloc wd (.cells #[.int .u64 (D / 18446744073709551616), .int .u64 (D % 18446744073709551616)] 40) _ _ _ d3
    have e0 := keep_alloc wd (.cells #[.int .u64 (D / 18446744073709551616), .int .u64 (D % 18446744073709551616)] 40) _ _ _ e0
    have e1 := keep_alloc wd (.cells #[.int .u64 (D / 18446744073709551616), .int .u64 (D % 18446744073709551616)] 40) _ _ _ e1
    have f0 : (wd.alloc (.cells #[.int .u64 (D / 18446744073709551616), .int .u64 (D % 18446744073709551616)] 40)).cell? ⟨wd.heap.size, 0, none⟩ = some (.int .u64 (D / 18446744073709551616)) := by simp
    have f1 : (wd.alloc (.cells #[.int .u64 (D / 18446744073709551616), .int .u64 (D % 18446744073709551616)] 40)).cell? ⟨wd.heap.size, 1, none⟩ = some (.int .u64 (D % 18446744073709551616)) := by simp
    have BE := Lib.hid (BD.out.alloc BD.out.size (.cells #[.int .u64 (D / 18446744073709551616), .int .u64 (D % 18446744073709551616)] 40))
    clear BD
    revert t0 t1 d0 d1 d2 d3 e0 e1 f0 f1 BE
    generalize wd.alloc (.cells #[.int .u64 (D / 18446744073709551616), .int .u64 (D % 18446744073709551616)] 40) = V2
    intro t0 t1 d0 d1 d2 d3 e0 e1 f0 f1 BE
    go_wp2_with fail
    refine (of_any _ _ _).mono ?_
    rintro e we ⟨rfl, be⟩
    have ke := keeps be
    have t0 := ke _ _ _ t0
    have t1 := ke _ _ _ t1
    have d0 := ke _ _ _ d0
    have d1 := ke _ _ _ d1
    have d2 := ke _ _ _ d2
    have d3 := ke _ _ _ d3
    have e0 := ke _ _ _ e0
    have e1 := ke _ _ _ e1
    have f0 := ke _ _ _ f0
    have f1 := ke _ _ _ f1
    have BF := Lib.hid (BE.out.trans (be.mono BE.out.size))
    clear ke be BE
    go_wp2_with fail
    refine (HE.out _).mono ?_
    rintro e wf ⟨rfl, bf⟩
    have kf := keeps bf
    have t0 := kf _ _ _ t0
    have t1 := kf _ _ _ t1
    have d0 := kf _ _ _ d0
    have d1 := kf _ _ _ d1
    have d2 := kf _ _ _ d2
    have d3 := kf _ _ _ d3
    have e0 := kf _ _ _ e0
    have e1 := kf _ _ _ e1
    have f0 := kf _ _ _ f0
    have f1 := kf _ _ _ f1
    have BG := Lib.hid (BF.out.trans (bf.mono BF.out.size))
    clear kf bf BF
    go_upto_region 7 with (fail)
    have t0 := keep_alloc wf (.cells #[.int .u64 (D / 18446744073709551616), .int .u64 (D % 18446744073709551616)] 43) _ _ _ t0
    have t1 := keep_alloc wf (.cells #[.int .u64 (D / 18446744073709551616), .int .u64 (D % 18446744073709551616)] 43) _ _ _ t1
    have d0 := keep_alloc wf (.cells #[.int .u64 (D / 18446744073709551616), .int .u64 (D % 18446744073709551616)] 43) _ _ _ d0
    have d1 := keep_alloc wf (.cells #[.int .u64 (D / 18446744073709551616), .int .u64 (D % 18446744073709551616)] 43) _ _ _ d1
    have d2 := keep_alloc wf (.cells #[.int .u64 (D / 18446744073709551616), .int .u64 (D % 18446744073709551616)] 43) _ _ _ d2
    have d3 := keep_alloc wf (.cells #[.int .u64 (D / 18446744073709551616), .int .u64 (D % 18446744073709551616)] 43) _ _ _ d3
    have e0 := keep_alloc wf (.cells #[.int .u64 (D / 18446744073709551616), .int .u64 (D % 18446744073709551616)] 43) _ _ _ e0
    have e1 := keep_alloc wf (.cells #[.int .u64 (D / 18446744073709551616), .int .u64 (D % 18446744073709551616)] 43) _ _ _ e1
    have f0 := keep_alloc wf (.cells #[.int .u64 (D / 18446744073709551616), .int .u64 (D % 18446744073709551616)] 43) _ _ _ f0
    have f1 := keep_alloc wf (.cells #[.int .u64 (D / 18446744073709551616), .int .u64 (D % 18446744073709551616)] 43) _ _ _ f1
    have g0 : (wf.alloc (.cells #[.int .u64 (D / 18446744073709551616), .int .u64 (D % 18446744073709551616)] 43)).cell? ⟨wf.heap.size, 0, none⟩ = some (.int .u64 (D / 18446744073709551616)) := by simp
    have g1 : (wf.alloc (.cells #[.int .u64 (D / 18446744073709551616), .int .u64 (D % 18446744073709551616)] 43)).cell? ⟨wf.heap.size, 1, none⟩ = some (.int .u64 (D % 18446744073709551616)) := by simp
    have BH := BG.out.alloc BG.out.size (.cells #[.int .u64 (D / 18446744073709551616), .int .u64 (D % 18446744073709551616)] 43)
    clear BG
    revert t0 t1 d0 d1 d2 d3 e0 e1 f0 f1 g0 g1 BH
    generalize wf.alloc (.cells #[.int .u64 (D / 18446744073709551616), .int .u64 (D % 18446744073709551616)] 43) = V3
    intro t0 t1 d0 d1 d2 d3 e0 e1 f0 f1 g0 g1 BH
    go_region_held3 (fun w' => w'.cell? ⟨g, 0, none⟩ = some (.int .u64 (S / 18446744073709551616)) ∧ w'.cell? ⟨g, 1, none⟩ = some (.int .u64 (S % 18446744073709551616)) ∧ w'.cell? ⟨w.heap.size, 0, none⟩ = some (.int .u64 (A / 18446744073709551616)) ∧ w'.cell? ⟨w.heap.size, 1, none⟩ = some (.int .u64 (A % 18446744073709551616)) ∧ w'.cell? ⟨w.heap.size + 1, 0, none⟩ = some (.int .u64 (B / 18446744073709551616)) ∧ w'.cell? ⟨w.heap.size + 1, 1, none⟩ = some (.int .u64 (B % 18446744073709551616)) ∧ w'.cell? ⟨wb.heap.size, 0, none⟩ = some (.int .u64 (S / 18446744073709551616)) ∧ w'.cell? ⟨wb.heap.size, 1, none⟩ = some (.int .u64 (S % 18446744073709551616)) ∧ w'.cell? ⟨wd.heap.size, 0, none⟩ = some (.int .u64 (D / 18446744073709551616)) ∧ w'.cell? ⟨wd.heap.size, 1, none⟩ = some (.int .u64 (D % 18446744073709551616)) ∧ w'.cell? ⟨wf.heap.size, 0, none⟩ = some (.int .u64 (D / 18446744073709551616)) ∧ w'.cell? ⟨wf.heap.size, 1, none⟩ = some (.int .u64 (D % 18446744073709551616)) ∧ Below w.heap.size w w')
      (first
        | exact ⟨t0, t1, d0, d1, d2, d3, e0, e1, f0, f1, g0, g1, BH⟩
        | exact ⟨t0, t1, d0, d1, d2, d3, e0, e1, f0, f1, g0, g1, BH.drew⟩
        | (go_split_ands; refine ⟨keeps bx _ _ _ (by assumption), keeps bx _ _ _ (by assumption), keeps bx _ _ _ (by assumption), keeps bx _ _ _ (by assumption), keeps bx _ _ _ (by assumption), keeps bx _ _ _ (by assumption), keeps bx _ _ _ (by assumption), keeps bx _ _ _ (by assumption), keeps bx _ _ _ (by assumption), keeps bx _ _ _ (by assumption), keeps bx _ _ _ (by assumption), keeps bx _ _ _ (by assumption), Below.trans (by assumption) (bx.mono (Below.size (by assumption)))⟩))
      (first
        | (go_at_call 25; refine (of_any _ _ _).mono ?_; rintro e wx ⟨rfl, bx⟩)
        | (go_at_call 28; refine (mul_any _ _ X Y _).mono ?_; rintro e wx ⟨rfl, bx⟩)
        | (go_at_call 29; refine (rmul_any _ _ _ x0 x1 y0 y1).mono ?_; rintro e wx ⟨rfl, bx⟩)
        | (go_at_call 30; refine (wcmp A B _).mono ?_; rintro e wx ⟨rfl, bx⟩)
        | (go_at_call 31; refine (rcmp_any A B _ a0 a1 b0 b1).mono ?_; rintro e wx ⟨rfl, bx⟩))
    all_goals
      rename_i hHeld
      obtain ⟨h1, h2, h3, h4, h5, h6, h7, h8, h9, h10, h11, h12, bz⟩ := hHeld
      have BZ := Lib.hid bz
      clear bz h1 h2 h3 h4 h5 h6 h7 h8 h9 h10 h11 h12
      go_wp2
      go_ret
      exact ⟨rfl, BZ.out⟩
end Go.Proofs.Ytlbdklkocjlobaa.wordWides
