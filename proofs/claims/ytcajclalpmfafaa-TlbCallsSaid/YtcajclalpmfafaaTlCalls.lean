/-
  TlbCalls: every row of calls is answered as the document says, and every question: for every input true, and the input reads as it did; no condition.
-/
import Derived.Test.YtcajclalpmfafaaTlYield
namespace Go.Proofs.Ytcajclalpmfafaa
open Go.ChangeShapes Go.WideShapes Go.ChangeAt Go.RowKit Go.Deep
namespace tlbCalls
open Tl
open Ph (Only)
/-- Neither of two blocks is one of two others, and the latter are new. -/
structure Away (B P M r g : Nat) : Prop where
  a1 : P ≠ r
  a2 : P ≠ g
  a3 : M ≠ r
  a4 : M ≠ g
  b1 : B ≤ r
  b2 : B ≤ g
set_option maxRecDepth 100000 in
set_option maxHeartbeats 8000000 in
theorem walk (room : Int) (pa : Option Addr) (len cap : Nat) (y : Nat → HeldT) (vm pg : Int) (w : World) (hl : len ≤ cap ∧ cap ≤ maxLen) (hx : TCalls w.heap.size w pa len y) (hvm : W64 vm) (hpg : W64 pg) :
    Calls Try.prog 3 #[.int .i64 room, .slice pa len cap, .int .i64 vm, .int .i64 pg] w fun e w' => e = .returned (.bool true) ∧ Below w.heap.size w w' := by
  have HX := Lib.hid hx
  have hlm : len ≤ maxLen := by omega
  clear hx hl
  go_enter Try.func3, Try.ntmps3
  go_wp2_with fail
  refine (alive_any _).mono ?_
  rintro e w0 ⟨rfl, B0⟩
  by_cases g1 : 100 < len
  · go_wp2
    go_ret
    exact ⟨rfl, B0⟩
  have g100 : len ≤ 100 := by omega
  clear g1
  by_cases g2 : room < 1
  · go_wp2_with fail
    refine (new_no room w0 (Or.inl g2)).mono ?_
    rintro e w1 ⟨rfl, rfl⟩
    go_wp2
    go_ret
    exact ⟨rfl, B0⟩
  by_cases g3 : 64 < room
  · go_wp2_with fail
    refine (new_no room w0 (Or.inr g3)).mono ?_
    rintro e w1 ⟨rfl, rfl⟩
    go_wp2
    go_ret
    exact ⟨rfl, B0⟩
  obtain ⟨R, rfl⟩ := Int.eq_ofNat_of_zero_le (show 0 ≤ room by omega)
  have r1 : 1 ≤ R := by omega
  have r2 : R ≤ 64 := by omega
  clear g2 g3
  go_wp2_with fail
  refine (new_yes R w0 r1 r2).mono ?_
  rintro e w1 ⟨rfl, T1, O1⟩
  have B1 := Lib.hid (B0.trans (O1.below B0.size (by simp)))
  obtain ⟨P, hP⟩ : ∃ p, p = w0.heap.size + 1 := ⟨_, rfl⟩
  obtain ⟨M, hM⟩ : ∃ p, p = w0.heap.size := ⟨_, rfl⟩
  rw [← hP, ← hM] at T1
  have q1 : w.heap.size ≤ P := by have := B0.size; omega
  have q2 : w.heap.size ≤ M := by have := B0.size; omega
  have z1 := T1.lt
  have z2 := T1.map.lt
  have T1' := Lib.hid T1
  rw [← hP]
  clear hP hM B0 O1 T1
  go_wp2_with fail
  refine (rnew_any R w1 r1 r2).mono ?_
  rintro e w2 ⟨rfl, R2, O2⟩
  have B2 := Lib.hid (B1.out.trans (O2.below B1.out.size (by simp)))
  have T2 := Lib.hid (T1'.out.kept O2 (by simp) (by simp))
  have R2' := Lib.hid R2
  have A2 := Lib.hid (show Away w.heap.size P M (w1.heap.size + 1) w1.heap.size from ⟨by omega, by omega, by omega, by omega, by have := B1.out.size; omega, B1.out.size⟩)
  clear B1 T1' R2 O2 z1 z2
  go_wp2_with fail
  go_loopw [11, 12] (fun rv c wr => ∃ i : Nat, c = .int .i64 i ∧ i ≤ len ∧ ∃ r g next ps, rv = .pointer (some ⟨r, 0, none⟩) ∧ Tlb wr P M R next ps ∧ RTlb wr r g R next ps ∧ Away w.heap.size P M r g ∧ Below w.heap.size w wr) (fun _ c _ => len - (intOf c).toNat)
  case atStart => exact ⟨0, rfl, Nat.zero_le _, _, _, 0, _, rfl, T2.out, R2'.out, A2.out, B2.out⟩
  case round =>
    obtain ⟨i, rfl, hi', r, g, next, ps, rfl, hT, hR, hA, hB⟩ := hrel
    clear T2 R2' A2 B2
    have AW := Lib.hid hA
    have a1 := hA.a1
    have a2 := hA.a2
    have a3 := hA.a3
    have a4 := hA.a4
    have b1 := hA.b1
    have b2 := hA.b2
    clear hA
    by_cases hlt : i < len
    · obtain ⟨b, ofs, rfl, hbl, hC⟩ := HX.out.at hB hlt
      obtain ⟨⟨t, v, p, f, wri, ex⟩, hyk⟩ : ∃ h, y i = h := ⟨_, rfl⟩
      rw [hyk] at hC
      have c0 := hC.c0
      have c1 := hC.c1
      have c2 := hC.c2
      have c3 := hC.c3
      have c4 := hC.c4
      have c5 := hC.c5
      have s1 := hC.w1
      have s2 := hC.w2
      have hbr : b < wr.heap.size := Nat.lt_of_lt_of_le hbl hB.size
      have hPr := hT.lt
      have hMr := hT.map.lt
      have hrr := hR.lay.lt
      have hgr := hR.row.lt
      have hL := Lib.hid (Lay.new wr 31 [.int .i64 v, .int .i64 p, .int .i64 f, .bool wri, .bool ex])
      have hT' := Lib.hid (hT.kept (Only.alloc [] wr (.cells #[.int .i64 v, .int .i64 p, .int .i64 f, .bool wri, .bool ex] 31)) (by simp) (by simp))
      have hR' := Lib.hid (hR.kept (Only.alloc [] wr (.cells #[.int .i64 v, .int .i64 p, .int .i64 f, .bool wri, .bool ex] 31)) (by simp) (by simp))
      have hB' := Lib.hid (hB.alloc hB.size (.cells #[.int .i64 v, .int .i64 p, .int .i64 f, .bool wri, .bool ex] 31))
      clear hC hyk hT hR hB
      replace s1 : W64 v := s1
      replace s2 : W64 p := s2
      by_cases t0 : t = 0
      · subst t0
        have ex1 := hL.out.lt
        go_wp2_with fail
        refine (fill_any P M R next ps ((v, p, f, wri, ex) : SlotT) _ hT'.out s1 s2).mono ?_
        rintro e w3 ⟨rfl, T3, O3⟩
        have L3 := hL.out.kept O3 (by simp; omega)
        have B3 := Lib.hid (hB'.out.trans (O3.below hB'.out.size (by simp; omega)))
        have R3 := Lib.hid (hR'.out.kept O3 (by simp; exact ⟨a1.symm, a3.symm⟩) (by simp; exact ⟨a2.symm, a4.symm⟩))
        have T3' := Lib.hid T3
        have z3 := L3.lt
        clear hL hT' hB' hR' T3 O3 c0 c1 c2 c3 c4 c5 ex1
        have e0 := L3.cell 0
        have e1 := L3.cell 1
        have e2 := L3.cell 2
        have e3 := L3.cell 3
        have e4 := L3.cell 4
        simp only [List.getElem?_cons_zero, List.getElem?_cons_succ] at e0 e1 e2 e3 e4
        clear L3
        go_wp2_with fail
        refine (of_any v p f wri ex _).mono ?_
        rintro e w6 ⟨rfl, b6⟩
        have T6 := Lib.hid (T3'.out.kept (Only.of b6 []) (by simp) (by simp))
        have R6 := Lib.hid (R3.out.kept (Only.of b6 []) (by simp) (by simp))
        have B6 := Lib.hid (B3.out.trans (b6.mono B3.out.size))
        clear T3' R3 B3 b6 e0 e1 e2 e3 e4 z3
        go_wp2_with fail
        refine (rfill_any r g R next ps ((v, p, f, wri, ex) : SlotT) _ R6.out).mono ?_
        rintro e w7 ⟨rfl, R7, O7⟩
        have T7 := Lib.hid (T6.out.kept O7 (by simp; exact ⟨a1, a2⟩) (by simp; exact ⟨a3, a4⟩))
        have B7 := Lib.hid (B6.out.trans (O7.below B6.out.size (by simp; omega)))
        have R7' := Lib.hid R7
        clear T6 R6 B6 R7 O7
        go_wp2_with fail
        refine (find_any P M R _ _ vm pg _ T7.out hvm hpg).mono ?_
        rintro e w9 ⟨he, b9⟩
        cases hf : findP vm pg 0 (fillP next ps (v, p, f, wri, ex)) with
        | none =>
          rw [hf] at he
          replace he : e = .returned (.tuple #[.agg #[.int .i64 0, .int .i64 0, .int .i64 0, .bool false, .bool false], .bool false]) := he
          subst he
          have B4 := Lib.hid ((B7.out.trans (b9.mono B7.out.size)).alloc (Nat.le_trans B7.out.size b9.size) (.cells #[.int .i64 0, .int .i64 0, .int .i64 0, .bool false, .bool false] 31))
          have T4 := Lib.hid ((T7.out.kept (Only.of b9 []) (by simp) (by simp)).kept (Only.alloc [] w9 (.cells #[.int .i64 0, .int .i64 0, .int .i64 0, .bool false, .bool false] 31)) (by simp) (by simp))
          have R4 := Lib.hid ((R7'.out.kept (Only.of b9 []) (by simp) (by simp)).kept (Only.alloc [] w9 (.cells #[.int .i64 0, .int .i64 0, .int .i64 0, .bool false, .bool false] 31)) (by simp) (by simp))
          have L4 := Lib.hid (Lay.new w9 31 [.int .i64 0, .int .i64 0, .int .i64 0, .bool false, .bool false])
          clear T7 R7' B7 b9
          go_wp2_with fail
          refine (at_any r g R _ _ vm pg _ R4.out).mono ?_
          rintro e w10 ⟨rfl, rfl⟩
          rw [hf]
          obtain ⟨w4, hw4⟩ : ∃ w4, w4 = w9.alloc (.cells #[.int .i64 0, .int .i64 0, .int .i64 0, .bool false, .bool false] 31) := ⟨_, rfl⟩
          rw [← hw4] at B4 T4 R4 L4 ⊢
          clear hw4
          have e0 := L4.out.cell 0
          have e1 := L4.out.cell 1
          have e2 := L4.out.cell 2
          have e3 := L4.out.cell 3
          have e4 := L4.out.cell 4
          simp only [List.getElem?_cons_zero, List.getElem?_cons_succ] at e0 e1 e2 e3 e4
          have SM := Lib.hid (fun dq osq => same_true P M r g R _ _ _ _ (T4.out.kept (Only.of (below_regrown w4 dq osq) []) (by simp) (by simp)) (R4.out.kept (Only.of (below_regrown w4 dq osq) []) (by simp) (by simp)))
          rw [show atI none = -1 from rfl]
          have hne : ∀ w, (binOp .neq 31 (.agg #[.int .i64 0, .int .i64 0, .int .i64 0, .bool false, .bool false]) (.agg #[.int .i64 0, .int .i64 0, .int .i64 0, .bool false, .bool false])).run Try.prog w = .ok (.bool false) w := fun w => by
            have := neqSlot (0, 0, 0, false, false) (0, 0, 0, false, false) w
            simpa using this
          go_wp2_with fail
          have ee0 := cell_regrown e0
          have ee1 := cell_regrown e1
          have ee2 := cell_regrown e2
          have ee3 := cell_regrown e3
          have ee4 := cell_regrown e4
          refine wp_region_quiet_below (by kernel_rfl) (by kernel_rfl) ?_
          repeat (go_big_quiet_step (first | (go_at_call 19; exact Calls.regrown_of (SM.out _ _))))
          refine wpQuiet_nil ?_
          intro _ hw'
          obtain ⟨⟨dq, osq⟩, hw''⟩ := hw'
          subst hw''
          have T5 := Lib.hid (T4.out.kept (Only.of (below_regrown w4 dq osq) []) (by simp) (by simp))
          have R5 := Lib.hid (R4.out.kept (Only.of (below_regrown w4 dq osq) []) (by simp) (by simp))
          have B5 := Lib.hid (B4.out.trans ((below_regrown w4 dq osq).mono B4.out.size))
          clear SM T4 R4 B4 L4 e0 e1 e2 e3 e4 ee0 ee1 ee2 ee3 ee4 hne
          generalize Go.Sort.grow (redrawn w4 _) _ = w5 at *
          go_wp2_with fail
          go_roundw
          case rel => exact ⟨i + 1, by simp, by omega, _, _, _, _, rfl, T5.out, R5.out, AW.out, B5.out⟩
          case measure => simp only [intOf, Int.toNat_natCast]; omega
        | some h =>
          obtain ⟨k, s, hk, rfl, hn⟩ := findP_some hf
          obtain ⟨sv, sp, sf, sw, sx⟩ := s
          rw [hf] at he
          replace he : e = .returned (.tuple #[.agg #[.int .i64 sv, .int .i64 sp, .int .i64 sf, .bool sw, .bool sx], .bool true]) := he
          subst he
          have B4 := Lib.hid ((B7.out.trans (b9.mono B7.out.size)).alloc (Nat.le_trans B7.out.size b9.size) (.cells #[.int .i64 sv, .int .i64 sp, .int .i64 sf, .bool sw, .bool sx] 31))
          have T4 := Lib.hid ((T7.out.kept (Only.of b9 []) (by simp) (by simp)).kept (Only.alloc [] w9 (.cells #[.int .i64 sv, .int .i64 sp, .int .i64 sf, .bool sw, .bool sx] 31)) (by simp) (by simp))
          have R4 := Lib.hid ((R7'.out.kept (Only.of b9 []) (by simp) (by simp)).kept (Only.alloc [] w9 (.cells #[.int .i64 sv, .int .i64 sp, .int .i64 sf, .bool sw, .bool sx] 31)) (by simp) (by simp))
          have L4 := Lib.hid (Lay.new w9 31 [.int .i64 sv, .int .i64 sp, .int .i64 sf, .bool sw, .bool sx])
          clear T7 R7' B7 b9
          go_wp2_with fail
          refine (at_any r g R _ _ vm pg _ R4.out).mono ?_
          rintro e w10 ⟨rfl, rfl⟩
          rw [hf]
          obtain ⟨w4, hw4⟩ : ∃ w4, w4 = w9.alloc (.cells #[.int .i64 sv, .int .i64 sp, .int .i64 sf, .bool sw, .bool sx] 31) := ⟨_, rfl⟩
          rw [← hw4] at B4 T4 R4 L4 ⊢
          clear hw4
          have e0 := L4.out.cell 0
          have e1 := L4.out.cell 1
          have e2 := L4.out.cell 2
          have e3 := L4.out.cell 3
          have e4 := L4.out.cell 4
          simp only [List.getElem?_cons_zero, List.getElem?_cons_succ] at e0 e1 e2 e3 e4
          have SM := Lib.hid (fun dq osq => same_true P M r g R _ _ _ _ (T4.out.kept (Only.of (below_regrown w4 dq osq) []) (by simp) (by simp)) (R4.out.kept (Only.of (below_regrown w4 dq osq) []) (by simp) (by simp)))
          rw [show atI (some (((0 + k : Nat) : Int), ((sv, sp, sf, sw, sx) : SlotT))) = (k : Int) by simp [atI]]
          have r0 := R4.out.lay.cell 0
          simp only [List.getElem?_cons_zero] at r0
          have hkR : k < R := by rw [← R4.out.len]; exact (List.getElem?_eq_some_iff.1 hk).1
          have hkr : (k : Int) < (R : Int) := by omega
          have hk0 : (0 : Int) ≤ (k : Int) := by omega
          have hkd : decide ((0 : Int) ≤ (k : Int)) = true := decide_eq_true hk0
          have q0 := R4.out.row.range k _ hk 0 _ rfl
          have q1 := R4.out.row.range k _ hk 1 _ rfl
          have q2 := R4.out.row.range k _ hk 2 _ rfl
          have q3 := R4.out.row.range k _ hk 3 _ rfl
          have q4 := R4.out.row.range k _ hk 4 _ rfl
          have q5 := R4.out.row.range k _ hk 5 _ rfl
          rw [Nat.add_zero] at q0
          replace q0 : w4.cell? ⟨g, k * 6, none⟩ = some (.int .i64 sv) := q0
          replace q1 : w4.cell? ⟨g, k * 6 + 1, none⟩ = some (.int .i64 sp) := q1
          replace q2 : w4.cell? ⟨g, k * 6 + 2, none⟩ = some (.int .i64 sf) := q2
          replace q3 : w4.cell? ⟨g, k * 6 + 3, none⟩ = some (.bool sw) := q3
          replace q4 : w4.cell? ⟨g, k * 6 + 4, none⟩ = some (.bool sx) := q4
          replace q5 : w4.cell? ⟨g, k * 6 + 5, none⟩ = some (.bool true) := q5
          have hne : ∀ w, (binOp .neq 37 (.agg #[.int .i64 sv, .int .i64 sp, .int .i64 sf, .bool sw, .bool sx, .bool true]) (.agg #[.int .i64 sv, .int .i64 sp, .int .i64 sf, .bool sw, .bool sx, .bool true])).run Try.prog w = .ok (.bool false) w := fun w => by
            have := neqRef ((sv, sp, sf, sw, sx), true) ((sv, sp, sf, sw, sx), true) w
            simpa using this
          have DM := Lib.hid (fun w => of_any sv sp sf sw sx w)
          clear hf hk hn
          go_wp2_with fail
          have ee0 := cell_regrown e0
          have ee1 := cell_regrown e1
          have ee2 := cell_regrown e2
          have ee3 := cell_regrown e3
          have ee4 := cell_regrown e4
          have rr0 := cell_regrown r0
          have qq0 := cell_regrown q0
          have qq1 := cell_regrown q1
          have qq2 := cell_regrown q2
          have qq3 := cell_regrown q3
          have qq4 := cell_regrown q4
          have qq5 := cell_regrown q5
          refine wp_region_quiet_below (by kernel_rfl) (by kernel_rfl) ?_
          repeat (go_big_quiet_step (first | (go_at_call 11; exact Calls.regrown_of (DM.out _)) | (go_at_call 19; exact Calls.regrown_of (SM.out _ _))))
          refine wpQuiet_nil ?_
          intro _ hw'
          obtain ⟨⟨dq, osq⟩, hw''⟩ := hw'
          subst hw''
          have T5 := Lib.hid (T4.out.kept (Only.of (below_regrown w4 dq osq) []) (by simp) (by simp))
          have R5 := Lib.hid (R4.out.kept (Only.of (below_regrown w4 dq osq) []) (by simp) (by simp))
          have B5 := Lib.hid (B4.out.trans ((below_regrown w4 dq osq).mono B4.out.size))
          clear SM T4 R4 B4 L4 e0 e1 e2 e3 e4 ee0 ee1 ee2 ee3 ee4 r0 rr0 q0 q1 q2 q3 q4 q5 qq0 qq1 qq2 qq3 qq4 qq5 hne DM hkd
          generalize Go.Sort.grow (redrawn w4 _) _ = w5 at *
          go_wp2_with fail
          go_roundw
          case rel => exact ⟨i + 1, by simp, by omega, _, _, _, _, rfl, T5.out, R5.out, AW.out, B5.out⟩
          case measure => simp only [intOf, Int.toNat_natCast]; omega
      by_cases t1 : t = 1
      · subst t1
        go_wp2_with fail
        have hd := Only.drewN [] (wr.alloc (.cells #[.int .i64 v, .int .i64 p, .int .i64 f, .bool wri, .bool ex] 31)) 1
        have TA : Hid (Tlb (wr.alloc (.cells #[.int .i64 v, .int .i64 p, .int .i64 f, .bool wri, .bool ex] 31)).drew P M R next ps) := Lib.hid (hT'.out.kept hd (by simp) (by simp))
        have RA : Hid (RTlb (wr.alloc (.cells #[.int .i64 v, .int .i64 p, .int .i64 f, .bool wri, .bool ex] 31)).drew r g R next ps) := Lib.hid (hR'.out.kept hd (by simp) (by simp))
        have BA : Hid (Below w.heap.size w (wr.alloc (.cells #[.int .i64 v, .int .i64 p, .int .i64 f, .bool wri, .bool ex] 31)).drew) := Lib.hid hB'.out.drew
        have LA : Hid (Lay (wr.alloc (.cells #[.int .i64 v, .int .i64 p, .int .i64 f, .bool wri, .bool ex] 31)).drew wr.heap.size 31 [.int .i64 v, .int .i64 p, .int .i64 f, .bool wri, .bool ex]) := Lib.hid (hL.out.kept hd (by simp))
        clear hT' hR' hB' hL hd c0 c1 c2 c3 c4 c5
        refine wp_region_noPanic ?_
        refine wp_region_held_drew (S := fun w' => Lay w' wr.heap.size 31 [.int .i64 v, .int .i64 p, .int .i64 f, .bool wri, .bool ex]) (by kernel_rfl) LA.out (fun _ => ?_)
        generalize (wr.alloc (.cells #[.int .i64 v, .int .i64 p, .int .i64 f, .bool wri, .bool ex] 31)).drew = wa at *
        refine wpAnyH_take (i := 0) (oi := ⟨some 74, _, _, _, _, _⟩) rfl (by kernel_rfl) (by kernel_rfl) (by kernel_rfl) (fun _ _ _ h => h) (y_run (v := .pointer (some ⟨P, 0, none⟩)) (by kernel_rfl) (fun _ => by kernel_rfl)) LA.out ?_
        refine wpAnyH_take (i := 1) (oi := ⟨some 75, _, _, _, _, _⟩) rfl (by kernel_rfl) (by kernel_rfl) (by kernel_rfl) (fun _ _ _ h => h) (y_run (v := .pointer (some ⟨wr.heap.size, 0, none⟩)) (by kernel_rfl) (fun _ => by kernel_rfl)) LA.out ?_
        refine wpAnyH_take (i := 2) (oi := ⟨some 76, _, _, _, _, _⟩) rfl (by kernel_rfl) (by kernel_rfl) (by kernel_rfl) (fun _ _ _ h => h) (y_int wr.heap.size 0 v (by kernel_rfl) (fun _ h => h.cell 0) (.tmp 75) (by kernel_rfl) rfl) LA.out ?_
        refine wpAnyH_take (i := 3) (oi := ⟨some 77, _, _, _, _, _⟩) rfl (by kernel_rfl) (by kernel_rfl) (by kernel_rfl) (fun _ _ _ h => h) (y_run (v := .pointer (some ⟨wr.heap.size, 1, none⟩)) (by kernel_rfl) (fun _ => by kernel_rfl)) LA.out ?_
        refine wpAnyH_take (i := 4) (oi := ⟨some 78, _, _, _, _, _⟩) rfl (by kernel_rfl) (by kernel_rfl) (by kernel_rfl) (fun _ _ _ h => h) (y_int wr.heap.size 1 p (by kernel_rfl) (fun _ h => h.cell 1) (.tmp 77) (by kernel_rfl) rfl) LA.out ?_
        refine wpAnyH_take (i := 6) (oi := ⟨some 80, _, _, _, _, _⟩) rfl (by kernel_rfl) (by kernel_rfl) (by kernel_rfl) (fun _ _ _ h => h) (y_run (v := .pointer (some ⟨r, 0, none⟩)) (by kernel_rfl) (fun _ => by kernel_rfl)) LA.out ?_
        refine wpAnyH_take (i := 7) (oi := ⟨some 81, _, _, _, _, _⟩) rfl (by kernel_rfl) (by kernel_rfl) (by kernel_rfl) (fun _ _ _ h => h) (y_run (v := .pointer (some ⟨wr.heap.size, 0, none⟩)) (by kernel_rfl) (fun _ => by kernel_rfl)) LA.out ?_
        refine wpAnyH_take (i := 8) (oi := ⟨some 82, _, _, _, _, _⟩) rfl (by kernel_rfl) (by kernel_rfl) (by kernel_rfl) (fun _ _ _ h => h) (y_int wr.heap.size 0 v (by kernel_rfl) (fun _ h => h.cell 0) (.tmp 81) (by kernel_rfl) rfl) LA.out ?_
        refine wpAnyH_take (i := 9) (oi := ⟨some 83, _, _, _, _, _⟩) rfl (by kernel_rfl) (by kernel_rfl) (by kernel_rfl) (fun _ _ _ h => h) (y_run (v := .pointer (some ⟨wr.heap.size, 1, none⟩)) (by kernel_rfl) (fun _ => by kernel_rfl)) LA.out ?_
        refine wpAnyH_take (i := 10) (oi := ⟨some 84, _, _, _, _, _⟩) rfl (by kernel_rfl) (by kernel_rfl) (by kernel_rfl) (fun _ _ _ h => h) (y_int wr.heap.size 1 p (by kernel_rfl) (fun _ h => h.cell 1) (.tmp 83) (by kernel_rfl) rfl) LA.out ?_
        simp only [Act.put, List.setIfInBounds_toArray, List.set_cons_zero, List.set_cons_succ]
        refine wpAnyH_ready (rs := [5]) (by kernel_rfl) (by simp) ?_
        refine AllReadyH.cons (o := ⟨some 79, .call _, _, _, _, _⟩) rfl (fun K hK => ?_) AllReadyH.nil
        go_simp
        refine (drop1_any P M R next ps v p _ TA.out s1 s2).mono ?_
        rintro _ w3 ⟨rfl, hT3, hO3⟩
        have L3 := Lib.hid (LA.out.kept hO3 (by simp; omega))
        have R3 := Lib.hid (RA.out.kept hO3 (by simp; exact a3.symm) (by simp; exact a4.symm))
        have B3 := Lib.hid (BA.out.trans (hO3.below BA.out.size (by simp; omega)))
        have T3 := Lib.hid hT3
        refine hK.out _ _ L3.out (fun _ => ?_)
        clear hK K hT3 hO3 TA RA BA LA
        refine wpAnyH_ready (rs := [11]) (by kernel_rfl) (by simp) ?_
        refine AllReadyH.cons (o := ⟨some 85, .call _, _, _, _, _⟩) rfl (fun K hK => ?_) AllReadyH.nil
        go_simp
        refine (rdropn_any r g R next ps v p _ R3.out).mono ?_
        rintro _ w8 ⟨rfl, hR8, hO8⟩
        have LX := Lib.hid (L3.out.kept hO8 (by simp; omega))
        have TX := Lib.hid (T3.out.kept hO8 (by simp; exact a2) (by simp; exact a4))
        have BX := Lib.hid (B3.out.trans (hO8.below B3.out.size (by simp; omega)))
        have RX := Lib.hid hR8
        refine hK.out _ _ LX.out (fun _ => ?_)
        clear hK K hR8 hO8 T3 R3 B3 L3
        refine wpAnyH_take (i := 12) (oi := ⟨some 86, _, _, _, _, _⟩) rfl (by kernel_rfl) (by kernel_rfl) (by kernel_rfl) (fun _ _ _ h => h) (y_gtr (dn (named v p) ps ps.length : Nat) (by kernel_rfl) (.tmp 85) (by kernel_rfl) rfl) LX.out ?_
        rw [found_dn v p ps]
        refine wpAnyH_take (i := 13) (oi := ⟨some 87, _, _, _, _, _⟩) rfl (by kernel_rfl) (by kernel_rfl) (by kernel_rfl) (fun _ _ _ h => h) (y_neqB (findP v p 0 ps).isSome (by kernel_rfl) (.tmp 79) (.tmp 86) (by kernel_rfl) (by kernel_rfl) rfl) LX.out ?_
        refine wpAnyH_done (by kernel_rfl) ?_ _
        simp only [Act.put, List.setIfInBounds_toArray, List.set_cons_zero, List.set_cons_succ]
        refine NoPanic.normal ?_
        clear LX
        go_wp2_with fail
        refine (find_any P M R _ _ vm pg _ TX.out hvm hpg).mono ?_
        rintro e w9 ⟨he, b9⟩
        cases hf : findP vm pg 0 (delP v p ps) with
        | none =>
          rw [hf] at he
          replace he : e = .returned (.tuple #[.agg #[.int .i64 0, .int .i64 0, .int .i64 0, .bool false, .bool false], .bool false]) := he
          subst he
          have B4 := Lib.hid ((BX.out.trans (b9.mono BX.out.size)).alloc (Nat.le_trans BX.out.size b9.size) (.cells #[.int .i64 0, .int .i64 0, .int .i64 0, .bool false, .bool false] 31))
          have T4 := Lib.hid ((TX.out.kept (Only.of b9 []) (by simp) (by simp)).kept (Only.alloc [] w9 (.cells #[.int .i64 0, .int .i64 0, .int .i64 0, .bool false, .bool false] 31)) (by simp) (by simp))
          have R4 := Lib.hid ((RX.out.kept (Only.of b9 []) (by simp) (by simp)).kept (Only.alloc [] w9 (.cells #[.int .i64 0, .int .i64 0, .int .i64 0, .bool false, .bool false] 31)) (by simp) (by simp))
          have L4 := Lib.hid (Lay.new w9 31 [.int .i64 0, .int .i64 0, .int .i64 0, .bool false, .bool false])
          clear TX RX BX b9
          go_wp2_with fail
          refine (at_any r g R _ _ vm pg _ R4.out).mono ?_
          rintro e w10 ⟨rfl, rfl⟩
          rw [hf]
          obtain ⟨w4, hw4⟩ : ∃ w4, w4 = w9.alloc (.cells #[.int .i64 0, .int .i64 0, .int .i64 0, .bool false, .bool false] 31) := ⟨_, rfl⟩
          rw [← hw4] at B4 T4 R4 L4 ⊢
          clear hw4
          have e0 := L4.out.cell 0
          have e1 := L4.out.cell 1
          have e2 := L4.out.cell 2
          have e3 := L4.out.cell 3
          have e4 := L4.out.cell 4
          simp only [List.getElem?_cons_zero, List.getElem?_cons_succ] at e0 e1 e2 e3 e4
          have SM := Lib.hid (fun dq osq => same_true P M r g R _ _ _ _ (T4.out.kept (Only.of (below_regrown w4 dq osq) []) (by simp) (by simp)) (R4.out.kept (Only.of (below_regrown w4 dq osq) []) (by simp) (by simp)))
          rw [show atI none = -1 from rfl]
          have hne : ∀ w, (binOp .neq 31 (.agg #[.int .i64 0, .int .i64 0, .int .i64 0, .bool false, .bool false]) (.agg #[.int .i64 0, .int .i64 0, .int .i64 0, .bool false, .bool false])).run Try.prog w = .ok (.bool false) w := fun w => by
            have := neqSlot (0, 0, 0, false, false) (0, 0, 0, false, false) w
            simpa using this
          go_wp2_with fail
          have ee0 := cell_regrown e0
          have ee1 := cell_regrown e1
          have ee2 := cell_regrown e2
          have ee3 := cell_regrown e3
          have ee4 := cell_regrown e4
          refine wp_region_quiet_below (by kernel_rfl) (by kernel_rfl) ?_
          repeat (go_big_quiet_step (first | (go_at_call 19; exact Calls.regrown_of (SM.out _ _))))
          refine wpQuiet_nil ?_
          intro _ hw'
          obtain ⟨⟨dq, osq⟩, hw''⟩ := hw'
          subst hw''
          have T5 := Lib.hid (T4.out.kept (Only.of (below_regrown w4 dq osq) []) (by simp) (by simp))
          have R5 := Lib.hid (R4.out.kept (Only.of (below_regrown w4 dq osq) []) (by simp) (by simp))
          have B5 := Lib.hid (B4.out.trans ((below_regrown w4 dq osq).mono B4.out.size))
          clear SM T4 R4 B4 L4 e0 e1 e2 e3 e4 ee0 ee1 ee2 ee3 ee4 hne
          generalize Go.Sort.grow (redrawn w4 _) _ = w5 at *
          go_wp2_with fail
          go_roundw
          case rel => exact ⟨i + 1, by simp, by omega, _, _, _, _, rfl, T5.out, R5.out, AW.out, B5.out⟩
          case measure => simp only [intOf, Int.toNat_natCast]; omega
        | some h =>
          obtain ⟨k, s, hk, rfl, hn⟩ := findP_some hf
          obtain ⟨sv, sp, sf, sw, sx⟩ := s
          rw [hf] at he
          replace he : e = .returned (.tuple #[.agg #[.int .i64 sv, .int .i64 sp, .int .i64 sf, .bool sw, .bool sx], .bool true]) := he
          subst he
          have B4 := Lib.hid ((BX.out.trans (b9.mono BX.out.size)).alloc (Nat.le_trans BX.out.size b9.size) (.cells #[.int .i64 sv, .int .i64 sp, .int .i64 sf, .bool sw, .bool sx] 31))
          have T4 := Lib.hid ((TX.out.kept (Only.of b9 []) (by simp) (by simp)).kept (Only.alloc [] w9 (.cells #[.int .i64 sv, .int .i64 sp, .int .i64 sf, .bool sw, .bool sx] 31)) (by simp) (by simp))
          have R4 := Lib.hid ((RX.out.kept (Only.of b9 []) (by simp) (by simp)).kept (Only.alloc [] w9 (.cells #[.int .i64 sv, .int .i64 sp, .int .i64 sf, .bool sw, .bool sx] 31)) (by simp) (by simp))
          have L4 := Lib.hid (Lay.new w9 31 [.int .i64 sv, .int .i64 sp, .int .i64 sf, .bool sw, .bool sx])
          clear TX RX BX b9
          go_wp2_with fail
          refine (at_any r g R _ _ vm pg _ R4.out).mono ?_
          rintro e w10 ⟨rfl, rfl⟩
          rw [hf]
          obtain ⟨w4, hw4⟩ : ∃ w4, w4 = w9.alloc (.cells #[.int .i64 sv, .int .i64 sp, .int .i64 sf, .bool sw, .bool sx] 31) := ⟨_, rfl⟩
          rw [← hw4] at B4 T4 R4 L4 ⊢
          clear hw4
          have e0 := L4.out.cell 0
          have e1 := L4.out.cell 1
          have e2 := L4.out.cell 2
          have e3 := L4.out.cell 3
          have e4 := L4.out.cell 4
          simp only [List.getElem?_cons_zero, List.getElem?_cons_succ] at e0 e1 e2 e3 e4
          have SM := Lib.hid (fun dq osq => same_true P M r g R _ _ _ _ (T4.out.kept (Only.of (below_regrown w4 dq osq) []) (by simp) (by simp)) (R4.out.kept (Only.of (below_regrown w4 dq osq) []) (by simp) (by simp)))
          rw [show atI (some (((0 + k : Nat) : Int), ((sv, sp, sf, sw, sx) : SlotT))) = (k : Int) by simp [atI]]
          have r0 := R4.out.lay.cell 0
          simp only [List.getElem?_cons_zero] at r0
          have hkR : k < R := by rw [← R4.out.len]; exact (List.getElem?_eq_some_iff.1 hk).1
          have hkr : (k : Int) < (R : Int) := by omega
          have hk0 : (0 : Int) ≤ (k : Int) := by omega
          have hkd : decide ((0 : Int) ≤ (k : Int)) = true := decide_eq_true hk0
          have q0 := R4.out.row.range k _ hk 0 _ rfl
          have q1 := R4.out.row.range k _ hk 1 _ rfl
          have q2 := R4.out.row.range k _ hk 2 _ rfl
          have q3 := R4.out.row.range k _ hk 3 _ rfl
          have q4 := R4.out.row.range k _ hk 4 _ rfl
          have q5 := R4.out.row.range k _ hk 5 _ rfl
          rw [Nat.add_zero] at q0
          replace q0 : w4.cell? ⟨g, k * 6, none⟩ = some (.int .i64 sv) := q0
          replace q1 : w4.cell? ⟨g, k * 6 + 1, none⟩ = some (.int .i64 sp) := q1
          replace q2 : w4.cell? ⟨g, k * 6 + 2, none⟩ = some (.int .i64 sf) := q2
          replace q3 : w4.cell? ⟨g, k * 6 + 3, none⟩ = some (.bool sw) := q3
          replace q4 : w4.cell? ⟨g, k * 6 + 4, none⟩ = some (.bool sx) := q4
          replace q5 : w4.cell? ⟨g, k * 6 + 5, none⟩ = some (.bool true) := q5
          have hne : ∀ w, (binOp .neq 37 (.agg #[.int .i64 sv, .int .i64 sp, .int .i64 sf, .bool sw, .bool sx, .bool true]) (.agg #[.int .i64 sv, .int .i64 sp, .int .i64 sf, .bool sw, .bool sx, .bool true])).run Try.prog w = .ok (.bool false) w := fun w => by
            have := neqRef ((sv, sp, sf, sw, sx), true) ((sv, sp, sf, sw, sx), true) w
            simpa using this
          have DM := Lib.hid (fun w => of_any sv sp sf sw sx w)
          clear hf hk hn
          go_wp2_with fail
          have ee0 := cell_regrown e0
          have ee1 := cell_regrown e1
          have ee2 := cell_regrown e2
          have ee3 := cell_regrown e3
          have ee4 := cell_regrown e4
          have rr0 := cell_regrown r0
          have qq0 := cell_regrown q0
          have qq1 := cell_regrown q1
          have qq2 := cell_regrown q2
          have qq3 := cell_regrown q3
          have qq4 := cell_regrown q4
          have qq5 := cell_regrown q5
          refine wp_region_quiet_below (by kernel_rfl) (by kernel_rfl) ?_
          repeat (go_big_quiet_step (first | (go_at_call 11; exact Calls.regrown_of (DM.out _)) | (go_at_call 19; exact Calls.regrown_of (SM.out _ _))))
          refine wpQuiet_nil ?_
          intro _ hw'
          obtain ⟨⟨dq, osq⟩, hw''⟩ := hw'
          subst hw''
          have T5 := Lib.hid (T4.out.kept (Only.of (below_regrown w4 dq osq) []) (by simp) (by simp))
          have R5 := Lib.hid (R4.out.kept (Only.of (below_regrown w4 dq osq) []) (by simp) (by simp))
          have B5 := Lib.hid (B4.out.trans ((below_regrown w4 dq osq).mono B4.out.size))
          clear SM T4 R4 B4 L4 e0 e1 e2 e3 e4 ee0 ee1 ee2 ee3 ee4 r0 rr0 q0 q1 q2 q3 q4 q5 qq0 qq1 qq2 qq3 qq4 qq5 hne DM hkd
          generalize Go.Sort.grow (redrawn w4 _) _ = w5 at *
          go_wp2_with fail
          go_roundw
          case rel => exact ⟨i + 1, by simp, by omega, _, _, _, _, rfl, T5.out, R5.out, AW.out, B5.out⟩
          case measure => simp only [intOf, Int.toNat_natCast]; omega
      by_cases t2 : t = 2
      · subst t2
        go_wp2_with fail
        have hd := Only.drewN [] (wr.alloc (.cells #[.int .i64 v, .int .i64 p, .int .i64 f, .bool wri, .bool ex] 31)) 1
        have TA : Hid (Tlb (wr.alloc (.cells #[.int .i64 v, .int .i64 p, .int .i64 f, .bool wri, .bool ex] 31)).drew P M R next ps) := Lib.hid (hT'.out.kept hd (by simp) (by simp))
        have RA : Hid (RTlb (wr.alloc (.cells #[.int .i64 v, .int .i64 p, .int .i64 f, .bool wri, .bool ex] 31)).drew r g R next ps) := Lib.hid (hR'.out.kept hd (by simp) (by simp))
        have BA : Hid (Below w.heap.size w (wr.alloc (.cells #[.int .i64 v, .int .i64 p, .int .i64 f, .bool wri, .bool ex] 31)).drew) := Lib.hid hB'.out.drew
        have LA : Hid (Lay (wr.alloc (.cells #[.int .i64 v, .int .i64 p, .int .i64 f, .bool wri, .bool ex] 31)).drew wr.heap.size 31 [.int .i64 v, .int .i64 p, .int .i64 f, .bool wri, .bool ex]) := Lib.hid (hL.out.kept hd (by simp))
        clear hT' hR' hB' hL hd c0 c1 c2 c3 c4 c5
        refine wp_region_noPanic ?_
        refine wp_region_held_drew (S := fun w' => Lay w' wr.heap.size 31 [.int .i64 v, .int .i64 p, .int .i64 f, .bool wri, .bool ex]) (by kernel_rfl) LA.out (fun _ => ?_)
        generalize (wr.alloc (.cells #[.int .i64 v, .int .i64 p, .int .i64 f, .bool wri, .bool ex] 31)).drew = wa at *
        refine wpAnyH_take (i := 0) (oi := ⟨some 90, _, _, _, _, _⟩) rfl (by kernel_rfl) (by kernel_rfl) (by kernel_rfl) (fun _ _ _ h => h) (y_run (v := .pointer (some ⟨P, 0, none⟩)) (by kernel_rfl) (fun _ => by kernel_rfl)) LA.out ?_
        refine wpAnyH_take (i := 1) (oi := ⟨some 91, _, _, _, _, _⟩) rfl (by kernel_rfl) (by kernel_rfl) (by kernel_rfl) (fun _ _ _ h => h) (y_run (v := .pointer (some ⟨wr.heap.size, 0, none⟩)) (by kernel_rfl) (fun _ => by kernel_rfl)) LA.out ?_
        refine wpAnyH_take (i := 2) (oi := ⟨some 92, _, _, _, _, _⟩) rfl (by kernel_rfl) (by kernel_rfl) (by kernel_rfl) (fun _ _ _ h => h) (y_int wr.heap.size 0 v (by kernel_rfl) (fun _ h => h.cell 0) (.tmp 91) (by kernel_rfl) rfl) LA.out ?_
        refine wpAnyH_take (i := 4) (oi := ⟨some 94, _, _, _, _, _⟩) rfl (by kernel_rfl) (by kernel_rfl) (by kernel_rfl) (fun _ _ _ h => h) (y_run (v := .pointer (some ⟨r, 0, none⟩)) (by kernel_rfl) (fun _ => by kernel_rfl)) LA.out ?_
        refine wpAnyH_take (i := 5) (oi := ⟨some 95, _, _, _, _, _⟩) rfl (by kernel_rfl) (by kernel_rfl) (by kernel_rfl) (fun _ _ _ h => h) (y_run (v := .pointer (some ⟨wr.heap.size, 0, none⟩)) (by kernel_rfl) (fun _ => by kernel_rfl)) LA.out ?_
        refine wpAnyH_take (i := 6) (oi := ⟨some 96, _, _, _, _, _⟩) rfl (by kernel_rfl) (by kernel_rfl) (by kernel_rfl) (fun _ _ _ h => h) (y_int wr.heap.size 0 v (by kernel_rfl) (fun _ h => h.cell 0) (.tmp 95) (by kernel_rfl) rfl) LA.out ?_
        simp only [Act.put, List.setIfInBounds_toArray, List.set_cons_zero, List.set_cons_succ]
        refine wpAnyH_ready (rs := [3]) (by kernel_rfl) (by simp) ?_
        refine AllReadyH.cons (o := ⟨some 93, .call _, _, _, _, _⟩) rfl (fun K hK => ?_) AllReadyH.nil
        go_simp
        refine (dropAll_any P M R next ps v _ TA.out).mono ?_
        rintro _ w3 ⟨rfl, hT3, hO3⟩
        have L3 := Lib.hid (LA.out.kept hO3 (by simp; omega))
        have R3 := Lib.hid (RA.out.kept hO3 (by simp; exact a3.symm) (by simp; exact a4.symm))
        have B3 := Lib.hid (BA.out.trans (hO3.below BA.out.size (by simp; omega)))
        have T3 := Lib.hid hT3
        refine hK.out _ _ L3.out (fun _ => ?_)
        clear hK K hT3 hO3 TA RA BA LA
        refine wpAnyH_ready (rs := [7]) (by kernel_rfl) (by simp) ?_
        refine AllReadyH.cons (o := ⟨some 97, .call _, _, _, _, _⟩) rfl (fun K hK => ?_) AllReadyH.nil
        go_simp
        refine (rdrop1_any r g R next ps v _ R3.out).mono ?_
        rintro _ w8 ⟨rfl, hR8, hO8⟩
        have LX := Lib.hid (L3.out.kept hO8 (by simp; omega))
        have TX := Lib.hid (T3.out.kept hO8 (by simp; exact a2) (by simp; exact a4))
        have BX := Lib.hid (B3.out.trans (hO8.below B3.out.size (by simp; omega)))
        have RX := Lib.hid hR8
        refine hK.out _ _ LX.out (fun _ => ?_)
        clear hK K hR8 hO8 T3 R3 B3 L3
        rw [dn_all (fun s => decide (s.1 = v)) ps]
        refine wpAnyH_take (i := 8) (oi := ⟨some 98, _, _, _, _, _⟩) rfl (by kernel_rfl) (by kernel_rfl) (by kernel_rfl) (fun _ _ _ h => h) (y_neqI ((count ps : Int) - count (ps.map (off (fun s => decide (s.1 = v))))) (by kernel_rfl) (.tmp 93) (.tmp 97) (by kernel_rfl) (by kernel_rfl) rfl) LX.out ?_
        refine wpAnyH_done (by kernel_rfl) ?_ _
        simp only [Act.put, List.setIfInBounds_toArray, List.set_cons_zero, List.set_cons_succ]
        refine NoPanic.normal ?_
        clear LX
        go_wp2_with fail
        refine (find_any P M R _ _ vm pg _ TX.out hvm hpg).mono ?_
        rintro e w9 ⟨he, b9⟩
        cases hf : findP vm pg 0 (ps.map (off fun s => decide (s.1 = v))) with
        | none =>
          rw [hf] at he
          replace he : e = .returned (.tuple #[.agg #[.int .i64 0, .int .i64 0, .int .i64 0, .bool false, .bool false], .bool false]) := he
          subst he
          have B4 := Lib.hid ((BX.out.trans (b9.mono BX.out.size)).alloc (Nat.le_trans BX.out.size b9.size) (.cells #[.int .i64 0, .int .i64 0, .int .i64 0, .bool false, .bool false] 31))
          have T4 := Lib.hid ((TX.out.kept (Only.of b9 []) (by simp) (by simp)).kept (Only.alloc [] w9 (.cells #[.int .i64 0, .int .i64 0, .int .i64 0, .bool false, .bool false] 31)) (by simp) (by simp))
          have R4 := Lib.hid ((RX.out.kept (Only.of b9 []) (by simp) (by simp)).kept (Only.alloc [] w9 (.cells #[.int .i64 0, .int .i64 0, .int .i64 0, .bool false, .bool false] 31)) (by simp) (by simp))
          have L4 := Lib.hid (Lay.new w9 31 [.int .i64 0, .int .i64 0, .int .i64 0, .bool false, .bool false])
          clear TX RX BX b9
          go_wp2_with fail
          refine (at_any r g R _ _ vm pg _ R4.out).mono ?_
          rintro e w10 ⟨rfl, rfl⟩
          rw [hf]
          obtain ⟨w4, hw4⟩ : ∃ w4, w4 = w9.alloc (.cells #[.int .i64 0, .int .i64 0, .int .i64 0, .bool false, .bool false] 31) := ⟨_, rfl⟩
          rw [← hw4] at B4 T4 R4 L4 ⊢
          clear hw4
          have e0 := L4.out.cell 0
          have e1 := L4.out.cell 1
          have e2 := L4.out.cell 2
          have e3 := L4.out.cell 3
          have e4 := L4.out.cell 4
          simp only [List.getElem?_cons_zero, List.getElem?_cons_succ] at e0 e1 e2 e3 e4
          have SM := Lib.hid (fun dq osq => same_true P M r g R _ _ _ _ (T4.out.kept (Only.of (below_regrown w4 dq osq) []) (by simp) (by simp)) (R4.out.kept (Only.of (below_regrown w4 dq osq) []) (by simp) (by simp)))
          rw [show atI none = -1 from rfl]
          have hne : ∀ w, (binOp .neq 31 (.agg #[.int .i64 0, .int .i64 0, .int .i64 0, .bool false, .bool false]) (.agg #[.int .i64 0, .int .i64 0, .int .i64 0, .bool false, .bool false])).run Try.prog w = .ok (.bool false) w := fun w => by
            have := neqSlot (0, 0, 0, false, false) (0, 0, 0, false, false) w
            simpa using this
          go_wp2_with fail
          have ee0 := cell_regrown e0
          have ee1 := cell_regrown e1
          have ee2 := cell_regrown e2
          have ee3 := cell_regrown e3
          have ee4 := cell_regrown e4
          refine wp_region_quiet_below (by kernel_rfl) (by kernel_rfl) ?_
          repeat (go_big_quiet_step (first | (go_at_call 19; exact Calls.regrown_of (SM.out _ _))))
          refine wpQuiet_nil ?_
          intro _ hw'
          obtain ⟨⟨dq, osq⟩, hw''⟩ := hw'
          subst hw''
          have T5 := Lib.hid (T4.out.kept (Only.of (below_regrown w4 dq osq) []) (by simp) (by simp))
          have R5 := Lib.hid (R4.out.kept (Only.of (below_regrown w4 dq osq) []) (by simp) (by simp))
          have B5 := Lib.hid (B4.out.trans ((below_regrown w4 dq osq).mono B4.out.size))
          clear SM T4 R4 B4 L4 e0 e1 e2 e3 e4 ee0 ee1 ee2 ee3 ee4 hne
          generalize Go.Sort.grow (redrawn w4 _) _ = w5 at *
          go_wp2_with fail
          go_roundw
          case rel => exact ⟨i + 1, by simp, by omega, _, _, _, _, rfl, T5.out, R5.out, AW.out, B5.out⟩
          case measure => simp only [intOf, Int.toNat_natCast]; omega
        | some h =>
          obtain ⟨k, s, hk, rfl, hn⟩ := findP_some hf
          obtain ⟨sv, sp, sf, sw, sx⟩ := s
          rw [hf] at he
          replace he : e = .returned (.tuple #[.agg #[.int .i64 sv, .int .i64 sp, .int .i64 sf, .bool sw, .bool sx], .bool true]) := he
          subst he
          have B4 := Lib.hid ((BX.out.trans (b9.mono BX.out.size)).alloc (Nat.le_trans BX.out.size b9.size) (.cells #[.int .i64 sv, .int .i64 sp, .int .i64 sf, .bool sw, .bool sx] 31))
          have T4 := Lib.hid ((TX.out.kept (Only.of b9 []) (by simp) (by simp)).kept (Only.alloc [] w9 (.cells #[.int .i64 sv, .int .i64 sp, .int .i64 sf, .bool sw, .bool sx] 31)) (by simp) (by simp))
          have R4 := Lib.hid ((RX.out.kept (Only.of b9 []) (by simp) (by simp)).kept (Only.alloc [] w9 (.cells #[.int .i64 sv, .int .i64 sp, .int .i64 sf, .bool sw, .bool sx] 31)) (by simp) (by simp))
          have L4 := Lib.hid (Lay.new w9 31 [.int .i64 sv, .int .i64 sp, .int .i64 sf, .bool sw, .bool sx])
          clear TX RX BX b9
          go_wp2_with fail
          refine (at_any r g R _ _ vm pg _ R4.out).mono ?_
          rintro e w10 ⟨rfl, rfl⟩
          rw [hf]
          obtain ⟨w4, hw4⟩ : ∃ w4, w4 = w9.alloc (.cells #[.int .i64 sv, .int .i64 sp, .int .i64 sf, .bool sw, .bool sx] 31) := ⟨_, rfl⟩
          rw [← hw4] at B4 T4 R4 L4 ⊢
          clear hw4
          have e0 := L4.out.cell 0
          have e1 := L4.out.cell 1
          have e2 := L4.out.cell 2
          have e3 := L4.out.cell 3
          have e4 := L4.out.cell 4
          simp only [List.getElem?_cons_zero, List.getElem?_cons_succ] at e0 e1 e2 e3 e4
          have SM := Lib.hid (fun dq osq => same_true P M r g R _ _ _ _ (T4.out.kept (Only.of (below_regrown w4 dq osq) []) (by simp) (by simp)) (R4.out.kept (Only.of (below_regrown w4 dq osq) []) (by simp) (by simp)))
          rw [show atI (some (((0 + k : Nat) : Int), ((sv, sp, sf, sw, sx) : SlotT))) = (k : Int) by simp [atI]]
          have r0 := R4.out.lay.cell 0
          simp only [List.getElem?_cons_zero] at r0
          have hkR : k < R := by rw [← R4.out.len]; exact (List.getElem?_eq_some_iff.1 hk).1
          have hkr : (k : Int) < (R : Int) := by omega
          have hk0 : (0 : Int) ≤ (k : Int) := by omega
          have hkd : decide ((0 : Int) ≤ (k : Int)) = true := decide_eq_true hk0
          have q0 := R4.out.row.range k _ hk 0 _ rfl
          have q1 := R4.out.row.range k _ hk 1 _ rfl
          have q2 := R4.out.row.range k _ hk 2 _ rfl
          have q3 := R4.out.row.range k _ hk 3 _ rfl
          have q4 := R4.out.row.range k _ hk 4 _ rfl
          have q5 := R4.out.row.range k _ hk 5 _ rfl
          rw [Nat.add_zero] at q0
          replace q0 : w4.cell? ⟨g, k * 6, none⟩ = some (.int .i64 sv) := q0
          replace q1 : w4.cell? ⟨g, k * 6 + 1, none⟩ = some (.int .i64 sp) := q1
          replace q2 : w4.cell? ⟨g, k * 6 + 2, none⟩ = some (.int .i64 sf) := q2
          replace q3 : w4.cell? ⟨g, k * 6 + 3, none⟩ = some (.bool sw) := q3
          replace q4 : w4.cell? ⟨g, k * 6 + 4, none⟩ = some (.bool sx) := q4
          replace q5 : w4.cell? ⟨g, k * 6 + 5, none⟩ = some (.bool true) := q5
          have hne : ∀ w, (binOp .neq 37 (.agg #[.int .i64 sv, .int .i64 sp, .int .i64 sf, .bool sw, .bool sx, .bool true]) (.agg #[.int .i64 sv, .int .i64 sp, .int .i64 sf, .bool sw, .bool sx, .bool true])).run Try.prog w = .ok (.bool false) w := fun w => by
            have := neqRef ((sv, sp, sf, sw, sx), true) ((sv, sp, sf, sw, sx), true) w
            simpa using this
          have DM := Lib.hid (fun w => of_any sv sp sf sw sx w)
          clear hf hk hn
          go_wp2_with fail
          have ee0 := cell_regrown e0
          have ee1 := cell_regrown e1
          have ee2 := cell_regrown e2
          have ee3 := cell_regrown e3
          have ee4 := cell_regrown e4
          have rr0 := cell_regrown r0
          have qq0 := cell_regrown q0
          have qq1 := cell_regrown q1
          have qq2 := cell_regrown q2
          have qq3 := cell_regrown q3
          have qq4 := cell_regrown q4
          have qq5 := cell_regrown q5
          refine wp_region_quiet_below (by kernel_rfl) (by kernel_rfl) ?_
          repeat (go_big_quiet_step (first | (go_at_call 11; exact Calls.regrown_of (DM.out _)) | (go_at_call 19; exact Calls.regrown_of (SM.out _ _))))
          refine wpQuiet_nil ?_
          intro _ hw'
          obtain ⟨⟨dq, osq⟩, hw''⟩ := hw'
          subst hw''
          have T5 := Lib.hid (T4.out.kept (Only.of (below_regrown w4 dq osq) []) (by simp) (by simp))
          have R5 := Lib.hid (R4.out.kept (Only.of (below_regrown w4 dq osq) []) (by simp) (by simp))
          have B5 := Lib.hid (B4.out.trans ((below_regrown w4 dq osq).mono B4.out.size))
          clear SM T4 R4 B4 L4 e0 e1 e2 e3 e4 ee0 ee1 ee2 ee3 ee4 r0 rr0 q0 q1 q2 q3 q4 q5 qq0 qq1 qq2 qq3 qq4 qq5 hne DM hkd
          generalize Go.Sort.grow (redrawn w4 _) _ = w5 at *
          go_wp2_with fail
          go_roundw
          case rel => exact ⟨i + 1, by simp, by omega, _, _, _, _, rfl, T5.out, R5.out, AW.out, B5.out⟩
          case measure => simp only [intOf, Int.toNat_natCast]; omega
      by_cases t3 : t = 3
      · subst t3
        go_wp2_with fail
        have hd := Only.drewN [] (wr.alloc (.cells #[.int .i64 v, .int .i64 p, .int .i64 f, .bool wri, .bool ex] 31)) 1
        have TA : Hid (Tlb (wr.alloc (.cells #[.int .i64 v, .int .i64 p, .int .i64 f, .bool wri, .bool ex] 31)).drew P M R next ps) := Lib.hid (hT'.out.kept hd (by simp) (by simp))
        have RA : Hid (RTlb (wr.alloc (.cells #[.int .i64 v, .int .i64 p, .int .i64 f, .bool wri, .bool ex] 31)).drew r g R next ps) := Lib.hid (hR'.out.kept hd (by simp) (by simp))
        have BA : Hid (Below w.heap.size w (wr.alloc (.cells #[.int .i64 v, .int .i64 p, .int .i64 f, .bool wri, .bool ex] 31)).drew) := Lib.hid hB'.out.drew
        have LA : Hid (Lay (wr.alloc (.cells #[.int .i64 v, .int .i64 p, .int .i64 f, .bool wri, .bool ex] 31)).drew wr.heap.size 31 [.int .i64 v, .int .i64 p, .int .i64 f, .bool wri, .bool ex]) := Lib.hid (hL.out.kept hd (by simp))
        clear hT' hR' hB' hL hd c0 c1 c2 c3 c4 c5
        refine wp_region_noPanic ?_
        refine wp_region_held_drew (S := fun w' => Lay w' wr.heap.size 31 [.int .i64 v, .int .i64 p, .int .i64 f, .bool wri, .bool ex]) (by kernel_rfl) LA.out (fun _ => ?_)
        generalize (wr.alloc (.cells #[.int .i64 v, .int .i64 p, .int .i64 f, .bool wri, .bool ex] 31)).drew = wa at *
        refine wpAnyH_take (i := 0) (oi := ⟨some 101, _, _, _, _, _⟩) rfl (by kernel_rfl) (by kernel_rfl) (by kernel_rfl) (fun _ _ _ h => h) (y_run (v := .pointer (some ⟨P, 0, none⟩)) (by kernel_rfl) (fun _ => by kernel_rfl)) LA.out ?_
        refine wpAnyH_take (i := 1) (oi := ⟨some 102, _, _, _, _, _⟩) rfl (by kernel_rfl) (by kernel_rfl) (by kernel_rfl) (fun _ _ _ h => h) (y_run (v := .pointer (some ⟨wr.heap.size, 2, none⟩)) (by kernel_rfl) (fun _ => by kernel_rfl)) LA.out ?_
        refine wpAnyH_take (i := 2) (oi := ⟨some 103, _, _, _, _, _⟩) rfl (by kernel_rfl) (by kernel_rfl) (by kernel_rfl) (fun _ _ _ h => h) (y_int wr.heap.size 2 f (by kernel_rfl) (fun _ h => h.cell 2) (.tmp 102) (by kernel_rfl) rfl) LA.out ?_
        refine wpAnyH_take (i := 4) (oi := ⟨some 105, _, _, _, _, _⟩) rfl (by kernel_rfl) (by kernel_rfl) (by kernel_rfl) (fun _ _ _ h => h) (y_run (v := .pointer (some ⟨r, 0, none⟩)) (by kernel_rfl) (fun _ => by kernel_rfl)) LA.out ?_
        refine wpAnyH_take (i := 5) (oi := ⟨some 106, _, _, _, _, _⟩) rfl (by kernel_rfl) (by kernel_rfl) (by kernel_rfl) (fun _ _ _ h => h) (y_run (v := .pointer (some ⟨wr.heap.size, 2, none⟩)) (by kernel_rfl) (fun _ => by kernel_rfl)) LA.out ?_
        refine wpAnyH_take (i := 6) (oi := ⟨some 107, _, _, _, _, _⟩) rfl (by kernel_rfl) (by kernel_rfl) (by kernel_rfl) (fun _ _ _ h => h) (y_int wr.heap.size 2 f (by kernel_rfl) (fun _ h => h.cell 2) (.tmp 106) (by kernel_rfl) rfl) LA.out ?_
        simp only [Act.put, List.setIfInBounds_toArray, List.set_cons_zero, List.set_cons_succ]
        refine wpAnyH_ready (rs := [3]) (by kernel_rfl) (by simp) ?_
        refine AllReadyH.cons (o := ⟨some 104, .call _, _, _, _, _⟩) rfl (fun K hK => ?_) AllReadyH.nil
        go_simp
        refine (dropFrame_any P M R next ps f _ TA.out).mono ?_
        rintro _ w3 ⟨rfl, hT3, hO3⟩
        have L3 := Lib.hid (LA.out.kept hO3 (by simp; omega))
        have R3 := Lib.hid (RA.out.kept hO3 (by simp; exact a3.symm) (by simp; exact a4.symm))
        have B3 := Lib.hid (BA.out.trans (hO3.below BA.out.size (by simp; omega)))
        have T3 := Lib.hid hT3
        refine hK.out _ _ L3.out (fun _ => ?_)
        clear hK K hT3 hO3 TA RA BA LA
        refine wpAnyH_ready (rs := [7]) (by kernel_rfl) (by simp) ?_
        refine AllReadyH.cons (o := ⟨some 108, .call _, _, _, _, _⟩) rfl (fun K hK => ?_) AllReadyH.nil
        go_simp
        refine (rdrop2_any r g R next ps f _ R3.out).mono ?_
        rintro _ w8 ⟨rfl, hR8, hO8⟩
        have LX := Lib.hid (L3.out.kept hO8 (by simp; omega))
        have TX := Lib.hid (T3.out.kept hO8 (by simp; exact a2) (by simp; exact a4))
        have BX := Lib.hid (B3.out.trans (hO8.below B3.out.size (by simp; omega)))
        have RX := Lib.hid hR8
        refine hK.out _ _ LX.out (fun _ => ?_)
        clear hK K hR8 hO8 T3 R3 B3 L3
        rw [dn_all (fun s => decide (s.2.2.1 = f)) ps]
        refine wpAnyH_take (i := 8) (oi := ⟨some 109, _, _, _, _, _⟩) rfl (by kernel_rfl) (by kernel_rfl) (by kernel_rfl) (fun _ _ _ h => h) (y_neqI ((count ps : Int) - count (ps.map (off (fun s => decide (s.2.2.1 = f))))) (by kernel_rfl) (.tmp 104) (.tmp 108) (by kernel_rfl) (by kernel_rfl) rfl) LX.out ?_
        refine wpAnyH_done (by kernel_rfl) ?_ _
        simp only [Act.put, List.setIfInBounds_toArray, List.set_cons_zero, List.set_cons_succ]
        refine NoPanic.normal ?_
        clear LX
        go_wp2_with fail
        refine (find_any P M R _ _ vm pg _ TX.out hvm hpg).mono ?_
        rintro e w9 ⟨he, b9⟩
        cases hf : findP vm pg 0 (ps.map (off fun s => decide (s.2.2.1 = f))) with
        | none =>
          rw [hf] at he
          replace he : e = .returned (.tuple #[.agg #[.int .i64 0, .int .i64 0, .int .i64 0, .bool false, .bool false], .bool false]) := he
          subst he
          have B4 := Lib.hid ((BX.out.trans (b9.mono BX.out.size)).alloc (Nat.le_trans BX.out.size b9.size) (.cells #[.int .i64 0, .int .i64 0, .int .i64 0, .bool false, .bool false] 31))
          have T4 := Lib.hid ((TX.out.kept (Only.of b9 []) (by simp) (by simp)).kept (Only.alloc [] w9 (.cells #[.int .i64 0, .int .i64 0, .int .i64 0, .bool false, .bool false] 31)) (by simp) (by simp))
          have R4 := Lib.hid ((RX.out.kept (Only.of b9 []) (by simp) (by simp)).kept (Only.alloc [] w9 (.cells #[.int .i64 0, .int .i64 0, .int .i64 0, .bool false, .bool false] 31)) (by simp) (by simp))
          have L4 := Lib.hid (Lay.new w9 31 [.int .i64 0, .int .i64 0, .int .i64 0, .bool false, .bool false])
          clear TX RX BX b9
          go_wp2_with fail
          refine (at_any r g R _ _ vm pg _ R4.out).mono ?_
          rintro e w10 ⟨rfl, rfl⟩
          rw [hf]
          obtain ⟨w4, hw4⟩ : ∃ w4, w4 = w9.alloc (.cells #[.int .i64 0, .int .i64 0, .int .i64 0, .bool false, .bool false] 31) := ⟨_, rfl⟩
          rw [← hw4] at B4 T4 R4 L4 ⊢
          clear hw4
          have e0 := L4.out.cell 0
          have e1 := L4.out.cell 1
          have e2 := L4.out.cell 2
          have e3 := L4.out.cell 3
          have e4 := L4.out.cell 4
          simp only [List.getElem?_cons_zero, List.getElem?_cons_succ] at e0 e1 e2 e3 e4
          have SM := Lib.hid (fun dq osq => same_true P M r g R _ _ _ _ (T4.out.kept (Only.of (below_regrown w4 dq osq) []) (by simp) (by simp)) (R4.out.kept (Only.of (below_regrown w4 dq osq) []) (by simp) (by simp)))
          rw [show atI none = -1 from rfl]
          have hne : ∀ w, (binOp .neq 31 (.agg #[.int .i64 0, .int .i64 0, .int .i64 0, .bool false, .bool false]) (.agg #[.int .i64 0, .int .i64 0, .int .i64 0, .bool false, .bool false])).run Try.prog w = .ok (.bool false) w := fun w => by
            have := neqSlot (0, 0, 0, false, false) (0, 0, 0, false, false) w
            simpa using this
          go_wp2_with fail
          have ee0 := cell_regrown e0
          have ee1 := cell_regrown e1
          have ee2 := cell_regrown e2
          have ee3 := cell_regrown e3
          have ee4 := cell_regrown e4
          refine wp_region_quiet_below (by kernel_rfl) (by kernel_rfl) ?_
          repeat (go_big_quiet_step (first | (go_at_call 19; exact Calls.regrown_of (SM.out _ _))))
          refine wpQuiet_nil ?_
          intro _ hw'
          obtain ⟨⟨dq, osq⟩, hw''⟩ := hw'
          subst hw''
          have T5 := Lib.hid (T4.out.kept (Only.of (below_regrown w4 dq osq) []) (by simp) (by simp))
          have R5 := Lib.hid (R4.out.kept (Only.of (below_regrown w4 dq osq) []) (by simp) (by simp))
          have B5 := Lib.hid (B4.out.trans ((below_regrown w4 dq osq).mono B4.out.size))
          clear SM T4 R4 B4 L4 e0 e1 e2 e3 e4 ee0 ee1 ee2 ee3 ee4 hne
          generalize Go.Sort.grow (redrawn w4 _) _ = w5 at *
          go_wp2_with fail
          go_roundw
          case rel => exact ⟨i + 1, by simp, by omega, _, _, _, _, rfl, T5.out, R5.out, AW.out, B5.out⟩
          case measure => simp only [intOf, Int.toNat_natCast]; omega
        | some h =>
          obtain ⟨k, s, hk, rfl, hn⟩ := findP_some hf
          obtain ⟨sv, sp, sf, sw, sx⟩ := s
          rw [hf] at he
          replace he : e = .returned (.tuple #[.agg #[.int .i64 sv, .int .i64 sp, .int .i64 sf, .bool sw, .bool sx], .bool true]) := he
          subst he
          have B4 := Lib.hid ((BX.out.trans (b9.mono BX.out.size)).alloc (Nat.le_trans BX.out.size b9.size) (.cells #[.int .i64 sv, .int .i64 sp, .int .i64 sf, .bool sw, .bool sx] 31))
          have T4 := Lib.hid ((TX.out.kept (Only.of b9 []) (by simp) (by simp)).kept (Only.alloc [] w9 (.cells #[.int .i64 sv, .int .i64 sp, .int .i64 sf, .bool sw, .bool sx] 31)) (by simp) (by simp))
          have R4 := Lib.hid ((RX.out.kept (Only.of b9 []) (by simp) (by simp)).kept (Only.alloc [] w9 (.cells #[.int .i64 sv, .int .i64 sp, .int .i64 sf, .bool sw, .bool sx] 31)) (by simp) (by simp))
          have L4 := Lib.hid (Lay.new w9 31 [.int .i64 sv, .int .i64 sp, .int .i64 sf, .bool sw, .bool sx])
          clear TX RX BX b9
          go_wp2_with fail
          refine (at_any r g R _ _ vm pg _ R4.out).mono ?_
          rintro e w10 ⟨rfl, rfl⟩
          rw [hf]
          obtain ⟨w4, hw4⟩ : ∃ w4, w4 = w9.alloc (.cells #[.int .i64 sv, .int .i64 sp, .int .i64 sf, .bool sw, .bool sx] 31) := ⟨_, rfl⟩
          rw [← hw4] at B4 T4 R4 L4 ⊢
          clear hw4
          have e0 := L4.out.cell 0
          have e1 := L4.out.cell 1
          have e2 := L4.out.cell 2
          have e3 := L4.out.cell 3
          have e4 := L4.out.cell 4
          simp only [List.getElem?_cons_zero, List.getElem?_cons_succ] at e0 e1 e2 e3 e4
          have SM := Lib.hid (fun dq osq => same_true P M r g R _ _ _ _ (T4.out.kept (Only.of (below_regrown w4 dq osq) []) (by simp) (by simp)) (R4.out.kept (Only.of (below_regrown w4 dq osq) []) (by simp) (by simp)))
          rw [show atI (some (((0 + k : Nat) : Int), ((sv, sp, sf, sw, sx) : SlotT))) = (k : Int) by simp [atI]]
          have r0 := R4.out.lay.cell 0
          simp only [List.getElem?_cons_zero] at r0
          have hkR : k < R := by rw [← R4.out.len]; exact (List.getElem?_eq_some_iff.1 hk).1
          have hkr : (k : Int) < (R : Int) := by omega
          have hk0 : (0 : Int) ≤ (k : Int) := by omega
          have hkd : decide ((0 : Int) ≤ (k : Int)) = true := decide_eq_true hk0
          have q0 := R4.out.row.range k _ hk 0 _ rfl
          have q1 := R4.out.row.range k _ hk 1 _ rfl
          have q2 := R4.out.row.range k _ hk 2 _ rfl
          have q3 := R4.out.row.range k _ hk 3 _ rfl
          have q4 := R4.out.row.range k _ hk 4 _ rfl
          have q5 := R4.out.row.range k _ hk 5 _ rfl
          rw [Nat.add_zero] at q0
          replace q0 : w4.cell? ⟨g, k * 6, none⟩ = some (.int .i64 sv) := q0
          replace q1 : w4.cell? ⟨g, k * 6 + 1, none⟩ = some (.int .i64 sp) := q1
          replace q2 : w4.cell? ⟨g, k * 6 + 2, none⟩ = some (.int .i64 sf) := q2
          replace q3 : w4.cell? ⟨g, k * 6 + 3, none⟩ = some (.bool sw) := q3
          replace q4 : w4.cell? ⟨g, k * 6 + 4, none⟩ = some (.bool sx) := q4
          replace q5 : w4.cell? ⟨g, k * 6 + 5, none⟩ = some (.bool true) := q5
          have hne : ∀ w, (binOp .neq 37 (.agg #[.int .i64 sv, .int .i64 sp, .int .i64 sf, .bool sw, .bool sx, .bool true]) (.agg #[.int .i64 sv, .int .i64 sp, .int .i64 sf, .bool sw, .bool sx, .bool true])).run Try.prog w = .ok (.bool false) w := fun w => by
            have := neqRef ((sv, sp, sf, sw, sx), true) ((sv, sp, sf, sw, sx), true) w
            simpa using this
          have DM := Lib.hid (fun w => of_any sv sp sf sw sx w)
          clear hf hk hn
          go_wp2_with fail
          have ee0 := cell_regrown e0
          have ee1 := cell_regrown e1
          have ee2 := cell_regrown e2
          have ee3 := cell_regrown e3
          have ee4 := cell_regrown e4
          have rr0 := cell_regrown r0
          have qq0 := cell_regrown q0
          have qq1 := cell_regrown q1
          have qq2 := cell_regrown q2
          have qq3 := cell_regrown q3
          have qq4 := cell_regrown q4
          have qq5 := cell_regrown q5
          refine wp_region_quiet_below (by kernel_rfl) (by kernel_rfl) ?_
          repeat (go_big_quiet_step (first | (go_at_call 11; exact Calls.regrown_of (DM.out _)) | (go_at_call 19; exact Calls.regrown_of (SM.out _ _))))
          refine wpQuiet_nil ?_
          intro _ hw'
          obtain ⟨⟨dq, osq⟩, hw''⟩ := hw'
          subst hw''
          have T5 := Lib.hid (T4.out.kept (Only.of (below_regrown w4 dq osq) []) (by simp) (by simp))
          have R5 := Lib.hid (R4.out.kept (Only.of (below_regrown w4 dq osq) []) (by simp) (by simp))
          have B5 := Lib.hid (B4.out.trans ((below_regrown w4 dq osq).mono B4.out.size))
          clear SM T4 R4 B4 L4 e0 e1 e2 e3 e4 ee0 ee1 ee2 ee3 ee4 r0 rr0 q0 q1 q2 q3 q4 q5 qq0 qq1 qq2 qq3 qq4 qq5 hne DM hkd
          generalize Go.Sort.grow (redrawn w4 _) _ = w5 at *
          go_wp2_with fail
          go_roundw
          case rel => exact ⟨i + 1, by simp, by omega, _, _, _, _, rfl, T5.out, R5.out, AW.out, B5.out⟩
          case measure => simp only [intOf, Int.toNat_natCast]; omega
      by_cases t4 : t = 4
      · subst t4
        go_wp2_with fail
        refine (clear_any P M R next ps _ hT'.out).mono ?_
        rintro e w3 ⟨rfl, T3, O3⟩
        have B3 := Lib.hid (hB'.out.trans (O3.below hB'.out.size (by simp; omega)))
        have T3' := Lib.hid T3
        have z1 := T3.lt
        have z2 := T3.map.lt
        clear hL hT' hR' hB' T3 O3 c0 c1 c2 c3 c4 c5
        go_wp2_with fail
        refine (rnew_any R w3 r1 r2).mono ?_
        rintro e w6 ⟨rfl, R6, O6⟩
        have B6 := Lib.hid (B3.out.trans (O6.below B3.out.size (by simp)))
        have T6 := Lib.hid (T3'.out.kept O6 (by simp) (by simp))
        have R6' := Lib.hid R6
        have A6 := Lib.hid (show Away w.heap.size P M (w3.heap.size + 1) w3.heap.size from ⟨by omega, by omega, by omega, by omega, by have := B3.out.size; omega, B3.out.size⟩)
        obtain ⟨rn, hrn⟩ : ∃ rn, rn = w3.heap.size + 1 := ⟨_, rfl⟩
        obtain ⟨gn, hgn⟩ : ∃ gn, gn = w3.heap.size := ⟨_, rfl⟩
        rw [← hrn, ← hgn] at R6' A6
        rw [← hrn]
        clear T3' B3 R6 O6 z1 z2 hrn hgn
        go_wp2_with fail
        refine (find_any P M R _ _ vm pg _ T6.out hvm hpg).mono ?_
        rintro e w9 ⟨he, b9⟩
        cases hf : findP vm pg 0 (List.replicate R none) with
        | none =>
          rw [hf] at he
          replace he : e = .returned (.tuple #[.agg #[.int .i64 0, .int .i64 0, .int .i64 0, .bool false, .bool false], .bool false]) := he
          subst he
          have B4 := Lib.hid ((B6.out.trans (b9.mono B6.out.size)).alloc (Nat.le_trans B6.out.size b9.size) (.cells #[.int .i64 0, .int .i64 0, .int .i64 0, .bool false, .bool false] 31))
          have T4 := Lib.hid ((T6.out.kept (Only.of b9 []) (by simp) (by simp)).kept (Only.alloc [] w9 (.cells #[.int .i64 0, .int .i64 0, .int .i64 0, .bool false, .bool false] 31)) (by simp) (by simp))
          have R4 := Lib.hid ((R6'.out.kept (Only.of b9 []) (by simp) (by simp)).kept (Only.alloc [] w9 (.cells #[.int .i64 0, .int .i64 0, .int .i64 0, .bool false, .bool false] 31)) (by simp) (by simp))
          have L4 := Lib.hid (Lay.new w9 31 [.int .i64 0, .int .i64 0, .int .i64 0, .bool false, .bool false])
          clear T6 R6' B6 b9
          go_wp2_with fail
          refine (at_any rn gn R _ _ vm pg _ R4.out).mono ?_
          rintro e w10 ⟨rfl, rfl⟩
          rw [hf]
          obtain ⟨w4, hw4⟩ : ∃ w4, w4 = w9.alloc (.cells #[.int .i64 0, .int .i64 0, .int .i64 0, .bool false, .bool false] 31) := ⟨_, rfl⟩
          rw [← hw4] at B4 T4 R4 L4 ⊢
          clear hw4
          have e0 := L4.out.cell 0
          have e1 := L4.out.cell 1
          have e2 := L4.out.cell 2
          have e3 := L4.out.cell 3
          have e4 := L4.out.cell 4
          simp only [List.getElem?_cons_zero, List.getElem?_cons_succ] at e0 e1 e2 e3 e4
          have SM := Lib.hid (fun dq osq => same_true P M rn gn R _ _ _ _ (T4.out.kept (Only.of (below_regrown w4 dq osq) []) (by simp) (by simp)) (R4.out.kept (Only.of (below_regrown w4 dq osq) []) (by simp) (by simp)))
          rw [show atI none = -1 from rfl]
          have hne : ∀ w, (binOp .neq 31 (.agg #[.int .i64 0, .int .i64 0, .int .i64 0, .bool false, .bool false]) (.agg #[.int .i64 0, .int .i64 0, .int .i64 0, .bool false, .bool false])).run Try.prog w = .ok (.bool false) w := fun w => by
            have := neqSlot (0, 0, 0, false, false) (0, 0, 0, false, false) w
            simpa using this
          go_wp2_with fail
          have ee0 := cell_regrown e0
          have ee1 := cell_regrown e1
          have ee2 := cell_regrown e2
          have ee3 := cell_regrown e3
          have ee4 := cell_regrown e4
          refine wp_region_quiet_below (by kernel_rfl) (by kernel_rfl) ?_
          repeat (go_big_quiet_step (first | (go_at_call 19; exact Calls.regrown_of (SM.out _ _))))
          refine wpQuiet_nil ?_
          intro _ hw'
          obtain ⟨⟨dq, osq⟩, hw''⟩ := hw'
          subst hw''
          have T5 := Lib.hid (T4.out.kept (Only.of (below_regrown w4 dq osq) []) (by simp) (by simp))
          have R5 := Lib.hid (R4.out.kept (Only.of (below_regrown w4 dq osq) []) (by simp) (by simp))
          have B5 := Lib.hid (B4.out.trans ((below_regrown w4 dq osq).mono B4.out.size))
          clear SM T4 R4 B4 L4 e0 e1 e2 e3 e4 ee0 ee1 ee2 ee3 ee4 hne
          generalize Go.Sort.grow (redrawn w4 _) _ = w5 at *
          go_wp2_with fail
          go_roundw
          case rel => exact ⟨i + 1, by simp, by omega, _, _, _, _, rfl, T5.out, R5.out, A6.out, B5.out⟩
          case measure => simp only [intOf, Int.toNat_natCast]; omega
        | some h =>
          obtain ⟨k, s, hk, rfl, hn⟩ := findP_some hf
          obtain ⟨sv, sp, sf, sw, sx⟩ := s
          rw [hf] at he
          replace he : e = .returned (.tuple #[.agg #[.int .i64 sv, .int .i64 sp, .int .i64 sf, .bool sw, .bool sx], .bool true]) := he
          subst he
          have B4 := Lib.hid ((B6.out.trans (b9.mono B6.out.size)).alloc (Nat.le_trans B6.out.size b9.size) (.cells #[.int .i64 sv, .int .i64 sp, .int .i64 sf, .bool sw, .bool sx] 31))
          have T4 := Lib.hid ((T6.out.kept (Only.of b9 []) (by simp) (by simp)).kept (Only.alloc [] w9 (.cells #[.int .i64 sv, .int .i64 sp, .int .i64 sf, .bool sw, .bool sx] 31)) (by simp) (by simp))
          have R4 := Lib.hid ((R6'.out.kept (Only.of b9 []) (by simp) (by simp)).kept (Only.alloc [] w9 (.cells #[.int .i64 sv, .int .i64 sp, .int .i64 sf, .bool sw, .bool sx] 31)) (by simp) (by simp))
          have L4 := Lib.hid (Lay.new w9 31 [.int .i64 sv, .int .i64 sp, .int .i64 sf, .bool sw, .bool sx])
          clear T6 R6' B6 b9
          go_wp2_with fail
          refine (at_any rn gn R _ _ vm pg _ R4.out).mono ?_
          rintro e w10 ⟨rfl, rfl⟩
          rw [hf]
          obtain ⟨w4, hw4⟩ : ∃ w4, w4 = w9.alloc (.cells #[.int .i64 sv, .int .i64 sp, .int .i64 sf, .bool sw, .bool sx] 31) := ⟨_, rfl⟩
          rw [← hw4] at B4 T4 R4 L4 ⊢
          clear hw4
          have e0 := L4.out.cell 0
          have e1 := L4.out.cell 1
          have e2 := L4.out.cell 2
          have e3 := L4.out.cell 3
          have e4 := L4.out.cell 4
          simp only [List.getElem?_cons_zero, List.getElem?_cons_succ] at e0 e1 e2 e3 e4
          have SM := Lib.hid (fun dq osq => same_true P M rn gn R _ _ _ _ (T4.out.kept (Only.of (below_regrown w4 dq osq) []) (by simp) (by simp)) (R4.out.kept (Only.of (below_regrown w4 dq osq) []) (by simp) (by simp)))
          rw [show atI (some (((0 + k : Nat) : Int), ((sv, sp, sf, sw, sx) : SlotT))) = (k : Int) by simp [atI]]
          have r0 := R4.out.lay.cell 0
          simp only [List.getElem?_cons_zero] at r0
          have hkR : k < R := by rw [← R4.out.len]; exact (List.getElem?_eq_some_iff.1 hk).1
          have hkr : (k : Int) < (R : Int) := by omega
          have hk0 : (0 : Int) ≤ (k : Int) := by omega
          have hkd : decide ((0 : Int) ≤ (k : Int)) = true := decide_eq_true hk0
          have q0 := R4.out.row.range k _ hk 0 _ rfl
          have q1 := R4.out.row.range k _ hk 1 _ rfl
          have q2 := R4.out.row.range k _ hk 2 _ rfl
          have q3 := R4.out.row.range k _ hk 3 _ rfl
          have q4 := R4.out.row.range k _ hk 4 _ rfl
          have q5 := R4.out.row.range k _ hk 5 _ rfl
          rw [Nat.add_zero] at q0
          replace q0 : w4.cell? ⟨gn, k * 6, none⟩ = some (.int .i64 sv) := q0
          replace q1 : w4.cell? ⟨gn, k * 6 + 1, none⟩ = some (.int .i64 sp) := q1
          replace q2 : w4.cell? ⟨gn, k * 6 + 2, none⟩ = some (.int .i64 sf) := q2
          replace q3 : w4.cell? ⟨gn, k * 6 + 3, none⟩ = some (.bool sw) := q3
          replace q4 : w4.cell? ⟨gn, k * 6 + 4, none⟩ = some (.bool sx) := q4
          replace q5 : w4.cell? ⟨gn, k * 6 + 5, none⟩ = some (.bool true) := q5
          have hne : ∀ w, (binOp .neq 37 (.agg #[.int .i64 sv, .int .i64 sp, .int .i64 sf, .bool sw, .bool sx, .bool true]) (.agg #[.int .i64 sv, .int .i64 sp, .int .i64 sf, .bool sw, .bool sx, .bool true])).run Try.prog w = .ok (.bool false) w := fun w => by
            have := neqRef ((sv, sp, sf, sw, sx), true) ((sv, sp, sf, sw, sx), true) w
            simpa using this
          have DM := Lib.hid (fun w => of_any sv sp sf sw sx w)
          clear hf hk hn
          go_wp2_with fail
          have ee0 := cell_regrown e0
          have ee1 := cell_regrown e1
          have ee2 := cell_regrown e2
          have ee3 := cell_regrown e3
          have ee4 := cell_regrown e4
          have rr0 := cell_regrown r0
          have qq0 := cell_regrown q0
          have qq1 := cell_regrown q1
          have qq2 := cell_regrown q2
          have qq3 := cell_regrown q3
          have qq4 := cell_regrown q4
          have qq5 := cell_regrown q5
          refine wp_region_quiet_below (by kernel_rfl) (by kernel_rfl) ?_
          repeat (go_big_quiet_step (first | (go_at_call 11; exact Calls.regrown_of (DM.out _)) | (go_at_call 19; exact Calls.regrown_of (SM.out _ _))))
          refine wpQuiet_nil ?_
          intro _ hw'
          obtain ⟨⟨dq, osq⟩, hw''⟩ := hw'
          subst hw''
          have T5 := Lib.hid (T4.out.kept (Only.of (below_regrown w4 dq osq) []) (by simp) (by simp))
          have R5 := Lib.hid (R4.out.kept (Only.of (below_regrown w4 dq osq) []) (by simp) (by simp))
          have B5 := Lib.hid (B4.out.trans ((below_regrown w4 dq osq).mono B4.out.size))
          clear SM T4 R4 B4 L4 e0 e1 e2 e3 e4 ee0 ee1 ee2 ee3 ee4 r0 rr0 q0 q1 q2 q3 q4 q5 qq0 qq1 qq2 qq3 qq4 qq5 hne DM hkd
          generalize Go.Sort.grow (redrawn w4 _) _ = w5 at *
          go_wp2_with fail
          go_roundw
          case rel => exact ⟨i + 1, by simp, by omega, _, _, _, _, rfl, T5.out, R5.out, A6.out, B5.out⟩
          case measure => simp only [intOf, Int.toNat_natCast]; omega
      clear hL
      go_wp2_with fail
      refine (find_any P M R _ _ vm pg _ hT'.out hvm hpg).mono ?_
      rintro e w9 ⟨he, b9⟩
      cases hf : findP vm pg 0 ps with
      | none =>
        rw [hf] at he
        replace he : e = .returned (.tuple #[.agg #[.int .i64 0, .int .i64 0, .int .i64 0, .bool false, .bool false], .bool false]) := he
        subst he
        have B4 := Lib.hid ((hB'.out.trans (b9.mono hB'.out.size)).alloc (Nat.le_trans hB'.out.size b9.size) (.cells #[.int .i64 0, .int .i64 0, .int .i64 0, .bool false, .bool false] 31))
        have T4 := Lib.hid ((hT'.out.kept (Only.of b9 []) (by simp) (by simp)).kept (Only.alloc [] w9 (.cells #[.int .i64 0, .int .i64 0, .int .i64 0, .bool false, .bool false] 31)) (by simp) (by simp))
        have R4 := Lib.hid ((hR'.out.kept (Only.of b9 []) (by simp) (by simp)).kept (Only.alloc [] w9 (.cells #[.int .i64 0, .int .i64 0, .int .i64 0, .bool false, .bool false] 31)) (by simp) (by simp))
        have L4 := Lib.hid (Lay.new w9 31 [.int .i64 0, .int .i64 0, .int .i64 0, .bool false, .bool false])
        clear hT' hR' hB' b9
        go_wp2_with fail
        refine (at_any r g R _ _ vm pg _ R4.out).mono ?_
        rintro e w10 ⟨rfl, rfl⟩
        rw [hf]
        obtain ⟨w4, hw4⟩ : ∃ w4, w4 = w9.alloc (.cells #[.int .i64 0, .int .i64 0, .int .i64 0, .bool false, .bool false] 31) := ⟨_, rfl⟩
        rw [← hw4] at B4 T4 R4 L4 ⊢
        clear hw4
        have e0 := L4.out.cell 0
        have e1 := L4.out.cell 1
        have e2 := L4.out.cell 2
        have e3 := L4.out.cell 3
        have e4 := L4.out.cell 4
        simp only [List.getElem?_cons_zero, List.getElem?_cons_succ] at e0 e1 e2 e3 e4
        have SM := Lib.hid (fun dq osq => same_true P M r g R _ _ _ _ (T4.out.kept (Only.of (below_regrown w4 dq osq) []) (by simp) (by simp)) (R4.out.kept (Only.of (below_regrown w4 dq osq) []) (by simp) (by simp)))
        rw [show atI none = -1 from rfl]
        have hne : ∀ w, (binOp .neq 31 (.agg #[.int .i64 0, .int .i64 0, .int .i64 0, .bool false, .bool false]) (.agg #[.int .i64 0, .int .i64 0, .int .i64 0, .bool false, .bool false])).run Try.prog w = .ok (.bool false) w := fun w => by
          have := neqSlot (0, 0, 0, false, false) (0, 0, 0, false, false) w
          simpa using this
        go_wp2_with fail
        have ee0 := cell_regrown e0
        have ee1 := cell_regrown e1
        have ee2 := cell_regrown e2
        have ee3 := cell_regrown e3
        have ee4 := cell_regrown e4
        refine wp_region_quiet_below (by kernel_rfl) (by kernel_rfl) ?_
        repeat (go_big_quiet_step (first | (go_at_call 19; exact Calls.regrown_of (SM.out _ _))))
        refine wpQuiet_nil ?_
        intro _ hw'
        obtain ⟨⟨dq, osq⟩, hw''⟩ := hw'
        subst hw''
        have T5 := Lib.hid (T4.out.kept (Only.of (below_regrown w4 dq osq) []) (by simp) (by simp))
        have R5 := Lib.hid (R4.out.kept (Only.of (below_regrown w4 dq osq) []) (by simp) (by simp))
        have B5 := Lib.hid (B4.out.trans ((below_regrown w4 dq osq).mono B4.out.size))
        clear SM T4 R4 B4 L4 e0 e1 e2 e3 e4 ee0 ee1 ee2 ee3 ee4 hne
        generalize Go.Sort.grow (redrawn w4 _) _ = w5 at *
        go_wp2_with fail
        go_roundw
        case rel => exact ⟨i + 1, by simp, by omega, _, _, _, _, rfl, T5.out, R5.out, AW.out, B5.out⟩
        case measure => simp only [intOf, Int.toNat_natCast]; omega
      | some h =>
        obtain ⟨k, s, hk, rfl, hn⟩ := findP_some hf
        obtain ⟨sv, sp, sf, sw, sx⟩ := s
        rw [hf] at he
        replace he : e = .returned (.tuple #[.agg #[.int .i64 sv, .int .i64 sp, .int .i64 sf, .bool sw, .bool sx], .bool true]) := he
        subst he
        have B4 := Lib.hid ((hB'.out.trans (b9.mono hB'.out.size)).alloc (Nat.le_trans hB'.out.size b9.size) (.cells #[.int .i64 sv, .int .i64 sp, .int .i64 sf, .bool sw, .bool sx] 31))
        have T4 := Lib.hid ((hT'.out.kept (Only.of b9 []) (by simp) (by simp)).kept (Only.alloc [] w9 (.cells #[.int .i64 sv, .int .i64 sp, .int .i64 sf, .bool sw, .bool sx] 31)) (by simp) (by simp))
        have R4 := Lib.hid ((hR'.out.kept (Only.of b9 []) (by simp) (by simp)).kept (Only.alloc [] w9 (.cells #[.int .i64 sv, .int .i64 sp, .int .i64 sf, .bool sw, .bool sx] 31)) (by simp) (by simp))
        have L4 := Lib.hid (Lay.new w9 31 [.int .i64 sv, .int .i64 sp, .int .i64 sf, .bool sw, .bool sx])
        clear hT' hR' hB' b9
        go_wp2_with fail
        refine (at_any r g R _ _ vm pg _ R4.out).mono ?_
        rintro e w10 ⟨rfl, rfl⟩
        rw [hf]
        obtain ⟨w4, hw4⟩ : ∃ w4, w4 = w9.alloc (.cells #[.int .i64 sv, .int .i64 sp, .int .i64 sf, .bool sw, .bool sx] 31) := ⟨_, rfl⟩
        rw [← hw4] at B4 T4 R4 L4 ⊢
        clear hw4
        have e0 := L4.out.cell 0
        have e1 := L4.out.cell 1
        have e2 := L4.out.cell 2
        have e3 := L4.out.cell 3
        have e4 := L4.out.cell 4
        simp only [List.getElem?_cons_zero, List.getElem?_cons_succ] at e0 e1 e2 e3 e4
        have SM := Lib.hid (fun dq osq => same_true P M r g R _ _ _ _ (T4.out.kept (Only.of (below_regrown w4 dq osq) []) (by simp) (by simp)) (R4.out.kept (Only.of (below_regrown w4 dq osq) []) (by simp) (by simp)))
        rw [show atI (some (((0 + k : Nat) : Int), ((sv, sp, sf, sw, sx) : SlotT))) = (k : Int) by simp [atI]]
        have r0 := R4.out.lay.cell 0
        simp only [List.getElem?_cons_zero] at r0
        have hkR : k < R := by rw [← R4.out.len]; exact (List.getElem?_eq_some_iff.1 hk).1
        have hkr : (k : Int) < (R : Int) := by omega
        have hk0 : (0 : Int) ≤ (k : Int) := by omega
        have hkd : decide ((0 : Int) ≤ (k : Int)) = true := decide_eq_true hk0
        have q0 := R4.out.row.range k _ hk 0 _ rfl
        have q1 := R4.out.row.range k _ hk 1 _ rfl
        have q2 := R4.out.row.range k _ hk 2 _ rfl
        have q3 := R4.out.row.range k _ hk 3 _ rfl
        have q4 := R4.out.row.range k _ hk 4 _ rfl
        have q5 := R4.out.row.range k _ hk 5 _ rfl
        rw [Nat.add_zero] at q0
        replace q0 : w4.cell? ⟨g, k * 6, none⟩ = some (.int .i64 sv) := q0
        replace q1 : w4.cell? ⟨g, k * 6 + 1, none⟩ = some (.int .i64 sp) := q1
        replace q2 : w4.cell? ⟨g, k * 6 + 2, none⟩ = some (.int .i64 sf) := q2
        replace q3 : w4.cell? ⟨g, k * 6 + 3, none⟩ = some (.bool sw) := q3
        replace q4 : w4.cell? ⟨g, k * 6 + 4, none⟩ = some (.bool sx) := q4
        replace q5 : w4.cell? ⟨g, k * 6 + 5, none⟩ = some (.bool true) := q5
        have hne : ∀ w, (binOp .neq 37 (.agg #[.int .i64 sv, .int .i64 sp, .int .i64 sf, .bool sw, .bool sx, .bool true]) (.agg #[.int .i64 sv, .int .i64 sp, .int .i64 sf, .bool sw, .bool sx, .bool true])).run Try.prog w = .ok (.bool false) w := fun w => by
          have := neqRef ((sv, sp, sf, sw, sx), true) ((sv, sp, sf, sw, sx), true) w
          simpa using this
        have DM := Lib.hid (fun w => of_any sv sp sf sw sx w)
        clear hf hk hn
        go_wp2_with fail
        have ee0 := cell_regrown e0
        have ee1 := cell_regrown e1
        have ee2 := cell_regrown e2
        have ee3 := cell_regrown e3
        have ee4 := cell_regrown e4
        have rr0 := cell_regrown r0
        have qq0 := cell_regrown q0
        have qq1 := cell_regrown q1
        have qq2 := cell_regrown q2
        have qq3 := cell_regrown q3
        have qq4 := cell_regrown q4
        have qq5 := cell_regrown q5
        refine wp_region_quiet_below (by kernel_rfl) (by kernel_rfl) ?_
        repeat (go_big_quiet_step (first | (go_at_call 11; exact Calls.regrown_of (DM.out _)) | (go_at_call 19; exact Calls.regrown_of (SM.out _ _))))
        refine wpQuiet_nil ?_
        intro _ hw'
        obtain ⟨⟨dq, osq⟩, hw''⟩ := hw'
        subst hw''
        have T5 := Lib.hid (T4.out.kept (Only.of (below_regrown w4 dq osq) []) (by simp) (by simp))
        have R5 := Lib.hid (R4.out.kept (Only.of (below_regrown w4 dq osq) []) (by simp) (by simp))
        have B5 := Lib.hid (B4.out.trans ((below_regrown w4 dq osq).mono B4.out.size))
        clear SM T4 R4 B4 L4 e0 e1 e2 e3 e4 ee0 ee1 ee2 ee3 ee4 r0 rr0 q0 q1 q2 q3 q4 q5 qq0 qq1 qq2 qq3 qq4 qq5 hne DM hkd
        generalize Go.Sort.grow (redrawn w4 _) _ = w5 at *
        go_wp2_with fail
        go_roundw
        case rel => exact ⟨i + 1, by simp, by omega, _, _, _, _, rfl, T5.out, R5.out, AW.out, B5.out⟩
        case measure => simp only [intOf, Int.toNat_natCast]; omega
    · obtain rfl : i = len := by omega
      have HB := Lib.hid hB
      clear hT hR hB HX
      go_wp2
      go_ret
      exact ⟨rfl, HB.out⟩
set_option maxRecDepth 100000 in
theorem lifted (os : Os) (started : os.Started) (H : Type) (enc : TypeId × Value → H) :
    ReturnsInHanded {} Try.checked os 3 .any (Rows.tlbCallsSpec.pre6 enc Try.prog Try.f3 Rows.tlbCallsRow.domain false) (Rows.tlbCallsSpec.post enc Try.prog Try.f3 false true false false) := by
  refine returnsInHanded_of_change_sized (C := Try.checked) own started (by kernel_rfl) Try.func3
    (ChangeSpec.witness6 (enc := enc) (C := Try.checked) false ⟨#[], #[.int .i64 0, .slice none 0 0, .int .i64 0, .int .i64 0], []⟩ 8 (by kernel_rfl) (by kernel_rfl) (by kernel_rfl) (by kernel_rfl)) ?_
  intro W base args ds gs before hval0 hW hcnd hZ0 _
  have hval : ∀ (j : Nat) t v, Try.f3.params[j]? = some t → args[j]? = some v → Value.okWide Try.prog W .any base t v := hval0
  have hZ : ∀ n ∈ DataW.weightsEach Try.prog (Try.f3.params.toList ++ []) (ds ++ gs), n ≤ reachBytes := fun n hn => of_decide_eq_true (List.all_eq_true.1 hZ0 n hn)
  have hW' := hW
  obtain ⟨p, q, hA0, hV, rfl, hfz, hnd⟩ := hW
  have hA : DataW.TrodAll enc Try.prog W 0 (fun _ => true) true Try.f3.params.toList args.toList ds p := hA0
  rw [Try.params3] at hA hval hZ
  obtain ⟨v0, vs0, d0, ds0, p0, q0, hargs, rfl, rfl, h0, r0⟩ := trodAll_cons hA
  obtain ⟨v1, vs1, d1, ds1, p1, q1, rfl, rfl, rfl, h1, r1⟩ := trodAll_cons r0
  obtain ⟨v2, vs2, d2, ds2, p2, q2, rfl, rfl, rfl, h2, r2⟩ := trodAll_cons r1
  obtain ⟨v3, vs3, d3, ds3, p3, q3, rfl, rfl, rfl, h3, r3⟩ := trodAll_cons r2
  obtain ⟨rfl, rfl, rfl⟩ := trodAll_nil r3
  obtain rfl : args = #[v0, v1, v2, v3] := by cases args; simp_all
  obtain ⟨rfl, rfl⟩ := trodVars_none hV
  obtain ⟨x0, rfl, rfl, rfl, w0⟩ := open_int Try.underlying3 (hval 0 3 v0 rfl rfl) h0
  have k1 := h1
  have hz1 : ∀ n ∈ d1.weights Try.prog 22, n ≤ reachBytes := fun n hn => hZ n (by simp only [List.append_nil, DataW.weightsEach, List.mem_append]; exact Or.inr (Or.inl hn))
  obtain ⟨a1, n1, c1, y1, rfl, m1, lt1, z1⟩ := tcalls_open (hval 1 22 v1 rfl rfl) h1 hz1
  obtain ⟨x2, rfl, rfl, rfl, w2⟩ := open_int Try.underlying3 (hval 2 3 v2 rfl rfl) h2
  obtain ⟨x3, rfl, rfl, rfl, w3⟩ := open_int Try.underlying3 (hval 3 3 v3 rfl rfl) h3
  clear hA0 hval0 hZ0
  refine (walk x0 a1 n1 c1 y1 x2 x3 W m1 z1 w2 w3).mono fun e W' ⟨he, ho⟩ => ?_
  subst he
  have bel : Below W.heap.size W W' := ho
  exact ⟨_, rfl, _, _, _, [], _, [], hW', trodAll_mk1 (shut_bool Try.underlying4 _), (trodAll_cons_mk (shut_int Try.underlying3 w0) (trodAll_cons_mk (Below.trod laidOut (by kernel_rfl) (of_decide_eq_true (by kernel_rfl)) k1 bel lt1) (trodAll_cons_mk (shut_int Try.underlying3 w2) (trodAll_cons_mk (shut_int Try.underlying3 w3) trodAll_mk0)))), rfl, bel.frame _, fun h => by cases h⟩
theorem over : Rows.tlbCallsRow.holds Try.pinned (OpenSpec.ofChange Rows.tlbCallsSpec) :=
  OpenClaim.holds_of_wide 3 Try.f3 rfl rfl rfl rfl rfl rfl rfl ⟨rfl, rfl, rfl, rfl, rfl⟩ rfl rfl rfl rfl rfl (by kernel_rfl) Try.func3 (by kernel_rfl)
    (of_decide_eq_true (by kernel_rfl)) (by unfold Func.isWrapper; first | (rw [if_pos (by decide +kernel)]; kernel_rfl) | (rw [if_neg (by decide +kernel)]; exact ⟨rfl, rfl⟩))
    (fun os started H enc _ => lifted os started H enc)
end tlbCalls
/-- The statement. -/
theorem tlbCalls_holds : Rows.TlbCallsSaid := tlbCalls.over
#print axioms tlbCalls_holds
end Go.Proofs.Ytcajclalpmfafaa
