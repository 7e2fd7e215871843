/-
  FramesParts: the owners' frames are all frames, each once; what fails changes nothing: for every input true, and the input reads as it did; no condition.
-/
import Derived.Test.YtgeagnpgcjjifaaFrLawMath
import Derived.Test.YtgeagnpgcjjifaaFrList
import Derived.Test.YtgeagnpgcjjifaaFrAlive
import Derived.Test.YtgeagnpgcjjifaaFrOpen
namespace Go.Proofs.Ytgeagnpgcjjifaa
open Go.ChangeShapes Go.WideShapes Go.ChangeAt Go.RowKit Go.Deep
namespace framesParts
open Fr
open Ph (Only)
set_option maxRecDepth 100000 in
set_option maxHeartbeats 8000000 in
theorem walk (n : Int) (pa : Option Addr) (len cap : Nat) (y : Nat → CallT) (w : World) (hl : len ≤ cap ∧ cap ≤ maxLen) (hx : FCalls w.heap.size w pa len y) :
    Calls Try.prog 4 #[.int .i64 n, .slice pa len cap] w fun e w' => e = .returned (.bool true) ∧ Below w.heap.size w w' := by
  have HX := Lib.hid hx
  have hlm : len ≤ maxLen := by omega
  unfold maxLen at hlm
  clear hx hl
  go_enter Try.func4, Try.ntmps4
  go_wp2_with fail
  refine (alive_any _).mono ?_
  rintro e w0 ⟨rfl, B0⟩
  by_cases g1 : 60 < len
  · have g1' : (60 : Int) < (len : Int) := by omega
    go_wp2
    go_ret
    exact ⟨rfl, B0⟩
  have g60 : len ≤ 60 := by omega
  have g60' : ¬ (60 : Int) < (len : Int) := by omega
  clear g1
  by_cases g3 : n < 1
  · have g3' : decide (n < 1) = true := decide_eq_true g3
    go_wp2
    go_ret
    exact ⟨rfl, B0⟩
  by_cases g4 : 300 < n
  · clear g3
    go_wp2
    go_ret
    exact ⟨rfl, B0⟩
  obtain ⟨N, rfl⟩ := Int.eq_ofNat_of_zero_le (show 0 ≤ n by omega)
  have r1 : 1 ≤ N := by omega
  have r2 : N ≤ 300 := by omega
  have r3 : ¬ (N : Int) < 1 := by omega
  have r4 : ¬ (300 : Int) < (N : Int) := by omega
  clear g3 g4
  go_wp2_with fail
  refine (new_yes N w0 r1 (by omega)).mono ?_
  rintro e w1 ⟨rfl, T1, O1⟩
  have B1 := Lib.hid (B0.trans (O1.below B0.size (by simp)))
  obtain ⟨P, hP⟩ : ∃ p, p = w0.heap.size + 1 := ⟨_, rfl⟩
  obtain ⟨M, hM⟩ : ∃ p, p = w0.heap.size := ⟨_, rfl⟩
  rw [← hP, ← hM] at T1
  have q1 : w.heap.size ≤ P := by have := B0.size; omega
  have q2 : w.heap.size ≤ M := by have := B0.size; omega
  have z1 := T1.tb.lt
  have z2 := T1.tb.row.lt
  have T1' := Lib.hid T1
  rw [← hP]
  clear hP hM B0 O1 T1
  go_wp2_with fail
  go_loopw [7] (fun c wr => ∃ (i : Nat) (os : List Nat), c = .int .i64 i ∧ i ≤ len ∧ os.length = N ∧ Tab wr P M os ∧ Below w.heap.size w wr) (fun c _ => len - (intOf c).toNat)
  case atStart => exact ⟨0, _, rfl, Nat.zero_le _, by simp, T1'.out, B1.out⟩
  case round =>
    obtain ⟨i, os, rfl, hi, hos, hT, hB⟩ := hrel
    have TR := Lib.hid hT
    have BR := Lib.hid hB
    clear hT T1' B1
    by_cases hlt : i < len
    · obtain ⟨b, off, rfl, hbl, hC⟩ := HX.out.at hB hlt
      have c0 := hC.c0
      have c1 := hC.c1
      have c2 := hC.c2
      have c3 := hC.c3
      generalize y i = c at *
      obtain ⟨k, o, p, f⟩ := c
      simp only at c0 c1 c2 c3
      have hi0 : (0 : Int) ≤ (i : Int) := by omega
      have hil : (i : Int) < (len : Int) := by omega
      have hwr := hB.size
      have dP := TR.out.tb.lt
      have dM := TR.out.tb.row.lt
      have HOS := Lib.hid hos
      have L3 := Lay.new wr 32 [.int .i64 k, .int .i64 o, .int .i64 p, .int .i64 f]
      have O3 := Only.alloc [] wr (.cells #[.int .i64 k, .int .i64 o, .int .i64 p, .int .i64 f] 32)
      have B3 := BR.out.alloc BR.out.size (.cells #[.int .i64 k, .int .i64 o, .int .i64 p, .int .i64 f] 32)
      have T3 := TR.out.kept O3 (by simp) (by simp)
      have d1 := T3.tb.lt
      have d2 := T3.tb.row.lt
      have CO := owners_any P M os _ T3 d1 d2
      rw [hos] at CO
      have HCO := Lib.hid CO
      have L3' := Lib.hid L3
      have B3' := Lib.hid B3
      have T3' := Lib.hid T3
      clear L3 O3 B3 T3 CO hC hB HX
      go_wp2_with fail
      refine HCO.out.mono ?_
      rintro e w4 ⟨v, rfl, S4x, b4⟩
      have S4 := Lib.hid S4x
      obtain ⟨va, vc, rfl⟩ := S4x.form
      have L4 := Lib.hid (L3'.out.kept (Only.of b4 []) (by simp))
      have T4 := Lib.hid (T3'.out.keptB b4 d1 d2)
      have B4 := Lib.hid (B3'.out.trans (b4.mono B3'.out.size))
      clear S4x b4 HCO L3' T3' B3' TR BR hos c0 c1 c2 c3
      by_cases h0 : k = 0
      · subst h0
        obtain ⟨tp, htp⟩ : ∃ tp, tp = takeP 1 o os := ⟨_, rfl⟩
        have HL4 := L4.out
        have HP := Lib.hid htp
        have HNL : Hid (tp.2.2.length = N) := Lib.hid (by rw [htp, takeP_len]; exact HOS.out)
        have e0 := HL4.cell 0
        have e1 := HL4.cell 1
        have e2 := HL4.cell 2
        have e3 := HL4.cell 3
        have ez := HL4.lt
        simp only [List.getElem?_cons_zero, List.getElem?_cons_succ] at e0 e1 e2 e3
        clear HL4 L4
        go_wp2_with fail
        have C1 := take_any P M o os _ T4.out
        rw [← HP.out] at C1
        refine C1.mono ?_
        rintro e w5 ⟨rfl, T5x, O5⟩
        have T5 := Lib.hid T5x
        have B5 := Lib.hid (B4.out.trans (O5.below (B := w.heap.size) B4.out.size (by simp; omega)))
        have S5 := Lib.hid (S4.out.kept O5 (by simp; omega))
        clear C1 T5x O5 T4 B4 S4 e0 e1 e2 e3 ez htp
        by_cases he : tp.2.1 = 0
        · obtain ⟨ns, hns0⟩ : ∃ ns, ns = tp.2.2 := ⟨_, rfl⟩
          rw [← hns0] at T5 HNL
          clear hns0
          have hnl : ns.length = N := HNL.out
          have d1 := T5.out.tb.lt
          have d2 := T5.out.tb.row.lt
          have CO2 := owners_any P M ns _ T5.out d1 d2
          rw [hnl] at CO2
          go_wp2_with fail
          refine CO2.mono ?_
          rintro e w6 ⟨v2, rfl, S6, b6⟩
          have T6 := Lib.hid (T5.out.keptB b6 d1 d2)
          have B6 := Lib.hid (B5.out.trans (b6.mono B5.out.size))
          have SA := Lib.hid (S5.out.kept (Only.of b6 []) (by simp))
          have SB := Lib.hid S6
          obtain ⟨va2, vc2, rfl⟩ := S6.form
          clear CO2 S6 b6 S5 T5 B5 d1 d2
          have FEW := Lib.hid T6.out.few
          clear SA SB
          obtain ⟨WQ, hWQ⟩ : ∃ x, x = w6 := ⟨_, rfl⟩
          subst hWQ
          have TQ := T6
          have BQ := B6
          go_wp2_with fail
          go_loopw [12, 13] (fun s c wr => ∃ k : Nat, c = .int .i64 k ∧ k ≤ 10 ∧ s = .int .i64 (sumC ns k) ∧ WQ = wr) (fun _ c _ => 10 - (intOf c).toNat)
          case atStart => exact ⟨0, rfl, by omega, rfl, rfl⟩
          case round =>
            obtain ⟨k, rfl, hk, rfl, rfl⟩ := hrel
            by_cases hk10 : k < 10
            · have hsm := sumC_le ns k (by omega) (by omega)
              have hs1 := hsm.1
              have hs2 : sumC ns k ≤ 10240 := by have := hsm.2; omega
              have hc := cn_le ns k
              have hc1 := hc.1
              have hc2 : cn ns k ≤ 1024 := by have := hc.2; omega
              have HS := Lib.hid (show sumC ns (k + 1) = sumC ns k + cn ns k from rfl)
              clear hsm hc
              generalize sumC ns k = z1 at *
              generalize hcc : cn ns k = z2 at *
              have HC := Lib.hid hcc
              clear hcc
              have hk9 : (k : Int) ≤ 9 := by omega
              go_wp2_with fail
              have C7 := count_yes P M k ns _ TQ.out hk10
              rw [HC.out] at C7
              refine C7.mono ?_
              rintro e w7 ⟨rfl, rfl⟩
              go_wp2_with fail
              go_roundw
              case rel => exact ⟨k + 1, by simp, by omega, by rw [HS.out], by trivial⟩
              case measure => simp only [intOf, Int.toNat_natCast]; omega
            · obtain rfl : k = 10 := by omega
              rw [sumC_all ns FEW.out, hnl]
              have hns : ((N : Int) != (N : Int)) = false := by simp
              go_wp2_with fail
              go_roundw
              case rel => exact ⟨i + 1, ns, by simp, by omega, hnl, TQ.out, BQ.out⟩
              case measure => simp only [intOf, Int.toNat_natCast]; omega
        · have HSAME : Hid (tp.2.2 = os) := Lib.hid (by have := HP.out; rw [this] at he ⊢; exact takeP_err he)
          have hed : (tp.2.1 != 0) = true := by simp; exact he
          clear he
          rw [HSAME.out] at T5 HNL
          have hnl : os.length = N := HNL.out
          have d1 := T5.out.tb.lt
          have d2 := T5.out.tb.row.lt
          have CO2 := owners_any P M os _ T5.out d1 d2
          rw [hnl] at CO2
          go_wp2_with fail
          refine CO2.mono ?_
          rintro e w6 ⟨v2, rfl, S6, b6⟩
          have T6 := Lib.hid (T5.out.keptB b6 d1 d2)
          have B6 := Lib.hid (B5.out.trans (b6.mono B5.out.size))
          have SA := Lib.hid (S5.out.kept (Only.of b6 []) (by simp))
          have SB := Lib.hid S6
          obtain ⟨va2, vc2, rfl⟩ := S6.form
          clear CO2 S6 b6 S5 T5 B5 d1 d2
          have FEW := Lib.hid T6.out.few
          rw [hnl] at SA SB
          go_wp2_with fail
          refine (same_any _ _ (.slice va N vc) (.slice va2 N vc2) os os _ (by omega) (by omega) SA.out SB.out).mono ?_
          rintro e WQ ⟨rfl, b7⟩
          rw [decide_eq_true rfl]
          have TQ := Lib.hid (T6.out.kept (Only.of b7 []) (by simp) (by simp))
          have BQ := Lib.hid (B6.out.trans (b7.mono B6.out.size))
          clear b7 T6 B6 SA SB
          go_wp2_with fail
          go_loopw [12, 13] (fun s c wr => ∃ k : Nat, c = .int .i64 k ∧ k ≤ 10 ∧ s = .int .i64 (sumC os k) ∧ WQ = wr) (fun _ c _ => 10 - (intOf c).toNat)
          case atStart => exact ⟨0, rfl, by omega, rfl, rfl⟩
          case round =>
            obtain ⟨k, rfl, hk, rfl, rfl⟩ := hrel
            by_cases hk10 : k < 10
            · have hsm := sumC_le os k (by omega) (by omega)
              have hs1 := hsm.1
              have hs2 : sumC os k ≤ 10240 := by have := hsm.2; omega
              have hc := cn_le os k
              have hc1 := hc.1
              have hc2 : cn os k ≤ 1024 := by have := hc.2; omega
              have HS := Lib.hid (show sumC os (k + 1) = sumC os k + cn os k from rfl)
              clear hsm hc
              generalize sumC os k = z1 at *
              generalize hcc : cn os k = z2 at *
              have HC := Lib.hid hcc
              clear hcc
              have hk9 : (k : Int) ≤ 9 := by omega
              go_wp2_with fail
              have C7 := count_yes P M k os _ TQ.out hk10
              rw [HC.out] at C7
              refine C7.mono ?_
              rintro e w7 ⟨rfl, rfl⟩
              go_wp2_with fail
              go_roundw
              case rel => exact ⟨k + 1, by simp, by omega, by rw [HS.out], by trivial⟩
              case measure => simp only [intOf, Int.toNat_natCast]; omega
            · obtain rfl : k = 10 := by omega
              rw [sumC_all os FEW.out, hnl]
              have hns : ((N : Int) != (N : Int)) = false := by simp
              go_wp2_with fail
              go_roundw
              case rel => exact ⟨i + 1, os, by simp, by omega, hnl, TQ.out, BQ.out⟩
              case measure => simp only [intOf, Int.toNat_natCast]; omega
      by_cases h1 : k = 1
      · subst h1
        obtain ⟨tp, htp⟩ : ∃ tp, tp = takeP 64 o os := ⟨_, rfl⟩
        have HL4 := L4.out
        have HP := Lib.hid htp
        have HNL : Hid (tp.2.2.length = N) := Lib.hid (by rw [htp, takeP_len]; exact HOS.out)
        have e0 := HL4.cell 0
        have e1 := HL4.cell 1
        have e2 := HL4.cell 2
        have e3 := HL4.cell 3
        have ez := HL4.lt
        simp only [List.getElem?_cons_zero, List.getElem?_cons_succ] at e0 e1 e2 e3
        clear HL4 L4
        go_wp2_with fail
        have C1 := takeRun_any P M o os _ T4.out
        rw [← HP.out] at C1
        refine C1.mono ?_
        rintro e w5 ⟨rfl, T5x, O5⟩
        have T5 := Lib.hid T5x
        have B5 := Lib.hid (B4.out.trans (O5.below (B := w.heap.size) B4.out.size (by simp; omega)))
        have S5 := Lib.hid (S4.out.kept O5 (by simp; omega))
        clear C1 T5x O5 T4 B4 S4 e0 e1 e2 e3 ez htp
        by_cases he : tp.2.1 = 0
        · obtain ⟨ns, hns0⟩ : ∃ ns, ns = tp.2.2 := ⟨_, rfl⟩
          rw [← hns0] at T5 HNL
          clear hns0
          have hnl : ns.length = N := HNL.out
          have d1 := T5.out.tb.lt
          have d2 := T5.out.tb.row.lt
          have CO2 := owners_any P M ns _ T5.out d1 d2
          rw [hnl] at CO2
          go_wp2_with fail
          refine CO2.mono ?_
          rintro e w6 ⟨v2, rfl, S6, b6⟩
          have T6 := Lib.hid (T5.out.keptB b6 d1 d2)
          have B6 := Lib.hid (B5.out.trans (b6.mono B5.out.size))
          have SA := Lib.hid (S5.out.kept (Only.of b6 []) (by simp))
          have SB := Lib.hid S6
          obtain ⟨va2, vc2, rfl⟩ := S6.form
          clear CO2 S6 b6 S5 T5 B5 d1 d2
          have FEW := Lib.hid T6.out.few
          clear SA SB
          obtain ⟨WQ, hWQ⟩ : ∃ x, x = w6 := ⟨_, rfl⟩
          subst hWQ
          have TQ := T6
          have BQ := B6
          go_wp2_with fail
          go_loopw [12, 13] (fun s c wr => ∃ k : Nat, c = .int .i64 k ∧ k ≤ 10 ∧ s = .int .i64 (sumC ns k) ∧ WQ = wr) (fun _ c _ => 10 - (intOf c).toNat)
          case atStart => exact ⟨0, rfl, by omega, rfl, rfl⟩
          case round =>
            obtain ⟨k, rfl, hk, rfl, rfl⟩ := hrel
            by_cases hk10 : k < 10
            · have hsm := sumC_le ns k (by omega) (by omega)
              have hs1 := hsm.1
              have hs2 : sumC ns k ≤ 10240 := by have := hsm.2; omega
              have hc := cn_le ns k
              have hc1 := hc.1
              have hc2 : cn ns k ≤ 1024 := by have := hc.2; omega
              have HS := Lib.hid (show sumC ns (k + 1) = sumC ns k + cn ns k from rfl)
              clear hsm hc
              generalize sumC ns k = z1 at *
              generalize hcc : cn ns k = z2 at *
              have HC := Lib.hid hcc
              clear hcc
              have hk9 : (k : Int) ≤ 9 := by omega
              go_wp2_with fail
              have C7 := count_yes P M k ns _ TQ.out hk10
              rw [HC.out] at C7
              refine C7.mono ?_
              rintro e w7 ⟨rfl, rfl⟩
              go_wp2_with fail
              go_roundw
              case rel => exact ⟨k + 1, by simp, by omega, by rw [HS.out], by trivial⟩
              case measure => simp only [intOf, Int.toNat_natCast]; omega
            · obtain rfl : k = 10 := by omega
              rw [sumC_all ns FEW.out, hnl]
              have hns : ((N : Int) != (N : Int)) = false := by simp
              go_wp2_with fail
              go_roundw
              case rel => exact ⟨i + 1, ns, by simp, by omega, hnl, TQ.out, BQ.out⟩
              case measure => simp only [intOf, Int.toNat_natCast]; omega
        · have HSAME : Hid (tp.2.2 = os) := Lib.hid (by have := HP.out; rw [this] at he ⊢; exact takeP_err he)
          have hed : (tp.2.1 != 0) = true := by simp; exact he
          clear he
          rw [HSAME.out] at T5 HNL
          have hnl : os.length = N := HNL.out
          have d1 := T5.out.tb.lt
          have d2 := T5.out.tb.row.lt
          have CO2 := owners_any P M os _ T5.out d1 d2
          rw [hnl] at CO2
          go_wp2_with fail
          refine CO2.mono ?_
          rintro e w6 ⟨v2, rfl, S6, b6⟩
          have T6 := Lib.hid (T5.out.keptB b6 d1 d2)
          have B6 := Lib.hid (B5.out.trans (b6.mono B5.out.size))
          have SA := Lib.hid (S5.out.kept (Only.of b6 []) (by simp))
          have SB := Lib.hid S6
          obtain ⟨va2, vc2, rfl⟩ := S6.form
          clear CO2 S6 b6 S5 T5 B5 d1 d2
          have FEW := Lib.hid T6.out.few
          rw [hnl] at SA SB
          go_wp2_with fail
          refine (same_any _ _ (.slice va N vc) (.slice va2 N vc2) os os _ (by omega) (by omega) SA.out SB.out).mono ?_
          rintro e WQ ⟨rfl, b7⟩
          rw [decide_eq_true rfl]
          have TQ := Lib.hid (T6.out.kept (Only.of b7 []) (by simp) (by simp))
          have BQ := Lib.hid (B6.out.trans (b7.mono B6.out.size))
          clear b7 T6 B6 SA SB
          go_wp2_with fail
          go_loopw [12, 13] (fun s c wr => ∃ k : Nat, c = .int .i64 k ∧ k ≤ 10 ∧ s = .int .i64 (sumC os k) ∧ WQ = wr) (fun _ c _ => 10 - (intOf c).toNat)
          case atStart => exact ⟨0, rfl, by omega, rfl, rfl⟩
          case round =>
            obtain ⟨k, rfl, hk, rfl, rfl⟩ := hrel
            by_cases hk10 : k < 10
            · have hsm := sumC_le os k (by omega) (by omega)
              have hs1 := hsm.1
              have hs2 : sumC os k ≤ 10240 := by have := hsm.2; omega
              have hc := cn_le os k
              have hc1 := hc.1
              have hc2 : cn os k ≤ 1024 := by have := hc.2; omega
              have HS := Lib.hid (show sumC os (k + 1) = sumC os k + cn os k from rfl)
              clear hsm hc
              generalize sumC os k = z1 at *
              generalize hcc : cn os k = z2 at *
              have HC := Lib.hid hcc
              clear hcc
              have hk9 : (k : Int) ≤ 9 := by omega
              go_wp2_with fail
              have C7 := count_yes P M k os _ TQ.out hk10
              rw [HC.out] at C7
              refine C7.mono ?_
              rintro e w7 ⟨rfl, rfl⟩
              go_wp2_with fail
              go_roundw
              case rel => exact ⟨k + 1, by simp, by omega, by rw [HS.out], by trivial⟩
              case measure => simp only [intOf, Int.toNat_natCast]; omega
            · obtain rfl : k = 10 := by omega
              rw [sumC_all os FEW.out, hnl]
              have hns : ((N : Int) != (N : Int)) = false := by simp
              go_wp2_with fail
              go_roundw
              case rel => exact ⟨i + 1, os, by simp, by omega, hnl, TQ.out, BQ.out⟩
              case measure => simp only [intOf, Int.toNat_natCast]; omega
      by_cases h2 : k = 2
      · subst h2
        obtain ⟨tp, htp⟩ : ∃ tp, tp = mvP f o 0 os := ⟨_, rfl⟩
        have HL4 := L4.out
        have HP := Lib.hid htp
        have HNL : Hid (tp.2.length = N) := Lib.hid (by rw [htp, mvP_len]; exact HOS.out)
        have e0 := HL4.cell 0
        have e1 := HL4.cell 1
        have e2 := HL4.cell 2
        have e3 := HL4.cell 3
        have ez := HL4.lt
        simp only [List.getElem?_cons_zero, List.getElem?_cons_succ] at e0 e1 e2 e3
        clear HL4 L4
        go_wp2_with fail
        have C1 := give_any P M o f os _ T4.out
        rw [← HP.out] at C1
        refine C1.mono ?_
        rintro e w5 ⟨rfl, T5x, O5⟩
        have T5 := Lib.hid T5x
        have B5 := Lib.hid (B4.out.trans (O5.below (B := w.heap.size) B4.out.size (by simp; omega)))
        have S5 := Lib.hid (S4.out.kept O5 (by simp; omega))
        clear C1 T5x O5 T4 B4 S4 e0 e1 e2 e3 ez htp
        by_cases he : tp.1 = 0
        · obtain ⟨ns, hns0⟩ : ∃ ns, ns = tp.2 := ⟨_, rfl⟩
          rw [← hns0] at T5 HNL
          clear hns0
          have hnl : ns.length = N := HNL.out
          have d1 := T5.out.tb.lt
          have d2 := T5.out.tb.row.lt
          have CO2 := owners_any P M ns _ T5.out d1 d2
          rw [hnl] at CO2
          go_wp2_with fail
          refine CO2.mono ?_
          rintro e w6 ⟨v2, rfl, S6, b6⟩
          have T6 := Lib.hid (T5.out.keptB b6 d1 d2)
          have B6 := Lib.hid (B5.out.trans (b6.mono B5.out.size))
          have SA := Lib.hid (S5.out.kept (Only.of b6 []) (by simp))
          have SB := Lib.hid S6
          obtain ⟨va2, vc2, rfl⟩ := S6.form
          clear CO2 S6 b6 S5 T5 B5 d1 d2
          have FEW := Lib.hid T6.out.few
          clear SA SB
          obtain ⟨WQ, hWQ⟩ : ∃ x, x = w6 := ⟨_, rfl⟩
          subst hWQ
          have TQ := T6
          have BQ := B6
          go_wp2_with fail
          go_loopw [12, 13] (fun s c wr => ∃ k : Nat, c = .int .i64 k ∧ k ≤ 10 ∧ s = .int .i64 (sumC ns k) ∧ WQ = wr) (fun _ c _ => 10 - (intOf c).toNat)
          case atStart => exact ⟨0, rfl, by omega, rfl, rfl⟩
          case round =>
            obtain ⟨k, rfl, hk, rfl, rfl⟩ := hrel
            by_cases hk10 : k < 10
            · have hsm := sumC_le ns k (by omega) (by omega)
              have hs1 := hsm.1
              have hs2 : sumC ns k ≤ 10240 := by have := hsm.2; omega
              have hc := cn_le ns k
              have hc1 := hc.1
              have hc2 : cn ns k ≤ 1024 := by have := hc.2; omega
              have HS := Lib.hid (show sumC ns (k + 1) = sumC ns k + cn ns k from rfl)
              clear hsm hc
              generalize sumC ns k = z1 at *
              generalize hcc : cn ns k = z2 at *
              have HC := Lib.hid hcc
              clear hcc
              have hk9 : (k : Int) ≤ 9 := by omega
              go_wp2_with fail
              have C7 := count_yes P M k ns _ TQ.out hk10
              rw [HC.out] at C7
              refine C7.mono ?_
              rintro e w7 ⟨rfl, rfl⟩
              go_wp2_with fail
              go_roundw
              case rel => exact ⟨k + 1, by simp, by omega, by rw [HS.out], by trivial⟩
              case measure => simp only [intOf, Int.toNat_natCast]; omega
            · obtain rfl : k = 10 := by omega
              rw [sumC_all ns FEW.out, hnl]
              have hns : ((N : Int) != (N : Int)) = false := by simp
              go_wp2_with fail
              go_roundw
              case rel => exact ⟨i + 1, ns, by simp, by omega, hnl, TQ.out, BQ.out⟩
              case measure => simp only [intOf, Int.toNat_natCast]; omega
        · have HSAME : Hid (tp.2 = os) := Lib.hid (by have := HP.out; rw [this] at he ⊢; exact mvP_err he)
          have hed : (tp.1 != 0) = true := by simp; exact he
          clear he
          rw [HSAME.out] at T5 HNL
          have hnl : os.length = N := HNL.out
          have d1 := T5.out.tb.lt
          have d2 := T5.out.tb.row.lt
          have CO2 := owners_any P M os _ T5.out d1 d2
          rw [hnl] at CO2
          go_wp2_with fail
          refine CO2.mono ?_
          rintro e w6 ⟨v2, rfl, S6, b6⟩
          have T6 := Lib.hid (T5.out.keptB b6 d1 d2)
          have B6 := Lib.hid (B5.out.trans (b6.mono B5.out.size))
          have SA := Lib.hid (S5.out.kept (Only.of b6 []) (by simp))
          have SB := Lib.hid S6
          obtain ⟨va2, vc2, rfl⟩ := S6.form
          clear CO2 S6 b6 S5 T5 B5 d1 d2
          have FEW := Lib.hid T6.out.few
          rw [hnl] at SA SB
          go_wp2_with fail
          refine (same_any _ _ (.slice va N vc) (.slice va2 N vc2) os os _ (by omega) (by omega) SA.out SB.out).mono ?_
          rintro e WQ ⟨rfl, b7⟩
          rw [decide_eq_true rfl]
          have TQ := Lib.hid (T6.out.kept (Only.of b7 []) (by simp) (by simp))
          have BQ := Lib.hid (B6.out.trans (b7.mono B6.out.size))
          clear b7 T6 B6 SA SB
          go_wp2_with fail
          go_loopw [12, 13] (fun s c wr => ∃ k : Nat, c = .int .i64 k ∧ k ≤ 10 ∧ s = .int .i64 (sumC os k) ∧ WQ = wr) (fun _ c _ => 10 - (intOf c).toNat)
          case atStart => exact ⟨0, rfl, by omega, rfl, rfl⟩
          case round =>
            obtain ⟨k, rfl, hk, rfl, rfl⟩ := hrel
            by_cases hk10 : k < 10
            · have hsm := sumC_le os k (by omega) (by omega)
              have hs1 := hsm.1
              have hs2 : sumC os k ≤ 10240 := by have := hsm.2; omega
              have hc := cn_le os k
              have hc1 := hc.1
              have hc2 : cn os k ≤ 1024 := by have := hc.2; omega
              have HS := Lib.hid (show sumC os (k + 1) = sumC os k + cn os k from rfl)
              clear hsm hc
              generalize sumC os k = z1 at *
              generalize hcc : cn os k = z2 at *
              have HC := Lib.hid hcc
              clear hcc
              have hk9 : (k : Int) ≤ 9 := by omega
              go_wp2_with fail
              have C7 := count_yes P M k os _ TQ.out hk10
              rw [HC.out] at C7
              refine C7.mono ?_
              rintro e w7 ⟨rfl, rfl⟩
              go_wp2_with fail
              go_roundw
              case rel => exact ⟨k + 1, by simp, by omega, by rw [HS.out], by trivial⟩
              case measure => simp only [intOf, Int.toNat_natCast]; omega
            · obtain rfl : k = 10 := by omega
              rw [sumC_all os FEW.out, hnl]
              have hns : ((N : Int) != (N : Int)) = false := by simp
              go_wp2_with fail
              go_roundw
              case rel => exact ⟨i + 1, os, by simp, by omega, hnl, TQ.out, BQ.out⟩
              case measure => simp only [intOf, Int.toNat_natCast]; omega
      by_cases h4 : k = 4
      · subst h4
        obtain ⟨tp, htp⟩ : ∃ tp, tp = moveP f o p os := ⟨_, rfl⟩
        have HL4 := L4.out
        have HP := Lib.hid htp
        have HNL : Hid (tp.2.length = N) := Lib.hid (by rw [htp, moveP_len]; exact HOS.out)
        have e0 := HL4.cell 0
        have e1 := HL4.cell 1
        have e2 := HL4.cell 2
        have e3 := HL4.cell 3
        have ez := HL4.lt
        simp only [List.getElem?_cons_zero, List.getElem?_cons_succ] at e0 e1 e2 e3
        clear HL4 L4
        go_wp2_with fail
        have C1 := move_any P M f o p os _ T4.out
        rw [← HP.out] at C1
        refine C1.mono ?_
        rintro e w5 ⟨rfl, T5x, O5⟩
        have T5 := Lib.hid T5x
        have B5 := Lib.hid (B4.out.trans (O5.below (B := w.heap.size) B4.out.size (by simp; omega)))
        have S5 := Lib.hid (S4.out.kept O5 (by simp; omega))
        clear C1 T5x O5 T4 B4 S4 e0 e1 e2 e3 ez htp
        by_cases he : tp.1 = 0
        · obtain ⟨ns, hns0⟩ : ∃ ns, ns = tp.2 := ⟨_, rfl⟩
          rw [← hns0] at T5 HNL
          clear hns0
          have hnl : ns.length = N := HNL.out
          have d1 := T5.out.tb.lt
          have d2 := T5.out.tb.row.lt
          have CO2 := owners_any P M ns _ T5.out d1 d2
          rw [hnl] at CO2
          go_wp2_with fail
          refine CO2.mono ?_
          rintro e w6 ⟨v2, rfl, S6, b6⟩
          have T6 := Lib.hid (T5.out.keptB b6 d1 d2)
          have B6 := Lib.hid (B5.out.trans (b6.mono B5.out.size))
          have SA := Lib.hid (S5.out.kept (Only.of b6 []) (by simp))
          have SB := Lib.hid S6
          obtain ⟨va2, vc2, rfl⟩ := S6.form
          clear CO2 S6 b6 S5 T5 B5 d1 d2
          have FEW := Lib.hid T6.out.few
          clear SA SB
          obtain ⟨WQ, hWQ⟩ : ∃ x, x = w6 := ⟨_, rfl⟩
          subst hWQ
          have TQ := T6
          have BQ := B6
          go_wp2_with fail
          go_loopw [12, 13] (fun s c wr => ∃ k : Nat, c = .int .i64 k ∧ k ≤ 10 ∧ s = .int .i64 (sumC ns k) ∧ WQ = wr) (fun _ c _ => 10 - (intOf c).toNat)
          case atStart => exact ⟨0, rfl, by omega, rfl, rfl⟩
          case round =>
            obtain ⟨k, rfl, hk, rfl, rfl⟩ := hrel
            by_cases hk10 : k < 10
            · have hsm := sumC_le ns k (by omega) (by omega)
              have hs1 := hsm.1
              have hs2 : sumC ns k ≤ 10240 := by have := hsm.2; omega
              have hc := cn_le ns k
              have hc1 := hc.1
              have hc2 : cn ns k ≤ 1024 := by have := hc.2; omega
              have HS := Lib.hid (show sumC ns (k + 1) = sumC ns k + cn ns k from rfl)
              clear hsm hc
              generalize sumC ns k = z1 at *
              generalize hcc : cn ns k = z2 at *
              have HC := Lib.hid hcc
              clear hcc
              have hk9 : (k : Int) ≤ 9 := by omega
              go_wp2_with fail
              have C7 := count_yes P M k ns _ TQ.out hk10
              rw [HC.out] at C7
              refine C7.mono ?_
              rintro e w7 ⟨rfl, rfl⟩
              go_wp2_with fail
              go_roundw
              case rel => exact ⟨k + 1, by simp, by omega, by rw [HS.out], by trivial⟩
              case measure => simp only [intOf, Int.toNat_natCast]; omega
            · obtain rfl : k = 10 := by omega
              rw [sumC_all ns FEW.out, hnl]
              have hns : ((N : Int) != (N : Int)) = false := by simp
              go_wp2_with fail
              go_roundw
              case rel => exact ⟨i + 1, ns, by simp, by omega, hnl, TQ.out, BQ.out⟩
              case measure => simp only [intOf, Int.toNat_natCast]; omega
        · have HSAME : Hid (tp.2 = os) := Lib.hid (by have := HP.out; rw [this] at he ⊢; exact moveP_err he)
          have hed : (tp.1 != 0) = true := by simp; exact he
          clear he
          rw [HSAME.out] at T5 HNL
          have hnl : os.length = N := HNL.out
          have d1 := T5.out.tb.lt
          have d2 := T5.out.tb.row.lt
          have CO2 := owners_any P M os _ T5.out d1 d2
          rw [hnl] at CO2
          go_wp2_with fail
          refine CO2.mono ?_
          rintro e w6 ⟨v2, rfl, S6, b6⟩
          have T6 := Lib.hid (T5.out.keptB b6 d1 d2)
          have B6 := Lib.hid (B5.out.trans (b6.mono B5.out.size))
          have SA := Lib.hid (S5.out.kept (Only.of b6 []) (by simp))
          have SB := Lib.hid S6
          obtain ⟨va2, vc2, rfl⟩ := S6.form
          clear CO2 S6 b6 S5 T5 B5 d1 d2
          have FEW := Lib.hid T6.out.few
          rw [hnl] at SA SB
          go_wp2_with fail
          refine (same_any _ _ (.slice va N vc) (.slice va2 N vc2) os os _ (by omega) (by omega) SA.out SB.out).mono ?_
          rintro e WQ ⟨rfl, b7⟩
          rw [decide_eq_true rfl]
          have TQ := Lib.hid (T6.out.kept (Only.of b7 []) (by simp) (by simp))
          have BQ := Lib.hid (B6.out.trans (b7.mono B6.out.size))
          clear b7 T6 B6 SA SB
          go_wp2_with fail
          go_loopw [12, 13] (fun s c wr => ∃ k : Nat, c = .int .i64 k ∧ k ≤ 10 ∧ s = .int .i64 (sumC os k) ∧ WQ = wr) (fun _ c _ => 10 - (intOf c).toNat)
          case atStart => exact ⟨0, rfl, by omega, rfl, rfl⟩
          case round =>
            obtain ⟨k, rfl, hk, rfl, rfl⟩ := hrel
            by_cases hk10 : k < 10
            · have hsm := sumC_le os k (by omega) (by omega)
              have hs1 := hsm.1
              have hs2 : sumC os k ≤ 10240 := by have := hsm.2; omega
              have hc := cn_le os k
              have hc1 := hc.1
              have hc2 : cn os k ≤ 1024 := by have := hc.2; omega
              have HS := Lib.hid (show sumC os (k + 1) = sumC os k + cn os k from rfl)
              clear hsm hc
              generalize sumC os k = z1 at *
              generalize hcc : cn os k = z2 at *
              have HC := Lib.hid hcc
              clear hcc
              have hk9 : (k : Int) ≤ 9 := by omega
              go_wp2_with fail
              have C7 := count_yes P M k os _ TQ.out hk10
              rw [HC.out] at C7
              refine C7.mono ?_
              rintro e w7 ⟨rfl, rfl⟩
              go_wp2_with fail
              go_roundw
              case rel => exact ⟨k + 1, by simp, by omega, by rw [HS.out], by trivial⟩
              case measure => simp only [intOf, Int.toNat_natCast]; omega
            · obtain rfl : k = 10 := by omega
              rw [sumC_all os FEW.out, hnl]
              have hns : ((N : Int) != (N : Int)) = false := by simp
              go_wp2_with fail
              go_roundw
              case rel => exact ⟨i + 1, os, by simp, by omega, hnl, TQ.out, BQ.out⟩
              case measure => simp only [intOf, Int.toNat_natCast]; omega
      have f0 : (k == 0) = false := by simp; exact h0
      have f1 : (k == 1) = false := by simp; exact h1
      have f2 : (k == 2) = false := by simp; exact h2
      have f4 : (k == 4) = false := by simp; exact h4
      have e0 := L4.out.cell 0
      have ez := L4.out.lt
      simp only [List.getElem?_cons_zero] at e0
      have HNL := Lib.hid HOS.out
      obtain ⟨ns, hns0⟩ : ∃ ns, ns = os := ⟨_, rfl⟩
      have T5 := T4
      have B5 := B4
      have S5 := S4
      rw [← hns0] at T5 HNL
      clear h0 h1 h2 h4 hns0 L4 T4 B4 S4
      have hnl : ns.length = N := HNL.out
      have d1 := T5.out.tb.lt
      have d2 := T5.out.tb.row.lt
      have CO2 := owners_any P M ns _ T5.out d1 d2
      rw [hnl] at CO2
      go_wp2_with fail
      refine CO2.mono ?_
      rintro e w6 ⟨v2, rfl, S6, b6⟩
      have T6 := Lib.hid (T5.out.keptB b6 d1 d2)
      have B6 := Lib.hid (B5.out.trans (b6.mono B5.out.size))
      have SA := Lib.hid (S5.out.kept (Only.of b6 []) (by simp))
      have SB := Lib.hid S6
      obtain ⟨va2, vc2, rfl⟩ := S6.form
      clear CO2 S6 b6 S5 T5 B5 d1 d2
      have FEW := Lib.hid T6.out.few
      clear SA SB
      obtain ⟨WQ, hWQ⟩ : ∃ x, x = w6 := ⟨_, rfl⟩
      subst hWQ
      have TQ := T6
      have BQ := B6
      go_wp2_with fail
      go_loopw [12, 13] (fun s c wr => ∃ k : Nat, c = .int .i64 k ∧ k ≤ 10 ∧ s = .int .i64 (sumC ns k) ∧ WQ = wr) (fun _ c _ => 10 - (intOf c).toNat)
      case atStart => exact ⟨0, rfl, by omega, rfl, rfl⟩
      case round =>
        obtain ⟨k, rfl, hk, rfl, rfl⟩ := hrel
        by_cases hk10 : k < 10
        · have hsm := sumC_le ns k (by omega) (by omega)
          have hs1 := hsm.1
          have hs2 : sumC ns k ≤ 10240 := by have := hsm.2; omega
          have hc := cn_le ns k
          have hc1 := hc.1
          have hc2 : cn ns k ≤ 1024 := by have := hc.2; omega
          have HS := Lib.hid (show sumC ns (k + 1) = sumC ns k + cn ns k from rfl)
          clear hsm hc
          generalize sumC ns k = z1 at *
          generalize hcc : cn ns k = z2 at *
          have HC := Lib.hid hcc
          clear hcc
          have hk9 : (k : Int) ≤ 9 := by omega
          go_wp2_with fail
          have C7 := count_yes P M k ns _ TQ.out hk10
          rw [HC.out] at C7
          refine C7.mono ?_
          rintro e w7 ⟨rfl, rfl⟩
          go_wp2_with fail
          go_roundw
          case rel => exact ⟨k + 1, by simp, by omega, by rw [HS.out], by trivial⟩
          case measure => simp only [intOf, Int.toNat_natCast]; omega
        · obtain rfl : k = 10 := by omega
          rw [sumC_all ns FEW.out, hnl]
          have hns : ((N : Int) != (N : Int)) = false := by simp
          go_wp2_with fail
          go_roundw
          case rel => exact ⟨i + 1, ns, by simp, by omega, hnl, TQ.out, BQ.out⟩
          case measure => simp only [intOf, Int.toNat_natCast]; omega
    · obtain rfl : i = len := by omega
      clear hB HX
      go_wp2_with fail
      go_ret
      exact ⟨rfl, BR.out⟩
set_option maxRecDepth 100000 in
theorem lifted (os : Os) (started : os.Started) (H : Type) (enc : TypeId × Value → H) :
    ReturnsInHanded {} Try.checked os 4 .any (Rows.framesPartsSpec.pre6 enc Try.prog Try.f4 Rows.framesPartsRow.domain false) (Rows.framesPartsSpec.post enc Try.prog Try.f4 false true false false) := by
  refine returnsInHanded_of_change_sized (C := Try.checked) own started (by kernel_rfl) Try.func4
    (ChangeSpec.witness6 (enc := enc) (C := Try.checked) false ⟨#[], #[.int .i64 0, .slice none 0 0], []⟩ 8 (by kernel_rfl) (by kernel_rfl) (by kernel_rfl) (by kernel_rfl)) ?_
  intro W base args ds gs before hval0 hW hcnd hZ0 _
  have hval : ∀ (j : Nat) t v, Try.f4.params[j]? = some t → args[j]? = some v → Value.okWide Try.prog W .any base t v := hval0
  have hZ : ∀ n ∈ DataW.weightsEach Try.prog (Try.f4.params.toList ++ []) (ds ++ gs), n ≤ reachBytes := fun n hn => of_decide_eq_true (List.all_eq_true.1 hZ0 n hn)
  have hW' := hW
  obtain ⟨p, q, hA0, hV, rfl, hfz, hnd⟩ := hW
  have hA : DataW.TrodAll enc Try.prog W 0 (fun _ => true) true Try.f4.params.toList args.toList ds p := hA0
  rw [Try.params4] at hA hval hZ
  obtain ⟨v0, vs0, d0, ds0, p0, q0, hargs, rfl, rfl, h0, r0⟩ := trodAll_cons hA
  obtain ⟨v1, vs1, d1, ds1, p1, q1, rfl, rfl, rfl, h1, r1⟩ := trodAll_cons r0
  obtain ⟨rfl, rfl, rfl⟩ := trodAll_nil r1
  obtain rfl : args = #[v0, v1] := by cases args; simp_all
  obtain ⟨rfl, rfl⟩ := trodVars_none hV
  obtain ⟨x0, rfl, rfl, rfl, w0⟩ := open_int Try.underlying3 (hval 0 3 v0 rfl rfl) h0
  have k1 := h1
  have hz1 : ∀ n ∈ d1.weights Try.prog 22, n ≤ reachBytes := fun n hn => hZ n (by simp only [List.append_nil, DataW.weightsEach, List.mem_append]; exact Or.inr (hn))
  obtain ⟨a1, n1, c1, y1, rfl, m1, lt1, z1⟩ := fcalls_open (hval 1 22 v1 rfl rfl) h1 hz1
  clear hA0 hval0 hZ0
  refine (walk x0 a1 n1 c1 y1 W m1 z1).mono fun e W' ⟨he, ho⟩ => ?_
  subst he
  have bel : Below W.heap.size W W' := ho
  exact ⟨_, rfl, _, _, _, [], _, [], hW', trodAll_mk1 (shut_bool Try.underlying4 _), (trodAll_cons_mk (shut_int Try.underlying3 w0) (trodAll_cons_mk (Below.trod laidOut (by kernel_rfl) (of_decide_eq_true (by kernel_rfl)) k1 bel lt1) trodAll_mk0)), rfl, bel.frame _, fun h => by cases h⟩
theorem over : Rows.framesPartsRow.holds Try.pinned (OpenSpec.ofChange Rows.framesPartsSpec) :=
  OpenClaim.holds_of_wide 4 Try.f4 rfl rfl rfl rfl rfl rfl rfl ⟨rfl, rfl, rfl, rfl, rfl⟩ rfl rfl rfl rfl rfl (by kernel_rfl) Try.func4 (by kernel_rfl)
    (of_decide_eq_true (by kernel_rfl)) (by unfold Func.isWrapper; first | (rw [if_pos (by decide +kernel)]; kernel_rfl) | (rw [if_neg (by decide +kernel)]; exact ⟨rfl, rfl⟩))
    (fun os started H enc _ => lifted os started H enc)
end framesParts
/-- The statement. -/
theorem framesParts_holds : Rows.FramesPartsSaid := framesParts.over
#print axioms framesParts_holds
end Go.Proofs.Ytgeagnpgcjjifaa
