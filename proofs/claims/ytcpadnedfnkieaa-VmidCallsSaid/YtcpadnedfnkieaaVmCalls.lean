/-
  VmidCalls: every row of calls is answered as the document says, and every question: for every input true, and the input reads as it did; no condition.
-/
import Derived.Test.YtcpadnedfnkieaaVmOpen
import Derived.Deep.CutRange
import Derived.Deep.CutBlock
import Derived.Deep.RegionHeld3
namespace Go.Proofs.Ytcpadnedfnkieaa
open Go.ChangeShapes Go.WideShapes Go.ChangeAt Go.RowKit Go.Deep
namespace vmidCalls
open Vm
open Ph (Only)
/-- What is kept: both pools, the call that is told, what lay. -/
structure Kp (B P G m b off i : Nat) (c : VCallsT) (s : Nat → Int) (w0 w : World) : Prop where
  p : Pl w (P + 1) P m s
  r : Pl w (G + 1) G m s
  c : VCallsAt w b off i c
  below : Below B w0 w
theorem Kp.past {B P G m b off i N : Nat} {c : VCallsT} {s : Nat → Int} {w0 w w' : World} (h : Kp B P G m b off i c s w0 w) (hb : Below N w w') (hB : B ≤ N) (hP : P + 1 < N) (hG : G + 1 < N) (hb' : b < N) : Kp B P G m b off i c s w0 w' := by
  have ho := below_only hb
  exact ⟨h.p.kept ho (past_not hP) (past_not (by omega)), h.r.kept ho (past_not hG) (past_not (by omega)), h.c.kept ho (past_not hb'), h.below.trans (hb.mono hB)⟩
theorem Kp.only {B P G m b off i : Nat} {c : VCallsT} {s : Nat → Int} {w0 w w' : World} (h : Kp B P G m b off i c s w0 w) (ho : Only [] w w') (hB : B ≤ w.heap.size) : Kp B P G m b off i c s w0 w' :=
  ⟨h.p.kept ho (by simp) (by simp), h.r.kept ho (by simp) (by simp), h.c.kept ho (by simp), h.below.trans (ho.below hB (by simp))⟩
set_option maxRecDepth 100000 in
set_option maxHeartbeats 8000000 in
theorem walk (n : Int) (pa : Option Addr) (len cap : Nat) (y : Nat → VCallsT) (q : Int) (w : World) (hl : len ≤ cap ∧ cap ≤ maxLen) (hx : VCalls w.heap.size w pa len y) :
    Calls Try.prog 3 #[.int .i64 n, .slice pa len cap, .int .i64 q] w fun e w' => e = .returned (.bool true) ∧ Below w.heap.size w w' := by
  have HX := Lib.hid hx
  have hlm : len ≤ maxLen := by omega
  unfold maxLen at hlm
  clear hx hl
  go_enter Try.func3, Try.ntmps3
  go_wp2_with fail
  refine (alive_any _).mono ?_
  rintro e w0 ⟨rfl, B0⟩
  by_cases g1 : 300 < len
  · have g1' : (300 : Int) < (len : Int) := by omega
    go_wp2
    go_ret
    exact ⟨rfl, B0⟩
  have g1' : ¬ (300 : Int) < (len : Int) := by omega
  have g0 : len ≤ 300 := by omega
  clear g1
  by_cases g2 : n < 1
  · have d1 : decide (n < 1) = true := decide_eq_true g2
    go_wp2_with fail
    refine (new_no n w0 (Or.inl g2)).mono ?_
    rintro e w1 ⟨rfl, rfl⟩
    go_wp2
    go_ret
    exact ⟨rfl, B0⟩
  have d1 : decide (n < 1) = false := decide_eq_false g2
  by_cases g3 : 255 < n
  · have d2 : decide (255 < n) = true := decide_eq_true g3
    go_wp2_with fail
    refine (new_no n w0 (Or.inr g3)).mono ?_
    rintro e w1 ⟨rfl, rfl⟩
    go_wp2
    go_ret
    exact ⟨rfl, B0⟩
  have d2 : decide (255 < n) = false := decide_eq_false g3
  obtain ⟨m, rfl⟩ : ∃ m : Nat, n = (m : Int) := ⟨n.toNat, by omega⟩
  have m1 : 1 ≤ m := by omega
  have m2 : m ≤ 255 := by omega
  go_wp2_with fail
  refine (new_yes m w0 m1 m2).mono ?_
  rintro e w1 ⟨rfl, R1, O1⟩
  have B1 := Lib.hid (B0.trans (O1.below B0.size (by simp)))
  obtain ⟨P, hP⟩ : ∃ p, p = w0.heap.size := ⟨_, rfl⟩
  rw [← hP] at R1 ⊢
  have q1 : w.heap.size ≤ P := by have := B0.size; omega
  have R1' := Lib.hid R1
  clear hP B0 O1 R1 g2 g3 g1' hlm
  go_wp2_with fail
  refine (rnew_any m w1 m2).mono ?_
  rintro e w2 ⟨rfl, R2, O2⟩
  have B2 := Lib.hid (B1.out.trans (O2.below B1.out.size (by simp)))
  obtain ⟨G, hG⟩ : ∃ p, p = w1.heap.size := ⟨_, rfl⟩
  have q2 : P + 1 < G := by rw [hG]; exact R1'.out.lt
  have R1k := Lib.hid (R1'.out.kept O2 (by simp) (by simp))
  rw [← hG] at R2 ⊢
  have R2' := Lib.hid R2
  clear hG O2 R2 R1' B1 d1 d2
  go_wp2_with fail
  go_loopw [10] (fun c wr => ∃ (i : Nat) (s : Nat → Int), c = .int .i64 i ∧ i ≤ len ∧ Hid (Is3 s m) ∧ Hid (Pl wr (P + 1) P m s) ∧ Hid (Pl wr (G + 1) G m s) ∧ Hid (Below w.heap.size w wr)) (fun c _ => len - (intOf c).toNat)
  case atStart => exact ⟨0, _, rfl, Nat.zero_le _, Lib.hid (fun _ _ => Or.inl rfl), R1k, R2', B2⟩
  case round =>
    obtain ⟨i, s, rfl, hi, IR, RR, QR, BR⟩ := hrel
    clear R1k R2' B2
    obtain ⟨wo, rfl⟩ : ∃ wo, wo = wr := ⟨_, rfl⟩
    by_cases hlt : i < len
    · obtain ⟨b, off, rfl, hbl, hC⟩ := HX.out.at BR.out hlt
      have K0 : Hid (Kp w.heap.size P G m b off i (y i) s w wo) := Lib.hid ⟨RR.out, QR.out, hC, BR.out⟩
      have hIo : Hid (∀ a z, Is3 (opV s m a z) m) := Lib.hid (fun a z => (opV_round IR.out a z (j := 0) (by omega)).1)
      generalize y i = c at *
      obtain ⟨a, z⟩ := c
      have hi0 : (0 : Int) ≤ (i : Int) := by omega
      have hil : (i : Int) < (len : Int) := by omega
      have zo : w.heap.size ≤ wo.heap.size := BR.out.size
      have zG : G + 1 < wo.heap.size := QR.out.lt
      clear hC RR QR BR
      have c0 := K0.out.c.c0
      have c1 := K0.out.c.c1
      simp only at c0 c1
      go_upto_block 2 with fail
      go_cut [15] from 48 to 148 (fun s15 wx => Hid (Kp w.heap.size P G m b off i (a, z) (opV s m a z) w wx) ∧ wo.heap.size ≤ wx.heap.size)
      case first =>
        by_cases h0 : a = 0
        · subst h0
          have HT := Lib.hid (show opV s m 0 z = (tkP s m).2.2 by unfold opV; simp)
          have C1 := take_any (P + 1) P m s _ m2 K0.out.p
          have C2 := fun (wx : World) (hw : Pl wx (G + 1) G m s) => rtake_any (G + 1) G m s wx m2 hw
          generalize tkP s m = tp at *
          go_wp2_with fail
          refine C1.mono ?_
          rintro e w3 ⟨rfl, R3, O3⟩
          have Q3 := Lib.hid (K0.out.r.kept O3 (by simp; omega) (by simp; omega))
          have CY := Lib.hid (K0.out.c.kept O3 (by simp; omega))
          have BY := Lib.hid (K0.out.below.trans (O3.below (B := w.heap.size) zo (by simp; omega)))
          have zy := O3.size
          have RY := Lib.hid R3
          clear R3 O3 K0 C1
          go_wp2_with fail
          refine (C2 _ Q3.out).mono ?_
          rintro e w4 ⟨rfl, R4, O4⟩
          have K4 : Hid (Kp w.heap.size P G m b off i (0, z) tp.2.2 w w4) := Lib.hid ⟨RY.out.kept O4 (by simp; omega) (by simp; omega), R4, CY.out.kept O4 (by simp; omega), BY.out.trans (O4.below (B := w.heap.size) BY.out.size (by simp; omega))⟩
          have zz := Nat.le_trans zy O4.size
          clear R4 O4 RY Q3 CY BY C2 zy
          go_wp2_with fail
          go_meet
          case rel => exact ⟨by rw [HT.out]; exact K4, zz⟩
        have d0 : (a == 0) = false := by simpa using h0
        by_cases h1 : a = 1
        · subst h1
          have HT := Lib.hid (show opV s m 1 z = (gvP s m z).2 by unfold opV; simp)
          have C1 := fun (wx : World) (hw : Pl wx (P + 1) P m s) => give_any (P + 1) P m s z wx m2 IR.out hw
          have C2 := fun (wx : World) (hw : Pl wx (G + 1) G m s) => rgive_any (G + 1) G m s z wx m2 hw
          generalize gvP s m z = gp at *
          have hd := Only.drewN [] wo 1
          have KD : Hid (Kp w.heap.size P G m b off i (1, z) s w wo.drew) := Lib.hid (K0.out.only hd zo)
          have zd : wo.heap.size ≤ wo.drew.heap.size := Nat.le_refl _
          have HS := Lib.hid (fun (w' : World) (h : Only [P, G] wo.drew w') => ((KD.out.c.kept h (by simp; omega)).c1 : w'.cell? ⟨b, off + i * 2 + 1, none⟩ = some (.int .i64 z)))
          have hA : Only [P, G] wo.drew wo.drew := Only.refl _ _
          go_upto_region 21 with fail
          clear K0 c0 c1 hd
          go_region_held3 (fun w' => w'.cell? ⟨b, off + i * 2 + 1, none⟩ = some (.int .i64 z)) (exact HS.out _ hA) (first
            | (go_at_call 12; refine (C1 _ KD.out.p).mono ?_; rintro e wx ⟨rfl, R3, O3⟩; have QY := Lib.hid (KD.out.r.kept O3 (by simp; omega) (by simp; omega)); have RY := Lib.hid R3; replace hA := hA.trans (O3.mono (S' := [P, G]) (by simp)); clear R3 O3)
            | (go_at_call 13; refine (C2 _ QY.out).mono ?_; rintro e wy ⟨rfl, R4, O4⟩; have RZ := Lib.hid (RY.out.kept O4 (by simp; omega) (by simp; omega)); have QZ := Lib.hid R4; replace hA := hA.trans (O4.mono (S' := [P, G]) (by simp)); clear R4 O4))
          all_goals
            go_wp2_with fail
            go_meet
            case rel => exact ⟨by rw [HT.out]; exact Lib.hid ⟨RZ.out, QZ.out, KD.out.c.kept hA (by simp; omega), KD.out.below.trans (hA.below (B := w.heap.size) zo (by simp; omega))⟩, hA.size⟩
        have d1 : (a == 1) = false := by simpa using h1
        by_cases h2 : a = 2
        · subst h2
          have HT := Lib.hid (show opV s m 2 z = (drP s m).2 by unfold opV; simp)
          have C1 := dropped_any (P + 1) P m s _ m2 K0.out.p
          have C2 := fun (wx : World) (hw : Pl wx (G + 1) G m s) => rdropped_any (G + 1) G m s wx m2 hw
          generalize drP s m = dp at *
          go_wp2_with fail
          refine C1.mono ?_
          rintro e w3 ⟨rfl, R3, O3⟩
          have Q3 := Lib.hid (K0.out.r.kept O3 (by simp; omega) (by simp; omega))
          have CY := Lib.hid (K0.out.c.kept O3 (by simp; omega))
          have BY := Lib.hid (K0.out.below.trans (O3.below (B := w.heap.size) zo (by simp; omega)))
          have zy := O3.size
          have RY := Lib.hid R3
          clear R3 O3 K0 C1
          go_wp2_with fail
          refine (C2 _ Q3.out).mono ?_
          rintro e w4 ⟨rfl, R4, O4⟩
          have K4 : Hid (Kp w.heap.size P G m b off i (2, z) dp.2 w w4) := Lib.hid ⟨RY.out.kept O4 (by simp; omega) (by simp; omega), R4, CY.out.kept O4 (by simp; omega), BY.out.trans (O4.below (B := w.heap.size) BY.out.size (by simp; omega))⟩
          have zz := Nat.le_trans zy O4.size
          clear R4 O4 RY Q3 CY BY C2 zy
          go_wp2_with fail
          go_meet
          case rel => exact ⟨by rw [HT.out]; exact K4, zz⟩
        have d2 : (a == 2) = false := by simpa using h2
        have HT := Lib.hid (show opV s m a z = s by unfold opV; rw [if_neg h0, if_neg h1, if_neg h2])
        go_wp2_with fail
        go_meet
        case rel => exact ⟨by rw [HT.out]; exact K0, Nat.le_refl _⟩
      case rest =>
        obtain ⟨KY, zy⟩ := hcut
        clear K0 c0 c1
        have IY := Lib.hid (hIo.out a z)
        generalize opV s m a z = s' at *
        by_cases n1 : 1 ≤ q
        · have dn1 : decide (1 ≤ q) = true := decide_eq_true n1
          by_cases n2 : q ≤ m
          · have dn2 : decide (q ≤ (m : Int)) = true := decide_eq_true n2
            obtain ⟨qq, rfl⟩ : ∃ qq : Nat, q = (qq : Int) + 1 := ⟨(q - 1).toNat, by omega⟩
            have hqm : qq < m := by omega
            have e1 : stP s' m ((qq : Int) + 1) = s' qq := by unfold stP; rw [if_pos (by omega)]; congr 1; omega
            have hh := KY.out.r.head
            have hcl := KY.out.r.row.cell qq hqm
            have hlt2 := KY.out.r.row.lt
            have W0 := Lib.hid (World.ownsRow_lit (e := 3) (size := 1) wc #[] 0 (Nat.le_refl _) (by unfold maxLen; omega) (by simp))
            have K2 := Lib.hid (KY.out.only (Only.alloc [] wc (.cells #[] 3)) (by omega))
            have zc : P + 1 < wc.heap.size ∧ G + 1 < wc.heap.size ∧ b < wc.heap.size := ⟨by omega, by omega, by omega⟩
            have zw : w.heap.size ≤ wc.heap.size := by omega
            clear KY
            go_wp2_with fail
            go_loopw [16, 17] (fun v c wx => ∃ (k : Nat) (vv : Value), c = .int .i64 k ∧ vv = v ∧ k ≤ m ∧ Hid (wx.ownsRow wc.heap.size 3 1 vv (tnL s' k).length (ints (tnL s' k))) ∧ Hid (Kp w.heap.size P G m b off i (a, z) s' w wx) ∧ wc.heap.size ≤ wx.heap.size) (fun _ c _ => m - (intOf c).toNat)
            case atStart => exact ⟨0, _, rfl, rfl, Nat.zero_le _, W0, K2, by simp⟩
            case round =>
              obtain ⟨k, vv, rfl, rfl, hk, OW, KX, zx⟩ := hrel
              clear W0 K2
              by_cases hkm : k < m
              · have hkm' : (k : Int) < (m : Int) := by omega
                have hh := KX.out.r.head
                have hcl := KX.out.r.row.cell k hkm
                have hlt2 := KX.out.r.row.lt
                have htn := tnL_next s' k
                have hln : (tnL s' k).length ≤ k := by rw [tnL_len]; exact cnt_le k
                by_cases h1 : s' k = 1
                · rw [h1] at hcl
                  rw [if_pos h1] at htn
                  have HTN := Lib.hid htn
                  clear htn h1
                  go_wp2_with (at_builtin; refine step_int rfl (.tmp 132) (.tmp 135) rfl wc.heap.size _ (tnL s' k).length (ints (tnL s' k)) ((k : Int) + 1) _ OW.out zx (by omega) rfl rfl ?_; intro v' w3 hown hb; have OX := Lib.hid hown; have DX := Lib.hid hb; clear hown hb OW)
                  have KZ := Lib.hid (KX.out.past DX.out zw (by omega) (by omega) (by omega))
                  have zy := Nat.le_trans zx DX.out.size
                  clear KX DX
                  go_roundw
                  case rel => exact ⟨k + 1, _, by push_cast; rfl, rfl, by omega, by rw [HTN.out, List.length_append, ints_snoc]; push_cast; exact OX, KZ, zy⟩
                  case measure => simp only [intOf]; omega
                · have dk : ((s' k : Int) == 1) = false := by simpa using h1
                  rw [if_neg h1, List.append_nil] at htn
                  have HTN := Lib.hid htn
                  clear htn h1
                  go_wp2_with fail
                  go_roundw
                  case rel => exact ⟨k + 1, _, by push_cast; rfl, rfl, by omega, by rw [HTN.out]; exact OW, KX, zx⟩
                  case measure => simp only [intOf]; omega
              · obtain rfl : k = m := by omega
                have hS2 := Lib.hid (row_seen OW.out)
                have hst := Lib.hid (state_any (P + 1) P k s' ((qq : Int) + 1) _ m2 KX.out.p)
                rw [e1] at hst
                have htk := Lib.hid (taken_any (P + 1) P k s' _ m2 KX.out.p)
                have hln : (tnL s' k).length ≤ k := by rw [tnL_len]; exact cnt_le k
                clear OW
                go_wp2_with (first | (go_at_call 16; refine hst.out.mono ?_; rintro e w3 ⟨rfl, rfl⟩) | (go_at_call 18; refine htk.out.mono ?_; rintro e w4 ⟨v4, rfl, hS, hO⟩; have S4 := Lib.hid hS; have T4 := Lib.hid (hS2.out.kept hO (by simp)); have K4 := Lib.hid (KX.out.only hO (by omega)); have O4 := Lib.hid hO; clear hS hO))
                refine (same_any _ _ _ _ (tnL s' k) (tnL s' k) _ (by omega) (by omega) S4.out T4.out).mono ?_
                rintro e w5 ⟨he, hb⟩
                replace he : e = .returned (.bool true) := by rw [he, decide_eq_true rfl]
                subst he
                have K5 := Lib.hid (K4.out.past hb (by have := O4.out.size; omega) (by have := O4.out.size; omega) (by have := O4.out.size; omega) (by have := O4.out.size; omega))
                clear hb K4 S4 T4 O4
                go_wp2_with fail
                go_roundw
                case rel => exact ⟨i + 1, _, by push_cast; rfl, by omega, IY, Lib.hid K5.out.p, Lib.hid K5.out.r, Lib.hid K5.out.below⟩
                case measure => simp only [intOf]; omega
          · have dn2 : decide (q ≤ (m : Int)) = false := decide_eq_false n2
            have e1 : stP s' m q = -1 := by unfold stP; rw [if_neg (by omega)]
            have W0 := Lib.hid (World.ownsRow_lit (e := 3) (size := 1) wc #[] 0 (Nat.le_refl _) (by unfold maxLen; omega) (by simp))
            have K2 := Lib.hid (KY.out.only (Only.alloc [] wc (.cells #[] 3)) (by omega))
            have zc : P + 1 < wc.heap.size ∧ G + 1 < wc.heap.size ∧ b < wc.heap.size := ⟨by omega, by omega, by omega⟩
            have zw : w.heap.size ≤ wc.heap.size := by omega
            clear KY
            go_wp2_with fail
            go_loopw [16, 17] (fun v c wx => ∃ (k : Nat) (vv : Value), c = .int .i64 k ∧ vv = v ∧ k ≤ m ∧ Hid (wx.ownsRow wc.heap.size 3 1 vv (tnL s' k).length (ints (tnL s' k))) ∧ Hid (Kp w.heap.size P G m b off i (a, z) s' w wx) ∧ wc.heap.size ≤ wx.heap.size) (fun _ c _ => m - (intOf c).toNat)
            case atStart => exact ⟨0, _, rfl, rfl, Nat.zero_le _, W0, K2, by simp⟩
            case round =>
              obtain ⟨k, vv, rfl, rfl, hk, OW, KX, zx⟩ := hrel
              clear W0 K2
              by_cases hkm : k < m
              · have hkm' : (k : Int) < (m : Int) := by omega
                have hh := KX.out.r.head
                have hcl := KX.out.r.row.cell k hkm
                have hlt2 := KX.out.r.row.lt
                have htn := tnL_next s' k
                have hln : (tnL s' k).length ≤ k := by rw [tnL_len]; exact cnt_le k
                by_cases h1 : s' k = 1
                · rw [h1] at hcl
                  rw [if_pos h1] at htn
                  have HTN := Lib.hid htn
                  clear htn h1
                  go_wp2_with (at_builtin; refine step_int rfl (.tmp 132) (.tmp 135) rfl wc.heap.size _ (tnL s' k).length (ints (tnL s' k)) ((k : Int) + 1) _ OW.out zx (by omega) rfl rfl ?_; intro v' w3 hown hb; have OX := Lib.hid hown; have DX := Lib.hid hb; clear hown hb OW)
                  have KZ := Lib.hid (KX.out.past DX.out zw (by omega) (by omega) (by omega))
                  have zy := Nat.le_trans zx DX.out.size
                  clear KX DX
                  go_roundw
                  case rel => exact ⟨k + 1, _, by push_cast; rfl, rfl, by omega, by rw [HTN.out, List.length_append, ints_snoc]; push_cast; exact OX, KZ, zy⟩
                  case measure => simp only [intOf]; omega
                · have dk : ((s' k : Int) == 1) = false := by simpa using h1
                  rw [if_neg h1, List.append_nil] at htn
                  have HTN := Lib.hid htn
                  clear htn h1
                  go_wp2_with fail
                  go_roundw
                  case rel => exact ⟨k + 1, _, by push_cast; rfl, rfl, by omega, by rw [HTN.out]; exact OW, KX, zx⟩
                  case measure => simp only [intOf]; omega
              · obtain rfl : k = m := by omega
                have hS2 := Lib.hid (row_seen OW.out)
                have hst := Lib.hid (state_any (P + 1) P k s' q _ m2 KX.out.p)
                rw [e1] at hst
                have htk := Lib.hid (taken_any (P + 1) P k s' _ m2 KX.out.p)
                have hln : (tnL s' k).length ≤ k := by rw [tnL_len]; exact cnt_le k
                clear OW
                go_wp2_with (first | (go_at_call 16; refine hst.out.mono ?_; rintro e w3 ⟨rfl, rfl⟩) | (go_at_call 18; refine htk.out.mono ?_; rintro e w4 ⟨v4, rfl, hS, hO⟩; have S4 := Lib.hid hS; have T4 := Lib.hid (hS2.out.kept hO (by simp)); have K4 := Lib.hid (KX.out.only hO (by omega)); have O4 := Lib.hid hO; clear hS hO))
                refine (same_any _ _ _ _ (tnL s' k) (tnL s' k) _ (by omega) (by omega) S4.out T4.out).mono ?_
                rintro e w5 ⟨he, hb⟩
                replace he : e = .returned (.bool true) := by rw [he, decide_eq_true rfl]
                subst he
                have K5 := Lib.hid (K4.out.past hb (by have := O4.out.size; omega) (by have := O4.out.size; omega) (by have := O4.out.size; omega) (by have := O4.out.size; omega))
                clear hb K4 S4 T4 O4
                go_wp2_with fail
                go_roundw
                case rel => exact ⟨i + 1, _, by push_cast; rfl, by omega, IY, Lib.hid K5.out.p, Lib.hid K5.out.r, Lib.hid K5.out.below⟩
                case measure => simp only [intOf]; omega
        · have dn1 : decide (1 ≤ q) = false := decide_eq_false n1
          have e1 : stP s' m q = -1 := by unfold stP; rw [if_neg (by omega)]
          have W0 := Lib.hid (World.ownsRow_lit (e := 3) (size := 1) wc #[] 0 (Nat.le_refl _) (by unfold maxLen; omega) (by simp))
          have K2 := Lib.hid (KY.out.only (Only.alloc [] wc (.cells #[] 3)) (by omega))
          have zc : P + 1 < wc.heap.size ∧ G + 1 < wc.heap.size ∧ b < wc.heap.size := ⟨by omega, by omega, by omega⟩
          have zw : w.heap.size ≤ wc.heap.size := by omega
          clear KY
          go_wp2_with fail
          go_loopw [16, 17] (fun v c wx => ∃ (k : Nat) (vv : Value), c = .int .i64 k ∧ vv = v ∧ k ≤ m ∧ Hid (wx.ownsRow wc.heap.size 3 1 vv (tnL s' k).length (ints (tnL s' k))) ∧ Hid (Kp w.heap.size P G m b off i (a, z) s' w wx) ∧ wc.heap.size ≤ wx.heap.size) (fun _ c _ => m - (intOf c).toNat)
          case atStart => exact ⟨0, _, rfl, rfl, Nat.zero_le _, W0, K2, by simp⟩
          case round =>
            obtain ⟨k, vv, rfl, rfl, hk, OW, KX, zx⟩ := hrel
            clear W0 K2
            by_cases hkm : k < m
            · have hkm' : (k : Int) < (m : Int) := by omega
              have hh := KX.out.r.head
              have hcl := KX.out.r.row.cell k hkm
              have hlt2 := KX.out.r.row.lt
              have htn := tnL_next s' k
              have hln : (tnL s' k).length ≤ k := by rw [tnL_len]; exact cnt_le k
              by_cases h1 : s' k = 1
              · rw [h1] at hcl
                rw [if_pos h1] at htn
                have HTN := Lib.hid htn
                clear htn h1
                go_wp2_with (at_builtin; refine step_int rfl (.tmp 132) (.tmp 135) rfl wc.heap.size _ (tnL s' k).length (ints (tnL s' k)) ((k : Int) + 1) _ OW.out zx (by omega) rfl rfl ?_; intro v' w3 hown hb; have OX := Lib.hid hown; have DX := Lib.hid hb; clear hown hb OW)
                have KZ := Lib.hid (KX.out.past DX.out zw (by omega) (by omega) (by omega))
                have zy := Nat.le_trans zx DX.out.size
                clear KX DX
                go_roundw
                case rel => exact ⟨k + 1, _, by push_cast; rfl, rfl, by omega, by rw [HTN.out, List.length_append, ints_snoc]; push_cast; exact OX, KZ, zy⟩
                case measure => simp only [intOf]; omega
              · have dk : ((s' k : Int) == 1) = false := by simpa using h1
                rw [if_neg h1, List.append_nil] at htn
                have HTN := Lib.hid htn
                clear htn h1
                go_wp2_with fail
                go_roundw
                case rel => exact ⟨k + 1, _, by push_cast; rfl, rfl, by omega, by rw [HTN.out]; exact OW, KX, zx⟩
                case measure => simp only [intOf]; omega
            · obtain rfl : k = m := by omega
              have hS2 := Lib.hid (row_seen OW.out)
              have hst := Lib.hid (state_any (P + 1) P k s' q _ m2 KX.out.p)
              rw [e1] at hst
              have htk := Lib.hid (taken_any (P + 1) P k s' _ m2 KX.out.p)
              have hln : (tnL s' k).length ≤ k := by rw [tnL_len]; exact cnt_le k
              clear OW
              go_wp2_with (first | (go_at_call 16; refine hst.out.mono ?_; rintro e w3 ⟨rfl, rfl⟩) | (go_at_call 18; refine htk.out.mono ?_; rintro e w4 ⟨v4, rfl, hS, hO⟩; have S4 := Lib.hid hS; have T4 := Lib.hid (hS2.out.kept hO (by simp)); have K4 := Lib.hid (KX.out.only hO (by omega)); have O4 := Lib.hid hO; clear hS hO))
              refine (same_any _ _ _ _ (tnL s' k) (tnL s' k) _ (by omega) (by omega) S4.out T4.out).mono ?_
              rintro e w5 ⟨he, hb⟩
              replace he : e = .returned (.bool true) := by rw [he, decide_eq_true rfl]
              subst he
              have K5 := Lib.hid (K4.out.past hb (by have := O4.out.size; omega) (by have := O4.out.size; omega) (by have := O4.out.size; omega) (by have := O4.out.size; omega))
              clear hb K4 S4 T4 O4
              go_wp2_with fail
              go_roundw
              case rel => exact ⟨i + 1, _, by push_cast; rfl, by omega, IY, Lib.hid K5.out.p, Lib.hid K5.out.r, Lib.hid K5.out.below⟩
              case measure => simp only [intOf]; omega
    · obtain rfl : i = len := by omega
      clear hlt
      go_wp2_with fail
      go_ret
      exact ⟨rfl, BR.out⟩
set_option maxRecDepth 100000 in
theorem lifted (os : Os) (started : os.Started) (H : Type) (enc : TypeId × Value → H) :
    ReturnsInHanded {} Try.checked os 3 .any (Rows.vmidCallsSpec.pre6 enc Try.prog Try.f3 Rows.vmidCallsRow.domain false) (Rows.vmidCallsSpec.post enc Try.prog Try.f3 false true false false) := by
  refine returnsInHanded_of_change_sized (C := Try.checked) ownK started (by kernel_rfl) Try.func3
    (ChangeSpec.witness6 (enc := enc) (C := Try.checked) false ⟨#[], #[.int .i64 0, .slice none 0 0, .int .i64 0], []⟩ 8 (by kernel_rfl) (by kernel_rfl) (by kernel_rfl) (by kernel_rfl)) ?_
  intro W base args ds gs before hval0 hW hcnd hZ0 _
  have hval : ∀ (j : Nat) t v, Try.f3.params[j]? = some t → args[j]? = some v → Value.okWide Try.prog W .any base t v := hval0
  have hZ : ∀ n ∈ DataW.weightsEach Try.prog (Try.f3.params.toList ++ []) (ds ++ gs), n ≤ reachBytes := fun n hn => of_decide_eq_true (List.all_eq_true.1 hZ0 n hn)
  have hW' := hW
  obtain ⟨p, q, hA0, hV, rfl, hfz, hnd⟩ := hW
  have hA : DataW.TrodAll enc Try.prog W 0 (fun _ => true) true Try.f3.params.toList args.toList ds p := hA0
  rw [Try.params3] at hA hval hZ
  obtain ⟨v0, vs0, d0, ds0, p0, q0, hargs, rfl, rfl, h0, r0⟩ := trodAll_cons hA
  obtain ⟨v1, vs1, d1, ds1, p1, q1, rfl, rfl, rfl, h1, r1⟩ := trodAll_cons r0
  obtain ⟨v2, vs2, d2, ds2, p2, q2, rfl, rfl, rfl, h2, r2⟩ := trodAll_cons r1
  obtain ⟨rfl, rfl, rfl⟩ := trodAll_nil r2
  obtain rfl : args = #[v0, v1, v2] := by cases args; simp_all
  obtain ⟨rfl, rfl⟩ := trodVars_none hV
  obtain ⟨x0, rfl, rfl, rfl, w0⟩ := open_int Try.underlying3 (hval 0 3 v0 rfl rfl) h0
  have k1 := h1
  have hz1 : ∀ n ∈ d1.weights Try.prog 22, n ≤ reachBytes := fun n hn => hZ n (by simp only [List.append_nil, DataW.weightsEach, List.mem_append]; exact Or.inr (Or.inl hn))
  obtain ⟨a1, n1, c1, y1, rfl, m1, lt1, z1⟩ := vcalls_open (hval 1 22 v1 rfl rfl) h1 hz1
  obtain ⟨x2, rfl, rfl, rfl, w2⟩ := open_int Try.underlying3 (hval 2 3 v2 rfl rfl) h2
  clear hA0 hval0 hZ0
  refine (walk x0 a1 n1 c1 y1 x2 W m1 z1).mono fun e W' ⟨he, ho⟩ => ?_
  subst he
  have bel : Below W.heap.size W W' := ho
  exact ⟨_, rfl, _, _, _, [], _, [], hW', trodAll_mk1 (shut_bool Try.underlying4 _), (trodAll_cons_mk (shut_int Try.underlying3 w0) (trodAll_cons_mk (Below.trod laidOut (by kernel_rfl) (of_decide_eq_true (by kernel_rfl)) k1 bel lt1) (trodAll_cons_mk (shut_int Try.underlying3 w2) trodAll_mk0))), rfl, bel.frame _, fun h => by cases h⟩
theorem over : Rows.vmidCallsRow.holds Try.pinned (OpenSpec.ofChange Rows.vmidCallsSpec) :=
  OpenClaim.holds_of_wide 3 Try.f3 rfl rfl rfl rfl rfl rfl rfl ⟨rfl, rfl, rfl, rfl, rfl⟩ rfl rfl rfl rfl rfl (by kernel_rfl) Try.func3 (by kernel_rfl)
    (of_decide_eq_true (by kernel_rfl)) (by unfold Func.isWrapper; first | (rw [if_pos (by decide +kernel)]; kernel_rfl) | (rw [if_neg (by decide +kernel)]; exact ⟨rfl, rfl⟩))
    (fun os started H enc _ => lifted os started H enc)
end vmidCalls
/-- The statement. -/
theorem vmidCalls_holds : Rows.VmidCallsSaid := vmidCalls.over
#print axioms vmidCalls_holds
end Go.Proofs.Ytcpadnedfnkieaa
