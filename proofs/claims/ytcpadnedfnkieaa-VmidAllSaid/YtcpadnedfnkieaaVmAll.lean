/-
  VmidAll: as many numbers are taken as there are, the least one first; those given back just behind Dropped: for every input true, and the input reads as it did; no condition.
-/
import Derived.Test.YtcpadnedfnkieaaVmOpen
import Derived.Deep.CutRange
namespace Go.Proofs.Ytcpadnedfnkieaa
open Go.ChangeShapes Go.WideShapes Go.ChangeAt Go.RowKit Go.Deep
namespace vmidAll
open Vm
open Ph (Only)
theorem gv_zero (s : Nat → Int) (m : Nat) (n : Int) : (gvP s m n).1 = 0 ∨ (gvP s m n).1 = 11 ∨ (gvP s m n).1 = 12 := by
  unfold gvP
  split
  · exact Or.inr (Or.inl rfl)
  · split
    · exact Or.inr (Or.inr rfl)
    · exact Or.inl rfl
set_option maxRecDepth 100000 in
set_option maxHeartbeats 8000000 in
theorem walk (n : Int) (pa : Option Addr) (len cap : Nat) (y : Nat → Int) (w : World) (hl : len ≤ maxLen) (hx : IntsIn w.heap.size w pa len y) :
    Calls Try.prog 5 #[.int .i64 n, .slice pa len cap] w fun e w' => e = .returned (.bool true) ∧ Below w.heap.size w w' := by
  have HX := Lib.hid hx
  unfold maxLen at hl
  clear hx
  go_enter Try.func5, Try.ntmps5
  go_wp2_with fail
  refine (alive_any _).mono ?_
  rintro e w0 ⟨rfl, B0⟩
  by_cases g1 : n < 1
  · have d1 : decide (n < 1) = true := decide_eq_true g1
    go_wp2
    go_ret
    exact ⟨rfl, B0⟩
  have d1 : decide (n < 1) = false := decide_eq_false g1
  by_cases g2 : 255 < n
  · have d2 : decide (255 < n) = true := decide_eq_true g2
    go_wp2
    go_ret
    exact ⟨rfl, B0⟩
  have d2 : decide (255 < n) = false := decide_eq_false g2
  obtain ⟨m, rfl⟩ : ∃ m : Nat, n = (m : Int) := ⟨n.toNat, by omega⟩
  have m1 : 1 ≤ m := by omega
  have m2 : m ≤ 255 := by omega
  by_cases g3 : 300 < len
  · have g3' : (300 : Int) < (len : Int) := by omega
    clear g1 g2
    go_wp2
    go_ret
    exact ⟨rfl, B0⟩
  have g3' : ¬ (300 : Int) < (len : Int) := by omega
  have g300 : len ≤ 300 := by omega
  clear g3
  go_wp2_with fail
  refine (new_yes m w0 m1 m2).mono ?_
  rintro e w1 ⟨rfl, R1, O1⟩
  have B1 := Lib.hid (B0.trans (O1.below B0.size (by simp)))
  obtain ⟨P, hP⟩ : ∃ p, p = w0.heap.size := ⟨_, rfl⟩
  rw [← hP] at R1 ⊢
  have q1 : w.heap.size ≤ P := by have := B0.size; omega
  rw [← fstT_zero] at R1
  have R1' := Lib.hid R1
  clear hP B0 O1 R1 g1 g2 d1 d2 g3' hl
  go_wp2_with fail
  go_loopw [7] (fun c wr => ∃ k : Nat, c = .int .i64 ((k : Int) + 1) ∧ k ≤ m ∧ Hid (Pl wr (P + 1) P m (fstT k)) ∧ Hid (Below w.heap.size w wr)) (fun c _ => m + 1 - (intOf c).toNat)
  case atStart => exact ⟨0, rfl, Nat.zero_le _, R1', B1⟩
  case round =>
    obtain ⟨k, rfl, hk, RR, BR⟩ := hrel
    clear R1' B1
    by_cases hlt : k < m
    · have hle : (k : Int) + 1 ≤ (m : Int) := by omega
      go_wp2_with fail
      have C1 := take_any (P + 1) P m (fstT k) _ m2 RR.out
      rw [fstT_next hlt] at C1
      refine C1.mono ?_
      rintro e w3 ⟨rfl, R3, O3⟩
      have B3 := Lib.hid (BR.out.trans (O3.below (B := w.heap.size) BR.out.size (by simp; omega)))
      have R3' := Lib.hid R3
      clear C1 R3 O3 RR BR
      go_wp2_with fail
      go_roundw
      case rel => exact ⟨k + 1, by push_cast; rfl, by omega, R3', B3⟩
      case measure => simp only [intOf]; omega
    · obtain rfl : k = m := by omega
      have hle : ¬ (k : Int) + 1 ≤ (k : Int) := by omega
      go_wp2_with fail
      go_loopw [10, 11] (fun gc c wx => ∃ (i g : Nat) (s : Nat → Int), c = .int .i64 i ∧ gc = .int .i64 g ∧ i ≤ len ∧ Hid (Bk s k g) ∧ Hid (Pl wx (P + 1) P k s) ∧ Hid (Below w.heap.size w wx)) (fun _ c _ => len - (intOf c).toNat)
      case atStart => exact ⟨0, 0, _, rfl, rfl, Nat.zero_le _, Lib.hid (bk_all k), RR, BR⟩
      case round =>
        obtain ⟨i, g, s, rfl, rfl, hi, KR, RX, BX⟩ := hrel
        clear RR BR
        have hgk : g ≤ k := by have := KR.out.two; have := cnt_le (v := 2) (s := s) k; omega
        by_cases hil : i < len
        · obtain ⟨b, off, rfl, hbl, hcy⟩ := HX.out.at BX.out hil
          generalize y i = z at *
          have K2 := Lib.hid (bk_gv KR.out z)
          have I3 := KR.out.is3
          have hb2 := BX.out.size
          go_wp2_with fail
          have C1 := give_any (P + 1) P k s z _ m2 I3 RX.out
          refine C1.mono ?_
          rintro e w3 ⟨he, R3, O3⟩
          have B3 := Lib.hid (BX.out.trans (O3.below (B := w.heap.size) BX.out.size (by simp; omega)))
          have R3' := Lib.hid R3
          clear C1 R3 O3 RX BX I3 hcy
          rcases gv_zero s k z with h0 | h0 | h0
          · rw [h0] at he
            subst he
            have K3 := K2.out
            rw [h0, if_pos rfl] at K3
            have K3' := Lib.hid K3
            clear K3 h0 K2
            go_wp2_with fail
            go_roundw
            case rel => exact ⟨i + 1, g + 1, _, by push_cast; rfl, by push_cast; rfl, by omega, K3', R3', B3⟩
            case measure => simp only [intOf]; omega
          · rw [h0] at he
            subst he
            have K3 := K2.out
            rw [h0, if_neg (by decide)] at K3
            have K3' := Lib.hid K3
            clear K3 h0 K2
            go_wp2_with fail
            go_roundw
            case rel => exact ⟨i + 1, g, _, by push_cast; rfl, rfl, by omega, K3', R3', B3⟩
            case measure => simp only [intOf]; omega
          · rw [h0] at he
            subst he
            have K3 := K2.out
            rw [h0, if_neg (by decide)] at K3
            have K3' := Lib.hid K3
            clear K3 h0 K2
            go_wp2_with fail
            go_roundw
            case rel => exact ⟨i + 1, g, _, by push_cast; rfl, rfl, by omega, K3', R3', B3⟩
            case measure => simp only [intOf]; omega
        · obtain rfl : i = len := by omega
          go_wp2_with fail
          have C1 := take_any (P + 1) P k s _ m2 RX.out
          rw [bk_tk KR.out] at C1
          by_cases hg0 : 0 < g
          · have hg0' : (0 : Int) < (g : Int) := by omega
            rw [if_pos hg0] at C1
            refine C1.mono ?_
            rintro e w3 ⟨rfl, R3, O3⟩
            have B3 := Lib.hid (BX.out.trans (O3.below (B := w.heap.size) BX.out.size (by simp; omega)))
            have R3' := Lib.hid R3
            have dg : decide ((0 : Int) < (g : Int)) = true := by simp; omega
            clear C1 R3 O3 RX BX
            have HT := Lib.hid (bk_taken KR.out)
            go_wp2_with fail
            refine (taken_any (P + 1) P k s _ m2 R3'.out).mono ?_
            rintro e w4 ⟨v, rfl, hS, O4⟩
            obtain ⟨aa, ca, rfl⟩ := hS.form
            have hlen : ((tnL s k).length : Int) = (k : Int) - (g : Int) := by
              rw [tnL_len, HT.out]; omega
            rw [show ((Value.slice aa (tnL s k).length ca) = Value.slice aa (k - g) ca) from by rw [tnL_len, HT.out]]
            have hkg : (((k - g : Nat) : Int)) = (k : Int) - (g : Int) := by omega
            have B4 := Lib.hid (B3.out.trans (O4.below (B := w.heap.size) B3.out.size (by simp)))
            have R4 := Lib.hid (R3'.out.kept O4 (by simp) (by simp))
            have hne : (((k - g : Nat) : Int) != (k : Int) - (g : Int)) = false := by rw [hkg]; simp
            clear hS O4 R3' B3 hlen
            go_wp2_with fail
            have C2 := dropped_any (P + 1) P k s _ m2 R4.out
            rw [show (drP s k).1 = (g : Int) from by show ((cnt 2 s k : Nat) : Int) = g; rw [KR.out.two]] at C2
            refine C2.mono ?_
            rintro e w5 ⟨rfl, R5, O5⟩
            have B5 := Lib.hid (B4.out.trans (O5.below (B := w.heap.size) B4.out.size (by simp; omega)))
            have R5' := Lib.hid R5
            have F5 := Lib.hid (fw_dr KR.out)
            clear C2 R5 O5 R4 B4 hkg hne HT
            go_wp2_with fail
            go_loopw [15] (fun c wx => ∃ (j : Nat) (s' : Nat → Int), c = .int .i64 j ∧ j ≤ g ∧ Hid (Fw s' k (g - j)) ∧ Hid (Pl wx (P + 1) P k s') ∧ Hid (Below w.heap.size w wx)) (fun c _ => g - (intOf c).toNat)
            case atStart => exact ⟨0, _, rfl, Nat.zero_le _, F5, R5', B5⟩
            case round =>
              obtain ⟨j, s', rfl, hj, FR, RX, BX⟩ := hrel
              clear F5 R5' B5 KR
              by_cases hjg : j < g
              · have F1 := FR.out
                rw [show g - j = (g - (j + 1)) + 1 from by omega] at F1
                obtain ⟨f0, f1⟩ := fw_tk F1
                have F2 := Lib.hid f1
                have F0 := Lib.hid f0
                clear F1 f0 f1 FR
                go_wp2_with fail
                have C1 := take_any (P + 1) P k s' _ m2 RX.out
                rw [F0.out] at C1
                refine C1.mono ?_
                rintro e w6 ⟨rfl, R6, O6⟩
                have B6 := Lib.hid (BX.out.trans (O6.below (B := w.heap.size) BX.out.size (by simp; omega)))
                have R6' := Lib.hid R6
                clear C1 R6 O6 RX BX F0
                go_wp2_with fail
                go_roundw
                case rel => exact ⟨j + 1, _, by push_cast; rfl, by omega, F2, R6', B6⟩
                case measure => simp only [intOf]; omega
              · obtain rfl : j = g := by omega
                have F1 := FR.out
                rw [Nat.sub_self] at F1
                have F2 := Lib.hid (fw_full F1)
                clear F1 FR
                go_wp2_with fail
                have C1 := take_any (P + 1) P k s' _ m2 RX.out
                rw [F2.out] at C1
                refine C1.mono ?_
                rintro e w6 ⟨rfl, R6, O6⟩
                have B6 := Lib.hid (BX.out.trans (O6.below (B := w.heap.size) BX.out.size (by simp; omega)))
                clear C1 R6 O6 RX BX F2
                go_wp2_with fail
                go_ret
                exact ⟨rfl, B6.out⟩
          · have hg0' : ¬ (0 : Int) < (g : Int) := by omega
            rw [if_neg hg0] at C1
            refine C1.mono ?_
            rintro e w3 ⟨rfl, R3, O3⟩
            have B3 := Lib.hid (BX.out.trans (O3.below (B := w.heap.size) BX.out.size (by simp; omega)))
            have R3' := Lib.hid R3
            have dg : decide ((0 : Int) < (g : Int)) = false := by simp; omega
            clear C1 R3 O3 RX BX
            have HT := Lib.hid (bk_taken KR.out)
            go_wp2_with fail
            refine (taken_any (P + 1) P k s _ m2 R3'.out).mono ?_
            rintro e w4 ⟨v, rfl, hS, O4⟩
            obtain ⟨aa, ca, rfl⟩ := hS.form
            have hlen : ((tnL s k).length : Int) = (k : Int) - (g : Int) := by
              rw [tnL_len, HT.out]; omega
            rw [show ((Value.slice aa (tnL s k).length ca) = Value.slice aa (k - g) ca) from by rw [tnL_len, HT.out]]
            have hkg : (((k - g : Nat) : Int)) = (k : Int) - (g : Int) := by omega
            have B4 := Lib.hid (B3.out.trans (O4.below (B := w.heap.size) B3.out.size (by simp)))
            have R4 := Lib.hid (R3'.out.kept O4 (by simp) (by simp))
            have hne : (((k - g : Nat) : Int) != (k : Int) - (g : Int)) = false := by rw [hkg]; simp
            clear hS O4 R3' B3 hlen
            go_wp2_with fail
            have C2 := dropped_any (P + 1) P k s _ m2 R4.out
            rw [show (drP s k).1 = (g : Int) from by show ((cnt 2 s k : Nat) : Int) = g; rw [KR.out.two]] at C2
            refine C2.mono ?_
            rintro e w5 ⟨rfl, R5, O5⟩
            have B5 := Lib.hid (B4.out.trans (O5.below (B := w.heap.size) B4.out.size (by simp; omega)))
            have R5' := Lib.hid R5
            have F5 := Lib.hid (fw_dr KR.out)
            clear C2 R5 O5 R4 B4 hkg hne HT
            go_wp2_with fail
            go_loopw [15] (fun c wx => ∃ (j : Nat) (s' : Nat → Int), c = .int .i64 j ∧ j ≤ g ∧ Hid (Fw s' k (g - j)) ∧ Hid (Pl wx (P + 1) P k s') ∧ Hid (Below w.heap.size w wx)) (fun c _ => g - (intOf c).toNat)
            case atStart => exact ⟨0, _, rfl, Nat.zero_le _, F5, R5', B5⟩
            case round =>
              obtain ⟨j, s', rfl, hj, FR, RX, BX⟩ := hrel
              clear F5 R5' B5 KR
              by_cases hjg : j < g
              · have F1 := FR.out
                rw [show g - j = (g - (j + 1)) + 1 from by omega] at F1
                obtain ⟨f0, f1⟩ := fw_tk F1
                have F2 := Lib.hid f1
                have F0 := Lib.hid f0
                clear F1 f0 f1 FR
                go_wp2_with fail
                have C1 := take_any (P + 1) P k s' _ m2 RX.out
                rw [F0.out] at C1
                refine C1.mono ?_
                rintro e w6 ⟨rfl, R6, O6⟩
                have B6 := Lib.hid (BX.out.trans (O6.below (B := w.heap.size) BX.out.size (by simp; omega)))
                have R6' := Lib.hid R6
                clear C1 R6 O6 RX BX F0
                go_wp2_with fail
                go_roundw
                case rel => exact ⟨j + 1, _, by push_cast; rfl, by omega, F2, R6', B6⟩
                case measure => simp only [intOf]; omega
              · obtain rfl : j = g := by omega
                have F1 := FR.out
                rw [Nat.sub_self] at F1
                have F2 := Lib.hid (fw_full F1)
                clear F1 FR
                go_wp2_with fail
                have C1 := take_any (P + 1) P k s' _ m2 RX.out
                rw [F2.out] at C1
                refine C1.mono ?_
                rintro e w6 ⟨rfl, R6, O6⟩
                have B6 := Lib.hid (BX.out.trans (O6.below (B := w.heap.size) BX.out.size (by simp; omega)))
                clear C1 R6 O6 RX BX F2
                go_wp2_with fail
                go_ret
                exact ⟨rfl, B6.out⟩
set_option maxRecDepth 100000 in
theorem lifted (os : Os) (started : os.Started) (H : Type) (enc : TypeId × Value → H) :
    ReturnsInHanded {} Try.checked os 5 .any (Rows.vmidAllSpec.pre6 enc Try.prog Try.f5 Rows.vmidAllRow.domain false) (Rows.vmidAllSpec.post enc Try.prog Try.f5 false true false false) := by
  refine returnsInHanded_of_change_sized (C := Try.checked) ownK started (by kernel_rfl) Try.func5
    (ChangeSpec.witness6 (enc := enc) (C := Try.checked) false ⟨#[], #[.int .i64 0, .slice none 0 0], []⟩ 8 (by kernel_rfl) (by kernel_rfl) (by kernel_rfl) (by kernel_rfl)) ?_
  intro W base args ds gs before hval0 hW hcnd hZ0 _
  have hval : ∀ (j : Nat) t v, Try.f5.params[j]? = some t → args[j]? = some v → Value.okWide Try.prog W .any base t v := hval0
  have hZ : ∀ n ∈ DataW.weightsEach Try.prog (Try.f5.params.toList ++ []) (ds ++ gs), n ≤ reachBytes := fun n hn => of_decide_eq_true (List.all_eq_true.1 hZ0 n hn)
  have hW' := hW
  obtain ⟨p, q, hA0, hV, rfl, hfz, hnd⟩ := hW
  have hA : DataW.TrodAll enc Try.prog W 0 (fun _ => true) true Try.f5.params.toList args.toList ds p := hA0
  rw [Try.params5] at hA hval hZ
  obtain ⟨v0, vs0, d0, ds0, p0, q0, hargs, rfl, rfl, h0, r0⟩ := trodAll_cons hA
  obtain ⟨v1, vs1, d1, ds1, p1, q1, rfl, rfl, rfl, h1, r1⟩ := trodAll_cons r0
  obtain ⟨rfl, rfl, rfl⟩ := trodAll_nil r1
  obtain rfl : args = #[v0, v1] := by cases args; simp_all
  obtain ⟨rfl, rfl⟩ := trodVars_none hV
  obtain ⟨x0, rfl, rfl, rfl, w0⟩ := open_int Try.underlying3 (hval 0 3 v0 rfl rfl) h0
  have k1 := h1
  have hz1 : ∀ n ∈ d1.weights Try.prog 36, n ≤ reachBytes := fun n hn => hZ n (by simp only [List.append_nil, DataW.weightsEach, List.mem_append]; exact Or.inr (hn))
  obtain ⟨a1, n1, c1, y1, rfl, m1, lt1, z1⟩ := vints_open (hval 1 36 v1 rfl rfl) h1 hz1
  clear hA0 hval0 hZ0
  refine (walk x0 a1 n1 c1 y1 W m1 z1).mono fun e W' ⟨he, ho⟩ => ?_
  subst he
  have bel : Below W.heap.size W W' := ho
  exact ⟨_, rfl, _, _, _, [], _, [], hW', trodAll_mk1 (shut_bool Try.underlying4 _), (trodAll_cons_mk (shut_int Try.underlying3 w0) (trodAll_cons_mk (Below.trod laidOut (by kernel_rfl) (of_decide_eq_true (by kernel_rfl)) k1 bel lt1) trodAll_mk0)), rfl, bel.frame _, fun h => by cases h⟩
theorem over : Rows.vmidAllRow.holds Try.pinned (OpenSpec.ofChange Rows.vmidAllSpec) :=
  OpenClaim.holds_of_wide 5 Try.f5 rfl rfl rfl rfl rfl rfl rfl ⟨rfl, rfl, rfl, rfl, rfl⟩ rfl rfl rfl rfl rfl (by kernel_rfl) Try.func5 (by kernel_rfl)
    (of_decide_eq_true (by kernel_rfl)) (by unfold Func.isWrapper; first | (rw [if_pos (by decide +kernel)]; kernel_rfl) | (rw [if_neg (by decide +kernel)]; exact ⟨rfl, rfl⟩))
    (fun os started H enc _ => lifted os started H enc)
end vmidAll
/-- The statement. -/
theorem vmidAll_holds : Rows.VmidAllSaid := vmidAll.over
#print axioms vmidAll_holds
end Go.Proofs.Ytcpadnedfnkieaa
