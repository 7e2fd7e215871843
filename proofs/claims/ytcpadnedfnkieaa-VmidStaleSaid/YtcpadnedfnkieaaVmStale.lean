/-
  VmidStale: each number is free, taken or stale, and goes round in that order alone: for every input true, and the input reads as it did; no condition.
-/
import Derived.Test.YtcpadnedfnkieaaVmOpen
import Derived.Deep.CutRange
import Derived.Deep.CutBlock
namespace Go.Proofs.Ytcpadnedfnkieaa
open Go.ChangeShapes Go.WideShapes Go.ChangeAt Go.RowKit Go.Deep
namespace vmidStale
open Vm
open Ph (Only)
/-- The first states, as cells. -/
def zs (s : Nat → Int) (k : Nat) : List Value := (List.range k).map fun j => .int .i64 (s j)
theorem zs_next (s : Nat → Int) (k : Nat) : zs s (k + 1) = zs s k ++ [.int .i64 (s k)] := by unfold zs; rw [List.range_succ, List.map_append]; rfl
theorem zs_at (s : Nat → Int) {k j : Nat} (h : j < k) : (zs s k)[j]? = some (.int .i64 (s j)) := by unfold zs; simp [h]
theorem is3_new (m : Nat) : Is3 (fun _ => 0) m := fun _ _ => Or.inl rfl
set_option maxRecDepth 100000 in
set_option maxHeartbeats 8000000 in
theorem walk (n : Int) (pa : Option Addr) (len cap : Nat) (y : Nat → VCallsT) (w : World) (hl : len ≤ cap ∧ cap ≤ maxLen) (hx : VCalls w.heap.size w pa len y) :
    Calls Try.prog 6 #[.int .i64 n, .slice pa len cap] w fun e w' => e = .returned (.bool true) ∧ Below w.heap.size w w' := by
  have HX := Lib.hid hx
  have hlm : len ≤ maxLen := by omega
  unfold maxLen at hlm
  clear hx hl
  go_enter Try.func6, Try.ntmps6
  go_wp2_with fail
  refine (alive_any _).mono ?_
  rintro e w0 ⟨rfl, B0⟩
  by_cases g1 : 100 < len
  · have g1' : (100 : Int) < (len : Int) := by omega
    go_wp2
    go_ret
    exact ⟨rfl, B0⟩
  have g1' : ¬ (100 : Int) < (len : Int) := by omega
  have g0 : len ≤ 100 := by omega
  clear g1
  by_cases g2 : n < 1
  · have d1 : decide (n < 1) = true := decide_eq_true g2
    go_wp2
    go_ret
    exact ⟨rfl, B0⟩
  have d1 : decide (n < 1) = false := decide_eq_false g2
  by_cases g3 : 255 < n
  · have d2 : decide (255 < n) = true := decide_eq_true g3
    go_wp2
    go_ret
    exact ⟨rfl, B0⟩
  have d2 : decide (255 < n) = false := decide_eq_false g3
  obtain ⟨m, rfl⟩ : ∃ m : Nat, n = (m : Int) := ⟨n.toNat, by omega⟩
  have m1 : 1 ≤ m := by omega
  have m2 : m ≤ 255 := by omega
  go_wp2_with fail
  refine (new_yes m w0 m1 m2).mono ?_
  rintro e w1 ⟨rfl, R1, O1⟩
  have B1 := Lib.hid (B0.trans (O1.below B0.size (by simp)))
  obtain ⟨P, hP⟩ : ∃ p, p = w0.heap.size := ⟨_, rfl⟩
  rw [← hP] at R1 ⊢
  have q1 : w.heap.size ≤ P := by have := B0.size; omega
  have R1' := Lib.hid R1
  clear hP B0 O1 R1 g2 g3 d1 d2 g1' hlm
  go_wp2_with fail
  go_loopw [7] (fun c wr => ∃ (i : Nat) (s : Nat → Int), c = .int .i64 i ∧ i ≤ len ∧ Hid (Is3 s m) ∧ Hid (Pl wr (P + 1) P m s) ∧ Hid (Below w.heap.size w wr)) (fun c _ => len - (intOf c).toNat)
  case atStart => exact ⟨0, _, rfl, Nat.zero_le _, Lib.hid (is3_new m), R1', B1⟩
  case round =>
    obtain ⟨i, s, rfl, hi, IR, RR, BR⟩ := hrel
    clear R1' B1
    obtain ⟨wo, rfl⟩ : ∃ wo, wo = wr := ⟨_, rfl⟩
    by_cases hlt : i < len
    · obtain ⟨b, off, rfl, hbl, hC⟩ := HX.out.at BR.out hlt
      have hlow := Lib.hid hC
      generalize y i = c at *
      obtain ⟨a, z⟩ := c
      have hi0 : (0 : Int) ≤ (i : Int) := by omega
      have hil : (i : Int) < (len : Int) := by omega
      clear hC
      have W0 := Lib.hid (World.ownsRow_lit (e := 3) (size := 1) wo #[] 0 (Nat.le_refl _) (by unfold maxLen; omega) (by simp))
      have oA := Only.alloc [] wo (.cells #[] 3)
      have R2 := Lib.hid (RR.out.kept oA (by simp) (by simp))
      have B2 := Lib.hid (BR.out.trans (oA.below (B := w.heap.size) BR.out.size (by simp)))
      have hbo : w.heap.size ≤ wo.heap.size := BR.out.size
      have hPn : P + 1 < wo.heap.size := RR.out.lt
      have hbw : b < wo.heap.size := Nat.lt_of_lt_of_le hbl BR.out.size
      have C2 := Lib.hid (hlow.out.kept oA (by simp))
      clear oA RR BR hlow
      go_wp2_with fail
      go_loopw [8, 9] (fun v c wx => ∃ (k : Nat) (vv : Value), c = .int .i64 ((k : Int) + 1) ∧ vv = v ∧ k ≤ m ∧ Hid (wx.ownsRow wo.heap.size 3 1 vv k (zs s k)) ∧ Hid (Pl wx (P + 1) P m s) ∧ Hid (VCallsAt wx b off i (a, z)) ∧ Hid (Below w.heap.size w wx) ∧ wo.heap.size ≤ wx.heap.size) (fun _ c _ => m + 1 - (intOf c).toNat)
      case atStart => exact ⟨0, _, rfl, rfl, Nat.zero_le _, W0, R2, C2, B2, by simp⟩
      case round =>
        obtain ⟨k, vv, rfl, rfl, hk, OW, RX, CX, BX, zx⟩ := hrel
        clear W0 R2 C2 B2
        by_cases hkm : k < m
        · have hle : (k : Int) + 1 ≤ (m : Int) := by omega
          have e1 : stP s m ((k : Int) + 1) = s k := by unfold stP; rw [if_pos (by omega)]; congr 1; omega
          have hC1 := Lib.hid (state_any (P + 1) P m s ((k : Int) + 1) _ m2 RX.out)
          rw [e1] at hC1
          clear e1
          go_wp2_with (first | (go_at_call 16; refine hC1.out.mono ?_; rintro e w3 ⟨rfl, rfl⟩) | (at_builtin; refine step_int rfl (.tmp 49) (.tmp 53) rfl wo.heap.size _ k (zs s k) (s k) _ OW.out zx (by omega) rfl rfl ?_; intro v' w3 hown hb; have OX := Lib.hid hown; have DX := Lib.hid hb; clear hown hb OW))
          have o3 := below_only DX.out
          have RY := Lib.hid (RX.out.kept o3 (past_not (by omega)) (past_not (by omega)))
          have CY := Lib.hid (CX.out.kept o3 (past_not hbw))
          have BY := Lib.hid (BX.out.trans (DX.out.mono hbo))
          have zy := Nat.le_trans zx DX.out.size
          clear o3 RX CX BX DX
          go_roundw
          case rel => exact ⟨k + 1, _, by push_cast; rfl, rfl, by omega, by rw [zs_next]; exact OX, RY, CY, BY, zy⟩
          case measure => simp only [intOf]; omega
        · obtain rfl : k = m := by omega
          have hle : ¬ (k : Int) + 1 ≤ (k : Int) := by omega
          have c0 := CX.out.c0
          have c1 := CX.out.c1
          have zx' := hPn
          simp only at c0 c1
          go_upto_block 4 with fail
          go_cut [10] from 37 to 132 (fun s10 wx => Hid (Pl wx (P + 1) P k (opV s k a z)) ∧ Hid (wx.ownsRow wo.heap.size 3 1 vv k (zs s k)) ∧ Hid (VCallsAt wx b off i (a, z)) ∧ Hid (Below w.heap.size w wx) ∧ wo.heap.size ≤ wx.heap.size)
          case first =>
            by_cases h0 : a = 0
            · subst h0
              have HT := Lib.hid (show opV s k 0 z = (tkP s k).2.2 by unfold opV; simp)
              go_wp2_with fail
              refine (take_any (P + 1) P k s _ m2 RX.out).mono ?_
              rintro e w3 ⟨rfl, R3, O3⟩
              have OY := Lib.hid (OW.out.kept (only_grown O3) (Or.inr (fun e => by have := (OW.out.lt P e).1; omega)))
              have CY := Lib.hid (CX.out.kept O3 (by simp; omega))
              have BY := Lib.hid (BX.out.trans (O3.below (B := w.heap.size) BX.out.size (by simp; omega)))
              have zy := Nat.le_trans zx O3.size
              have RY := Lib.hid R3
              clear R3 O3 OW CX BX RX
              go_wp2_with fail
              go_meet
              case rel => exact ⟨by rw [HT.out]; exact RY, OY, CY, BY, zy⟩
            have d0 : (a == 0) = false := by simpa using h0
            by_cases h1 : a = 1
            · subst h1
              have HT := Lib.hid (show opV s k 1 z = (gvP s k z).2 by unfold opV; simp)
              go_wp2_with fail
              refine (give_any (P + 1) P k s z _ m2 IR.out RX.out).mono ?_
              rintro e w3 ⟨rfl, R3, O3⟩
              have OY := Lib.hid (OW.out.kept (only_grown O3) (Or.inr (fun e => by have := (OW.out.lt P e).1; omega)))
              have CY := Lib.hid (CX.out.kept O3 (by simp; omega))
              have BY := Lib.hid (BX.out.trans (O3.below (B := w.heap.size) BX.out.size (by simp; omega)))
              have zy := Nat.le_trans zx O3.size
              have RY := Lib.hid R3
              clear R3 O3 OW CX BX RX
              go_wp2_with fail
              go_meet
              case rel => exact ⟨by rw [HT.out]; exact RY, OY, CY, BY, zy⟩
            have d1 : (a == 1) = false := by simpa using h1
            by_cases h2 : a = 2
            · subst h2
              have HT := Lib.hid (show opV s k 2 z = (drP s k).2 by unfold opV; simp)
              go_wp2_with fail
              refine (dropped_any (P + 1) P k s _ m2 RX.out).mono ?_
              rintro e w3 ⟨rfl, R3, O3⟩
              have OY := Lib.hid (OW.out.kept (only_grown O3) (Or.inr (fun e => by have := (OW.out.lt P e).1; omega)))
              have CY := Lib.hid (CX.out.kept O3 (by simp; omega))
              have BY := Lib.hid (BX.out.trans (O3.below (B := w.heap.size) BX.out.size (by simp; omega)))
              have zy := Nat.le_trans zx O3.size
              have RY := Lib.hid R3
              clear R3 O3 OW CX BX RX
              go_wp2_with fail
              go_meet
              case rel => exact ⟨by rw [HT.out]; exact RY, OY, CY, BY, zy⟩
            have d2 : (a == 2) = false := by simpa using h2
            have HT := Lib.hid (show opV s k a z = s by unfold opV; rw [if_neg h0, if_neg h1, if_neg h2])
            go_wp2_with fail
            go_meet
            case rel => exact ⟨by rw [HT.out]; exact RX, OW, CX, BX, zx⟩
          case rest =>
            obtain ⟨RY, OY, CY, BY, zy⟩ := hcut
            clear OW RX CX BX zx c0 c1
            obtain ⟨g, cp, rfl, hg1, hg2⟩ := OY.out.form (by omega)
            have hround := Lib.hid (fun (j : Nat) (hj : j < k) => opV_round IR.out a z hj)
            have IX := Lib.hid (hround.out 0 (by omega)).1
            go_wp2_with fail
            go_loopw [10] (fun c wx => ∃ j : Nat, c = .int .i64 ((j : Int) + 1) ∧ j ≤ k ∧ wc = wx) (fun c _ => k + 1 - (intOf c).toNat)
            case atStart => exact ⟨0, rfl, Nat.zero_le _, rfl⟩
            case round =>
              obtain ⟨j, rfl, hj, rfl⟩ := hrel
              by_cases hjk : j < k
              · have hle2 : (j : Int) + 1 ≤ (k : Int) := by omega
                obtain ⟨I3, hR⟩ := hround.out j hjk
                have hcell := OY.out.cellAt j (by omega)
                rw [zs_at s hjk] at hcell
                have e1 : stP (opV s k a z) k ((j : Int) + 1) = opV s k a z j := by unfold stP; rw [if_pos (by omega)]; congr 1; omega
                have hC1 := Lib.hid (state_any (P + 1) P k (opV s k a z) ((j : Int) + 1) _ m2 RY.out)
                rw [e1] at hC1
                have hI := I3 j hjk
                clear I3 e1
                have c0 := CY.out.c0
                simp only at c0
                generalize opV s k a z j = q at *
                by_cases hq : q = s j
                · rw [← hq] at hcell
                  clear hR hq
                  rcases hI with rfl | rfl | rfl
                  · go_wp2_with (go_at_call 16; refine hC1.out.mono ?_; rintro e w3 ⟨rfl, rfl⟩)
                    go_roundw
                    case rel => exact ⟨j + 1, by push_cast; rfl, by omega, by trivial⟩
                    case measure => simp only [intOf]; omega
                  · go_wp2_with (go_at_call 16; refine hC1.out.mono ?_; rintro e w3 ⟨rfl, rfl⟩)
                    go_roundw
                    case rel => exact ⟨j + 1, by push_cast; rfl, by omega, by trivial⟩
                    case measure => simp only [intOf]; omega
                  · go_wp2_with (go_at_call 16; refine hC1.out.mono ?_; rintro e w3 ⟨rfl, rfl⟩)
                    go_roundw
                    case rel => exact ⟨j + 1, by push_cast; rfl, by omega, by trivial⟩
                    case measure => simp only [intOf]; omega
                · obtain ⟨r1, r2, r3, r4⟩ := hR hq
                  rw [r3] at hcell r4
                  have ha : a = 0 ∨ a = 1 ∨ a = 2 := by omega
                  clear hR hq hI r1 r2 r3
                  rcases ha with rfl | rfl | rfl
                  · obtain rfl : q = 1 := by omega
                    clear r4
                    go_wp2_with (go_at_call 16; refine hC1.out.mono ?_; rintro e w3 ⟨rfl, rfl⟩)
                    go_roundw
                    case rel => exact ⟨j + 1, by push_cast; rfl, by omega, by trivial⟩
                    case measure => simp only [intOf]; omega
                  · obtain rfl : q = 2 := by omega
                    clear r4
                    go_wp2_with (go_at_call 16; refine hC1.out.mono ?_; rintro e w3 ⟨rfl, rfl⟩)
                    go_roundw
                    case rel => exact ⟨j + 1, by push_cast; rfl, by omega, by trivial⟩
                    case measure => simp only [intOf]; omega
                  · obtain rfl : q = 0 := by omega
                    clear r4
                    go_wp2_with (go_at_call 16; refine hC1.out.mono ?_; rintro e w3 ⟨rfl, rfl⟩)
                    go_roundw
                    case rel => exact ⟨j + 1, by push_cast; rfl, by omega, by trivial⟩
                    case measure => simp only [intOf]; omega
              · obtain rfl : j = k := by omega
                have hle2 : ¬ (j : Int) + 1 ≤ (j : Int) := by omega
                clear hround
                go_wp2_with fail
                go_roundw
                case rel => exact ⟨i + 1, _, by push_cast; rfl, by omega, IX, RY, BY⟩
                case measure => simp only [intOf]; omega
    · obtain rfl : i = len := by omega
      clear hlt
      go_wp2_with fail
      go_ret
      exact ⟨rfl, BR.out⟩
set_option maxRecDepth 100000 in
theorem lifted (os : Os) (started : os.Started) (H : Type) (enc : TypeId × Value → H) :
    ReturnsInHanded {} Try.checked os 6 .any (Rows.vmidStaleSpec.pre6 enc Try.prog Try.f6 Rows.vmidStaleRow.domain false) (Rows.vmidStaleSpec.post enc Try.prog Try.f6 false true false false) := by
  refine returnsInHanded_of_change_sized (C := Try.checked) ownK started (by kernel_rfl) Try.func6
    (ChangeSpec.witness6 (enc := enc) (C := Try.checked) false ⟨#[], #[.int .i64 0, .slice none 0 0], []⟩ 8 (by kernel_rfl) (by kernel_rfl) (by kernel_rfl) (by kernel_rfl)) ?_
  intro W base args ds gs before hval0 hW hcnd hZ0 _
  have hval : ∀ (j : Nat) t v, Try.f6.params[j]? = some t → args[j]? = some v → Value.okWide Try.prog W .any base t v := hval0
  have hZ : ∀ n ∈ DataW.weightsEach Try.prog (Try.f6.params.toList ++ []) (ds ++ gs), n ≤ reachBytes := fun n hn => of_decide_eq_true (List.all_eq_true.1 hZ0 n hn)
  have hW' := hW
  obtain ⟨p, q, hA0, hV, rfl, hfz, hnd⟩ := hW
  have hA : DataW.TrodAll enc Try.prog W 0 (fun _ => true) true Try.f6.params.toList args.toList ds p := hA0
  rw [Try.params6] at hA hval hZ
  obtain ⟨v0, vs0, d0, ds0, p0, q0, hargs, rfl, rfl, h0, r0⟩ := trodAll_cons hA
  obtain ⟨v1, vs1, d1, ds1, p1, q1, rfl, rfl, rfl, h1, r1⟩ := trodAll_cons r0
  obtain ⟨rfl, rfl, rfl⟩ := trodAll_nil r1
  obtain rfl : args = #[v0, v1] := by cases args; simp_all
  obtain ⟨rfl, rfl⟩ := trodVars_none hV
  obtain ⟨x0, rfl, rfl, rfl, w0⟩ := open_int Try.underlying3 (hval 0 3 v0 rfl rfl) h0
  have k1 := h1
  have hz1 : ∀ n ∈ d1.weights Try.prog 22, n ≤ reachBytes := fun n hn => hZ n (by simp only [List.append_nil, DataW.weightsEach, List.mem_append]; exact Or.inr (hn))
  obtain ⟨a1, n1, c1, y1, rfl, m1, lt1, z1⟩ := vcalls_open (hval 1 22 v1 rfl rfl) h1 hz1
  clear hA0 hval0 hZ0
  refine (walk x0 a1 n1 c1 y1 W m1 z1).mono fun e W' ⟨he, ho⟩ => ?_
  subst he
  have bel : Below W.heap.size W W' := ho
  exact ⟨_, rfl, _, _, _, [], _, [], hW', trodAll_mk1 (shut_bool Try.underlying4 _), (trodAll_cons_mk (shut_int Try.underlying3 w0) (trodAll_cons_mk (Below.trod laidOut (by kernel_rfl) (of_decide_eq_true (by kernel_rfl)) k1 bel lt1) trodAll_mk0)), rfl, bel.frame _, fun h => by cases h⟩
theorem over : Rows.vmidStaleRow.holds Try.pinned (OpenSpec.ofChange Rows.vmidStaleSpec) :=
  OpenClaim.holds_of_wide 6 Try.f6 rfl rfl rfl rfl rfl rfl rfl ⟨rfl, rfl, rfl, rfl, rfl⟩ rfl rfl rfl rfl rfl (by kernel_rfl) Try.func6 (by kernel_rfl)
    (of_decide_eq_true (by kernel_rfl)) (by unfold Func.isWrapper; first | (rw [if_pos (by decide +kernel)]; kernel_rfl) | (rw [if_neg (by decide +kernel)]; exact ⟨rfl, rfl⟩))
    (fun os started H enc _ => lifted os started H enc)
end vmidStale
/-- The statement. -/
theorem vmidStale_holds : Rows.VmidStaleSaid := vmidStale.over
#print axioms vmidStale_holds
end Go.Proofs.Ytcpadnedfnkieaa
