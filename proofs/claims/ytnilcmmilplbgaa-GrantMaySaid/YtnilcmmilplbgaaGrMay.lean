/-
  GrantMay: a guest may use a frame just while a grant of it, made to it by its owner, is taken; a page has one grant at most: for every input true, and the input reads as it did; no condition.
-/
import Derived.Test.YtnilcmmilplbgaaGrTel
import Derived.Test.YtnilcmmilplbgaaGrAlive
import Derived.Deep.CutRange
import Derived.Deep.CutBlock
namespace Go.Proofs.Ytnilcmmilplbgaa
open Go.ChangeShapes Go.WideShapes Go.ChangeAt Go.RowKit Go.Deep
namespace grantMay
open Gr
open Ph (Only)
set_option maxRecDepth 100000 in
set_option maxHeartbeats 8000000 in
theorem walk (pa : Option Addr) (len cap : Nat) (y : Nat → GCallsT) (w : World) (hl : len ≤ cap ∧ cap ≤ maxLen) (hx : GCalls w.heap.size w pa len y) :
    Calls Try.prog 4 #[.slice pa len cap] w fun e w' => e = .returned (.bool true) ∧ Below w.heap.size w w' := by
  have HX := Lib.hid hx
  have hlm : len ≤ maxLen := by omega
  unfold maxLen at hlm
  clear hx hl
  have hz : ∀ w, (zeroValue 37).run Try.prog w = .ok (.agg #[.int .i64 0, .int .i64 0, .int .i64 0, .int .i64 0, .int .i64 0, .bool false]) w := fun _ => by kernel_rfl
  go_enter Try.func4, Try.ntmps4
  go_wp2_with fail
  refine (alive_any _).mono ?_
  rintro e w0 ⟨rfl, B0⟩
  by_cases g1 : 60 < len
  · have g1' : (60 : Int) < (len : Int) := by omega
    go_wp2
    go_ret
    exact ⟨rfl, B0⟩
  have g60 : len ≤ 60 := by omega
  have g60' : ¬ (60 : Int) < (len : Int) := by omega
  clear g1
  go_wp2_with fail
  refine (new_any w0).mono ?_
  rintro e w1 ⟨rfl, R1, O1⟩
  have B1 := Lib.hid (B0.trans (O1.below B0.size (by simp)))
  obtain ⟨P, hP⟩ : ∃ p, p = w0.heap.size := ⟨_, rfl⟩
  rw [← hP] at R1 ⊢
  have q1 : w.heap.size ≤ P := by have := B0.size; omega
  have R1' := Lib.hid R1
  clear hP B0 O1 R1
  go_wp2_with fail
  go_loopw [4] (fun c wr => ∃ (i : Nat) (g : Nat → GtT), c = .int .i64 i ∧ i ≤ len ∧ Gv g ∧ Row6 wr P g ∧ Below w.heap.size w wr) (fun c _ => len - (intOf c).toNat)
  case atStart => exact ⟨0, _, rfl, Nat.zero_le _, gv_new, R1'.out, B1.out⟩
  case round =>
    obtain ⟨i, g, rfl, hi, hg, hR, hB⟩ := hrel
    have RR := Lib.hid hR
    have BR := Lib.hid hB
    have VR := Lib.hid hg
    clear hR hg R1' B1
    by_cases hlt : i < len
    · obtain ⟨b, off, rfl, hbl, hC⟩ := HX.out.at hB hlt
      have c0 := hC.c0
      have c1 := hC.c1
      have c2 := hC.c2
      have c3 := hC.c3
      have c4 := hC.c4
      have c5 := hC.c5
      generalize y i = c at *
      obtain ⟨k, o, n, f, t, v⟩ := c
      have hi0 : (0 : Int) ≤ (i : Int) := by omega
      have hil : (i : Int) < (len : Int) := by omega
      have hwr := hB.size
      have HI := Lib.hid hi
      clear hC hB HX hi
      have HLA := Lib.hid (Lay.new wr 30 [.int .i64 k, .int .i64 o, .int .i64 n, .int .i64 f, .int .i64 t, .bool v])
      have oA := Only.alloc [] wr (.cells #[.int .i64 k, .int .i64 o, .int .i64 n, .int .i64 f, .int .i64 t, .bool v] 30)
      have RA := Lib.hid (RR.out.kept oA (by simp))
      have BA := Lib.hid (BR.out.trans (oA.below (B := w.heap.size) BR.out.size (by simp)))
      have z1 := RR.out.lt
      have HP := Lib.hid (show P < wr.heap.size from z1)
      clear oA RR BR hwr
      go_upto_block 2 with fail
      obtain ⟨cb, hcb⟩ : ∃ q, q = wr.heap.size := ⟨_, rfl⟩
      rw [← hcb] at HLA HP z1 ⊢
      clear hcb
      go_cut [6] from 15 to 153 (fun s6 wx => Lay wx cb 30 [.int .i64 k, .int .i64 o, .int .i64 n, .int .i64 f, .int .i64 t, .bool v] ∧ Row6 wx P (toldP (k, o, n, f, t, v) g) ∧ Below w.heap.size w wx)
      case first =>
        have e0 := HLA.out.cell 0
        have e1 := HLA.out.cell 1
        have e2 := HLA.out.cell 2
        have e3 := HLA.out.cell 3
        have e4 := HLA.out.cell 4
        have e5 := HLA.out.cell 5
        simp only [List.getElem?_cons_zero, List.getElem?_cons_succ] at e0 e1 e2 e3 e4 e5
        have LL := HLA.out.lt
        clear c0 c1 c2 c3 c4 c5 hz
        generalize wr.alloc (.cells #[.int .i64 k, .int .i64 o, .int .i64 n, .int .i64 f, .int .i64 t, .bool v] 30) = u at *
        by_cases h0 : k = 0
        · subst h0
          have HT := Lib.hid (show toldP (0, o, n, f, t, v) g = (offP g o f t v).2.2 by unfold toldP; simp)
          go_wp2_with fail
          refine (offer_any P o f t v g _ RA.out).mono ?_
          rintro e u2 ⟨rfl, hR, hO⟩
          have LX := Lib.hid (HLA.out.kept hO (by simp; omega))
          have BX := Lib.hid (BA.out.trans (hO.below (B := w.heap.size) BA.out.size (by simp; omega)))
          have RX := Lib.hid hR
          clear hO hR e0 e1 e2 e3 e4 e5 RA BA HLA
          go_wp2_with fail
          go_meet
          case rel => exact ⟨LX.out, by rw [HT.out]; exact RX.out, BX.out⟩
        have d0 : (k == 0) = false := by simpa using h0
        by_cases h1 : k = 1
        · subst h1
          have HT := Lib.hid (show toldP (1, o, n, f, t, v) g = (accP g n o f).2.2 by unfold toldP; simp)
          go_wp2_with fail
          refine (accept_any P n o f g _ RA.out VR.out).mono ?_
          rintro e u2 ⟨rfl, hR, hO⟩
          have LX := Lib.hid (HLA.out.kept hO (by simp; omega))
          have BX := Lib.hid (BA.out.trans (hO.below (B := w.heap.size) BA.out.size (by simp; omega)))
          have RX := Lib.hid hR
          clear hO hR e0 e1 e2 e3 e4 e5 RA BA HLA
          go_wp2_with fail
          go_meet
          case rel => exact ⟨LX.out, by rw [HT.out]; exact RX.out, BX.out⟩
        have d1 : (k == 1) = false := by simpa using h1
        by_cases h2 : k = 2
        · subst h2
          have HT := Lib.hid (show toldP (2, o, n, f, t, v) g = (lveP g n o).2.2 by unfold toldP; simp)
          go_wp2_with fail
          refine (leave_any P n o g _ RA.out VR.out).mono ?_
          rintro e u2 ⟨rfl, hR, hO⟩
          have LX := Lib.hid (HLA.out.kept hO (by simp; omega))
          have BX := Lib.hid (BA.out.trans (hO.below (B := w.heap.size) BA.out.size (by simp; omega)))
          have RX := Lib.hid hR
          clear hO hR e0 e1 e2 e3 e4 e5 RA BA HLA
          go_wp2_with fail
          go_meet
          case rel => exact ⟨LX.out, by rw [HT.out]; exact RX.out, BX.out⟩
        have d2 : (k == 2) = false := by simpa using h2
        by_cases h3 : k = 3
        · subst h3
          have HT := Lib.hid (show toldP (3, o, n, f, t, v) g = (revP g n o).2.2 by unfold toldP; simp)
          go_wp2_with fail
          refine (revoke_any P n o g _ RA.out).mono ?_
          rintro e u2 ⟨rfl, hR, hO⟩
          have LX := Lib.hid (HLA.out.kept hO (by simp; omega))
          have BX := Lib.hid (BA.out.trans (hO.below (B := w.heap.size) BA.out.size (by simp; omega)))
          have RX := Lib.hid hR
          clear hO hR e0 e1 e2 e3 e4 e5 RA BA HLA
          go_wp2_with fail
          go_meet
          case rel => exact ⟨LX.out, by rw [HT.out]; exact RX.out, BX.out⟩
        have d3 : (k == 3) = false := by simpa using h3
        by_cases h4 : k = 4
        · subst h4
          have HT := Lib.hid (show toldP (4, o, n, f, t, v) g = gonP g o by unfold toldP; simp)
          go_wp2_with fail
          refine (gone_any P o g _ RA.out).mono ?_
          rintro e u2 ⟨v2, rfl, _, hR, hO⟩
          have LX := Lib.hid (HLA.out.kept hO (by simp; omega))
          have BX := Lib.hid (BA.out.trans (hO.below (B := w.heap.size) BA.out.size (by simp; omega)))
          have RX := Lib.hid hR
          clear hO hR e0 e1 e2 e3 e4 e5 RA BA HLA
          go_wp2_with fail
          go_meet
          case rel => exact ⟨LX.out, by rw [HT.out]; exact RX.out, BX.out⟩
        have d4 : (k == 4) = false := by simpa using h4
        have HT := Lib.hid (show toldP (k, o, n, f, t, v) g = g by unfold toldP; simp [h0, h1, h2, h3, h4])
        clear h0 h1 h2 h3 h4
        go_wp2_with fail
        go_meet
        case rel => exact ⟨HLA.out, by rw [HT.out]; exact RA.out, BA.out⟩
      case rest =>
        obtain ⟨hL, hR, hB⟩ := hcut
        have VN := Lib.hid (gv_told VR.out (k, o, n, f, t, v))
        have HNG := Lib.hid (show k = 4 → toldP (k, o, n, f, t, v) g = gonP g o from fun h => by subst h; unfold toldP; simp)
        obtain ⟨ng, hng⟩ : ∃ q, q = toldP (k, o, n, f, t, v) g := ⟨_, rfl⟩
        rw [← hng] at hR VN HNG
        have LX := Lib.hid hL
        have RX := Lib.hid hR
        have BX := Lib.hid hB
        clear hng hL hR hB RA BA HLA VR c0 c1 c2 c3 c4 c5
        go_wp2_with fail
        go_loopw [6] (fun c wq => ∃ j : Nat, c = .int .i64 j ∧ j ≤ 32 ∧ Row6 wq P ng ∧ Lay wq cb 30 [.int .i64 k, .int .i64 o, .int .i64 n, .int .i64 f, .int .i64 t, .bool v] ∧ Below w.heap.size w wq) (fun c _ => 32 - (intOf c).toNat)
        case atStart => exact ⟨0, rfl, Nat.zero_le _, RX.out, LX.out, BX.out⟩
        case round =>
          obtain ⟨j, rfl, hj, hR, hL, hB⟩ := hrel
          have R2 := Lib.hid hR
          have B2 := Lib.hid hB
          have L2 := Lib.hid hL
          clear hR hB hL RX LX BX
          by_cases hjl : j < 32
          · go_wp2_with fail
            refine (get_any P j ng _ R2.out).mono ?_
            rintro e w3 ⟨he, hO⟩
            rw [show getP ng j = ng j by unfold getP; rw [idk_in hjl]; rfl] at he
            have GK := Lib.hid (VN.out.one j hjl)
            have MT := Lib.hid (fun h => may_taken (g := ng) hjl h)
            have AT := Lib.hid (fun h => at_taken VN.out hjl h)
            obtain ⟨x, hx⟩ : ∃ x, x = ng j := ⟨_, rfl⟩
            rw [← hx] at he GK MT AT
            clear hx
            have R3 := Lib.hid (R2.out.kept hO (by simp))
            have L3 := Lib.hid (L2.out.kept hO (by simp))
            have B3 := Lib.hid (B2.out.trans (hO.below (B := w.heap.size) B2.out.size (by simp)))
            clear hO R2 L2 B2
            obtain ⟨xs, xo, xf, xt, xp, xw⟩ := x
            replace he : e = .returned (.agg #[.int .i64 xs, .int .i64 xo, .int .i64 xf, .int .i64 xt, .int .i64 xp, .bool xw]) := he
            subst he
            have oA := Only.alloc [] w3 (.cells #[.int .i64 xs, .int .i64 xo, .int .i64 xf, .int .i64 xt, .int .i64 xp, .bool xw] 37)
            have R4 := Lib.hid (R3.out.kept oA (by simp))
            have L4 := Lib.hid (L3.out.kept oA (by simp))
            have B4 := Lib.hid (B3.out.trans (oA.below (B := w.heap.size) B3.out.size (by simp)))
            have X4 := Lib.hid (Bx6.new w3 (xs, xo, xf, xt, xp, xw) 37 rfl)
            clear oA R3 L3 B3
            rcases GK.out.st with hs | hs | hs
            · obtain rfl : xs = 0 := hs
              have hg0 := GK.out.free rfl
              simp only [gz, Prod.mk.injEq] at hg0
              obtain ⟨_, rfl, rfl, rfl, rfl, rfl⟩ := hg0
              have eE : ∀ w, (binOp .neq 37 (.agg #[.int .i64 0, .int .i64 0, .int .i64 0, .int .i64 0, .int .i64 0, .bool false]) (.agg #[.int .i64 0, .int .i64 0, .int .i64 0, .int .i64 0, .int .i64 0, .bool false])).run Try.prog w = .ok (.bool false) w := fun w => by
                have h := neqG gz gz w
                rw [decide_eq_true rfl] at h
                exact h
              clear AT MT GK X4
              go_wp2_with fail
              go_roundw
              case rel => exact ⟨j + 1, by simp, by omega, R4.out, L4.out, B4.out⟩
              case measure => simp only [intOf, Int.toNat_natCast]; omega
            · obtain rfl : xs = 1 := hs
              obtain rfl : xp = 0 := GK.out.off rfl
              obtain ⟨g1, g2, g3, _⟩ := GK.out.ow (by show (1 : Int) ≠ 0; decide)
              have g1 := gst_iff.1 g1
              have g2 := gst_iff.1 g2
              simp only [own, too] at g1 g2 g3
              have y1 : (xo == xt) = false := by simpa using g3
              have y2 : decide (xo < 2) = false := decide_eq_false (by omega)
              have y3 : decide (9 < xt) = false := decide_eq_false (by omega)
              clear AT MT GK X4 g1 g2 g3
              go_wp2_with fail
              go_roundw
              case rel => exact ⟨j + 1, by simp, by omega, R4.out, L4.out, B4.out⟩
              case measure => simp only [intOf, Int.toNat_natCast]; omega
            · obtain rfl : xs = 2 := hs
              obtain ⟨g1, g2, g3, _⟩ := GK.out.ow (by show (2 : Int) ≠ 0; decide)
              have g1 := gst_iff.1 g1
              have g2 := gst_iff.1 g2
              simp only [own, too] at g1 g2 g3
              have y1 : (xo == xt) = false := by simpa using g3
              have y2 : decide (xo < 2) = false := decide_eq_false (by omega)
              have y3 : decide (9 < xt) = false := decide_eq_false (by omega)
              have M1 := Lib.hid (MT.out rfl)
              have A1 := Lib.hid (AT.out rfl)
              clear AT MT GK g1 g2 g3
              go_wp2_with fail
              have X4' : Bx6 (w3.alloc (.cells #[.int .i64 2, .int .i64 xo, .int .i64 xf, .int .i64 xt, .int .i64 xp, .bool xw] 37)) w3.heap.size (2, xo, xf, xt, xp, xw) := X4.out
              have X4'' := Lib.hid X4'
              clear X4 X4'
              generalize w3.alloc (.cells #[.int .i64 2, .int .i64 xo, .int .i64 xf, .int .i64 xt, .int .i64 xp, .bool xw] 37) = w4 at *
              have C1 := may_any P xt xf xw ng _ R4.out
              rw [show mayP ng xt xf xw = true from M1.out] at C1
              refine C1.mono ?_
              clear C1
              rintro e w5 ⟨rfl, hO⟩
              have X5 := X4''.out.kept hO (by simp)
              have R5 := Lib.hid (R4.out.kept hO (by simp))
              have L5 := Lib.hid (L4.out.kept hO (by simp))
              have B5 := Lib.hid (B4.out.trans (hO.below (B := w.heap.size) B4.out.size (by simp)))
              have l5 := X5.lt
              have c3 := X5.c 3 (by omega)
              have c4 := X5.c 4 (by omega)
              simp only [gC] at c3 c4
              clear hO R4 L4 B4 X4'' X5
              go_wp2_with fail
              have C1 := at_any P xt xp ng _ R5.out
              rw [show atP ng xt xp = (j : Int) from A1.out] at C1
              refine C1.mono ?_
              clear C1
              rintro e w6 ⟨rfl, hO⟩
              have R4 := Lib.hid (R5.out.kept hO (by simp))
              have L4 := Lib.hid (L5.out.kept hO (by simp))
              have B4 := Lib.hid (B5.out.trans (hO.below (B := w.heap.size) B5.out.size (by simp)))
              clear hO R5 L5 B5 c3 c4
              go_wp2_with fail
              go_roundw
              case rel => exact ⟨j + 1, by simp, by omega, R4.out, L4.out, B4.out⟩
              case measure => simp only [intOf, Int.toNat_natCast]; omega
          · obtain rfl : j = 32 := by omega
            have e0 := L2.out.cell 0
            have e1 := L2.out.cell 1
            simp only [List.getElem?_cons_zero, List.getElem?_cons_succ] at e0 e1
            have ll := L2.out.lt
            by_cases h4 : k = 4
            · subst h4
              have MG := Lib.hid (fun f => (show mayP ng o f false = false by rw [HNG.out rfl]; exact may_gone o f))
              clear HNG
              go_wp2_with fail
              go_loopw [8] (fun c wq => ∃ m : Nat, c = .int .i64 m ∧ m ≤ 12 ∧ Row6 wq P ng ∧ Lay wq cb 30 [.int .i64 4, .int .i64 o, .int .i64 n, .int .i64 f, .int .i64 t, .bool v] ∧ Below w.heap.size w wq) (fun c _ => 12 - (intOf c).toNat)
              case atStart => exact ⟨0, rfl, Nat.zero_le _, R2.out, L2.out, B2.out⟩
              case round =>
                obtain ⟨m, rfl, hm, hR, hL, hB⟩ := hrel
                have R3 := Lib.hid hR
                have B3 := Lib.hid hB
                have L3 := Lib.hid hL
                clear hR hB hL R2 L2 B2 e0 e1 ll
                have e0 := L3.out.cell 0
                have e1 := L3.out.cell 1
                simp only [List.getElem?_cons_zero, List.getElem?_cons_succ] at e0 e1
                have ll := L3.out.lt
                by_cases hml : m < 12
                · go_wp2_with fail
                  have C1 := may_any P o m false ng _ R3.out
                  rw [MG.out] at C1
                  refine C1.mono ?_
                  clear C1
                  rintro e w5 ⟨rfl, hO⟩
                  have R5 := Lib.hid (R3.out.kept hO (by simp))
                  have L5 := Lib.hid (L3.out.kept hO (by simp))
                  have B5 := Lib.hid (B3.out.trans (hO.below (B := w.heap.size) B3.out.size (by simp)))
                  clear hO R3 L3 B3 e0 e1 ll
                  go_wp2_with fail
                  go_roundw
                  case rel => first | exact ⟨m + 1, by simp, by omega, R5.out, L5.out, B5.out⟩ | ((repeat apply Exists.intro); exact ⟨⟨m + 1, by simp, by omega, R5.out, L5.out, B5.out⟩, rfl⟩)
                  case measure => simp [intOf]; omega
                · obtain rfl : m = 12 := by omega
                  go_wp2_with fail
                  go_roundw
                  case rel => exact ⟨i + 1, _, by simp, by omega, VN.out, R3.out, B3.out⟩
                  case measure => simp only [intOf, Int.toNat_natCast]; omega
            · have d4 : (k == 4) = false := by simpa using h4
              clear HNG h4
              go_wp2_with fail
              go_roundw
              case rel => exact ⟨i + 1, _, by simp, by omega, VN.out, R2.out, B2.out⟩
              case measure => simp only [intOf, Int.toNat_natCast]; omega
    · obtain rfl : i = len := by omega
      clear hB HX
      go_wp2_with fail
      go_ret
      exact ⟨rfl, BR.out⟩
set_option maxRecDepth 100000 in
theorem lifted (os : Os) (started : os.Started) (H : Type) (enc : TypeId × Value → H) :
    ReturnsInHanded {} Try.checked os 4 .any (Rows.grantMaySpec.pre6 enc Try.prog Try.f4 Rows.grantMayRow.domain false) (Rows.grantMaySpec.post enc Try.prog Try.f4 false true false false) := by
  refine returnsInHanded_of_change_sized (C := Try.checked) ownK started (by kernel_rfl) Try.func4
    (ChangeSpec.witness6 (enc := enc) (C := Try.checked) false ⟨#[], #[.slice none 0 0], []⟩ 8 (by kernel_rfl) (by kernel_rfl) (by kernel_rfl) (by kernel_rfl)) ?_
  intro W base args ds gs before hval0 hW hcnd hZ0 _
  have hval : ∀ (j : Nat) t v, Try.f4.params[j]? = some t → args[j]? = some v → Value.okWide Try.prog W .any base t v := hval0
  have hZ : ∀ n ∈ DataW.weightsEach Try.prog (Try.f4.params.toList ++ []) (ds ++ gs), n ≤ reachBytes := fun n hn => of_decide_eq_true (List.all_eq_true.1 hZ0 n hn)
  have hW' := hW
  obtain ⟨p, q, hA0, hV, rfl, hfz, hnd⟩ := hW
  have hA : DataW.TrodAll enc Try.prog W 0 (fun _ => true) true Try.f4.params.toList args.toList ds p := hA0
  rw [Try.params4] at hA hval hZ
  obtain ⟨v0, vs0, d0, ds0, p0, q0, hargs, rfl, rfl, h0, r0⟩ := trodAll_cons hA
  obtain ⟨rfl, rfl, rfl⟩ := trodAll_nil r0
  obtain rfl : args = #[v0] := by cases args; simp_all
  obtain ⟨rfl, rfl⟩ := trodVars_none hV
  have k0 := h0
  have hz0 : ∀ n ∈ d0.weights Try.prog 22, n ≤ reachBytes := fun n hn => hZ n (by simp only [List.append_nil, DataW.weightsEach]; exact hn)
  obtain ⟨a0, n0, c0, y0, rfl, m0, lt0, z0⟩ := gcalls_open (hval 0 22 v0 rfl rfl) h0 hz0
  clear hA0 hval0 hZ0
  refine (walk a0 n0 c0 y0 W m0 z0).mono fun e W' ⟨he, ho⟩ => ?_
  subst he
  have bel : Below W.heap.size W W' := ho
  exact ⟨_, rfl, _, _, _, [], _, [], hW', trodAll_mk1 (shut_bool Try.underlying4 _), (trodAll_cons_mk (Below.trod laidOut (by kernel_rfl) (of_decide_eq_true (by kernel_rfl)) k0 bel lt0) trodAll_mk0), rfl, bel.frame _, fun h => by cases h⟩
theorem over : Rows.grantMayRow.holds Try.pinned (OpenSpec.ofChange Rows.grantMaySpec) :=
  OpenClaim.holds_of_wide 4 Try.f4 rfl rfl rfl rfl rfl rfl rfl ⟨rfl, rfl, rfl, rfl, rfl⟩ rfl rfl rfl rfl rfl (by kernel_rfl) Try.func4 (by kernel_rfl)
    (of_decide_eq_true (by kernel_rfl)) (by unfold Func.isWrapper; first | (rw [if_pos (by decide +kernel)]; kernel_rfl) | (rw [if_neg (by decide +kernel)]; exact ⟨rfl, rfl⟩))
    (fun os started H enc _ => lifted os started H enc)
end grantMay
/-- The statement. -/
theorem grantMay_holds : Rows.GrantMaySaid := grantMay.over
#print axioms grantMay_holds
end Go.Proofs.Ytnilcmmilplbgaa
