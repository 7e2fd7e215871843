/-
  GrantCalls: every row of calls is answered as the document says, and every question: for every input true, and the input reads as it did; no condition.
-/
import Derived.Test.YtnilcmmilplbgaaGrTold
import Derived.Test.YtnilcmmilplbgaaGrAlive
import Derived.Deep.RegionHeld3
namespace Go.Proofs.Ytnilcmmilplbgaa
open Go.ChangeShapes Go.WideShapes Go.ChangeAt Go.RowKit Go.Deep
namespace grantCalls
open Gr
open Ph (Only)
theorem may_next (t f : Int) (v : Bool) (g : Nat → GtT) (n : Nat) : (lst (isMay t f v) g (n + 1)).isSome = ((lst (isMay t f v) g n).isSome || isMay t f v (g n)) := lst_next n
set_option maxRecDepth 100000 in
set_option maxHeartbeats 16000000 in
theorem walk (pa : Option Addr) (len cap : Nat) (y : Nat → GCallsT) (d o f : Int) (w : World) (hl : len ≤ cap ∧ cap ≤ maxLen) (hx : GCalls w.heap.size w pa len y) :
    Calls Try.prog 3 #[.slice pa len cap, .int .i64 d, .int .i64 o, .int .i64 f] w fun e w' => e = .returned (.bool true) ∧ Below w.heap.size w w' := by
  have HX := Lib.hid hx
  have hlm : len ≤ maxLen := by omega
  unfold maxLen at hlm
  clear hx hl
  have hzr : ∀ w, (zeroValue 32).run Try.prog w = .ok (.agg #[.int .i64 0, .int .i64 0, .int .i64 0, .int .i64 0, .int .i64 0, .bool false]) w := fun _ => by kernel_rfl
  have hz : ∀ w, (zeroValue 37).run Try.prog w = .ok (.agg #[.int .i64 0, .int .i64 0, .int .i64 0, .int .i64 0, .int .i64 0, .bool false]) w := fun _ => by kernel_rfl
  go_enter Try.func3, Try.ntmps3
  go_wp2_with fail
  refine (alive_any _).mono ?_
  rintro e w0 ⟨rfl, B0⟩
  by_cases g1 : 80 < len
  · have g1' : (80 : Int) < (len : Int) := by omega
    go_wp2
    go_ret
    exact ⟨rfl, B0⟩
  have g60 : len ≤ 80 := by omega
  have g60' : ¬ (80 : Int) < (len : Int) := by omega
  clear g1
  go_wp2_with fail
  refine (new_any w0).mono ?_
  rintro e w1 ⟨rfl, R1, O1⟩
  have B1 := Lib.hid (B0.trans (O1.below B0.size (by simp)))
  obtain ⟨P, hP⟩ : ∃ p, p = w0.heap.size := ⟨_, rfl⟩
  rw [← hP] at R1 ⊢
  have q1 : w.heap.size ≤ P := by have := B0.size; omega
  have z1 := R1.lt
  have R1' := Lib.hid R1
  clear hP B0 O1 R1
  go_wp2_with fail
  refine (rnew_any w1).mono ?_
  rintro e w2 ⟨rfl, Q2, O2⟩
  have B2 := Lib.hid (B1.out.trans (O2.below B1.out.size (by simp)))
  have D2 := Lib.hid (show Both w2 P (w1.heap.size + 1) w1.heap.size (fun _ => gz) from ⟨R1'.out.kept O2 (by simp), Q2, by omega, by omega, gv_new⟩)
  have q2 : w.heap.size ≤ w1.heap.size := B1.out.size
  have q3 : w.heap.size ≤ w1.heap.size + 1 := by omega
  obtain ⟨r, hr⟩ : ∃ r, r = w1.heap.size + 1 := ⟨_, rfl⟩
  obtain ⟨G, hG⟩ : ∃ g, g = w1.heap.size := ⟨_, rfl⟩
  rw [← hr, ← hG] at D2
  rw [← hr]
  rw [← hG] at q2
  rw [← hr] at q3
  clear hr hG B1 O2 Q2 R1' z1
  go_wp2_with fail
  go_loopw [11] (fun c wr => ∃ (i : Nat) (g : Nat → GtT), c = .int .i64 i ∧ i ≤ len ∧ Both wr P r G g ∧ Below w.heap.size w wr) (fun c _ => len - (intOf c).toNat)
  case atStart => exact ⟨0, _, rfl, Nat.zero_le _, D2.out, B2.out⟩
  case round =>
    obtain ⟨i, g, rfl, hi, hD, hB⟩ := hrel
    have DR := Lib.hid hD
    have BR := Lib.hid hB
    clear D2 B2
    by_cases hlt : i < len
    · obtain ⟨b, off, rfl, hbl, hC⟩ := HX.out.at hB hlt
      have c0 := hC.c0
      have c1 := hC.c1
      have c2 := hC.c2
      have c3 := hC.c3
      have c4 := hC.c4
      have c5 := hC.c5
      generalize y i = c at *
      have hi0 : (0 : Int) ≤ (i : Int) := by omega
      have hil : (i : Int) < (len : Int) := by omega
      have hwr := hB.size
      have HI := Lib.hid hi
      clear hC hD hB HX hi
      go_wp2_with fail
      refine (told_any P r G c g _ DR.out).mono ?_
      rintro e w3 ⟨rfl, D3, O3⟩
      have B3 := Lib.hid (BR.out.trans (O3.below (B := w.heap.size) BR.out.size (by simp; omega)))
      have D3' := Lib.hid D3
      clear c0 c1 c2 c3 c4 c5 DR BR O3 D3 hwr
      generalize toldP c g = ng at *
      obtain ⟨⟨zs, zo, zf, zt, zp, zw⟩, hz3⟩ : ∃ z, z = getP ng d := ⟨_, rfl⟩
      have GZ := Lib.hid hz3
      by_cases i0 : d < 0
      · have e0 : decide (0 ≤ d) = false := decide_eq_false (by omega)
        have hx := (show getP ng d = gz by unfold getP; rw [idk_lo i0]; rfl)
        rw [hx] at hz3
        simp only [gz, Prod.mk.injEq] at hz3
        obtain ⟨rfl, rfl, rfl, rfl, rfl, rfl⟩ := hz3
        clear hx
        have oA := Only.alloc [] w3 (.cells #[.int .i64 0, .int .i64 0, .int .i64 0, .int .i64 0, .int .i64 0, .bool false] 32)
        have D4 := Lib.hid (D3'.out.kept oA (by simp) (by simp) (by simp))
        have B4 := Lib.hid (B3.out.trans (oA.below (B := w.heap.size) B3.out.size (by simp)))
        have Z4 := Lib.hid (Bx6.new w3 (0, 0, 0, 0, 0, false) 32 rfl)
        clear oA D3' B3
        go_wp2_with fail
        obtain ⟨zb, hzb⟩ : ∃ q, q = w3.heap.size := ⟨_, rfl⟩
        rw [← hzb] at Z4 ⊢
        clear hzb
        change Hid (Bx6 (w3.alloc (.cells #[.int .i64 0, .int .i64 0, .int .i64 0, .int .i64 0, .int .i64 0, .bool false] 32)) zb (0, 0, 0, 0, 0, false)) at Z4
        generalize w3.alloc (.cells #[.int .i64 0, .int .i64 0, .int .i64 0, .int .i64 0, .int .i64 0, .bool false] 32) = w4 at *
        go_loopw [13, 14, 15] (fun m1 m2 c wq => ∃ k : Nat, c = .int .i64 k ∧ k ≤ 32 ∧ m1 = .bool (lst (isMay o f false) ng k).isSome ∧ m2 = .bool (lst (isMay o f true) ng k).isSome ∧ Both wq P r G ng ∧ Bx6 wq zb (0, 0, 0, 0, 0, false) ∧ Below w.heap.size w wq) (fun _ _ c _ => 32 - (intOf c).toNat)
        case atStart => exact ⟨0, rfl, Nat.zero_le _, rfl, rfl, D4.out, Z4.out, B4.out⟩
        case round =>
          obtain ⟨k, rfl, hk, rfl, rfl, hD, hZ, hB⟩ := hrel
          have D2 := Lib.hid hD
          have Z2 := Lib.hid hZ
          have B2 := Lib.hid hB
          clear hD hZ hB D4 Z4 B4
          by_cases hkl : k < 32
          · have hh := D2.out.q.head
            have y1 := D2.out.q.lt
            have y2 := D2.out.q.row.lt
            have k0 := D2.out.q.row.c0 hkl
            have k1 := D2.out.q.row.c1 hkl
            have k2 := D2.out.q.row.c2 hkl
            have k3 := D2.out.q.row.c3 hkl
            have k4 := D2.out.q.row.c4 hkl
            have k5 := D2.out.q.row.c5 hkl
            have M1 := Lib.hid (may_next o f false ng k)
            have M2 := Lib.hid (may_next o f true ng k)
            have P1 : isMay o f false (ng k) = (sta (ng k) == 2 && too (ng k) == o && frm (ng k) == f && (wri (ng k) || !false)) := rfl
            have P2 : isMay o f true (ng k) = (sta (ng k) == 2 && too (ng k) == o && frm (ng k) == f && (wri (ng k) || !true)) := rfl
            have HM0 := Lib.hid P1
            have HM1 := Lib.hid P2
            clear P1 P2
            obtain ⟨x, hx⟩ : ∃ x, x = ng k := ⟨_, rfl⟩
            rw [← hx] at k0 k1 k2 k3 k4 k5 M1 M2 HM0 HM1
            clear hx
            obtain ⟨xs, xo, xf, xt, xp, xw⟩ := x
            have oA := Only.alloc [] wr (.cells #[.int .i64 xs, .int .i64 xo, .int .i64 xf, .int .i64 xt, .int .i64 xp, .bool xw] 32)
            have D5 := Lib.hid (D2.out.kept oA (by simp) (by simp) (by simp))
            have Z5 := Lib.hid (Z2.out.kept oA (by simp))
            have B5 := Lib.hid (B2.out.trans (oA.below (B := w.heap.size) B2.out.size (by simp)))
            clear oA D2 Z2 B2
            cases d0 : xs == 2 with
            | false =>
              go_wp2_with fail
              go_roundw
              case rel => exact ⟨k + 1, by simp, by omega, by rw [M1.out, HM0.out]; simp [d0], by rw [M2.out, HM1.out]; simp [d0], D5.out, Z5.out, B5.out⟩
              case measure => simp only [intOf, Int.toNat_natCast]; omega
            | true =>
              cases d1 : xt == o with
              | false =>
                go_wp2_with fail
                go_roundw
                case rel => exact ⟨k + 1, by simp, by omega, by rw [M1.out, HM0.out]; simp [d0, d1], by rw [M2.out, HM1.out]; simp [d0, d1], D5.out, Z5.out, B5.out⟩
                case measure => simp only [intOf, Int.toNat_natCast]; omega
              | true =>
                cases d2 : xf == f with
                | false =>
                  go_wp2_with fail
                  go_roundw
                  case rel => exact ⟨k + 1, by simp, by omega, by rw [M1.out, HM0.out]; simp [d0, d1, d2], by rw [M2.out, HM1.out]; simp [d0, d1, d2], D5.out, Z5.out, B5.out⟩
                  case measure => simp only [intOf, Int.toNat_natCast]; omega
                | true =>
                  cases d3 : (lst (isMay o f true) ng k).isSome with
                  | true =>
                    rw [d3] at M2
                    go_wp2_with fail
                    go_roundw
                    case rel => exact ⟨k + 1, by simp, by omega, by rw [M1.out, HM0.out]; simp [d0, d1, d2], by rw [M2.out, HM1.out]; simp [d0, d1, d2], D5.out, Z5.out, B5.out⟩
                    case measure => simp only [intOf, Int.toNat_natCast]; omega
                  | false =>
                    rw [d3] at M2
                    go_wp2_with fail
                    go_roundw
                    case rel => exact ⟨k + 1, by simp, by omega, by rw [M1.out, HM0.out]; simp [d0, d1, d2], by rw [M2.out, HM1.out]; simp [d0, d1, d2], D5.out, Z5.out, B5.out⟩
                    case measure => simp only [intOf, Int.toNat_natCast]; omega
          · obtain rfl : k = 32 := by omega
            have l2 := Z2.out.lt
            have c0 := Z2.out.c 0 (by omega)
            have c1 := Z2.out.c 1 (by omega)
            have c2 := Z2.out.c 2 (by omega)
            have c3 := Z2.out.c 3 (by omega)
            have c4 := Z2.out.c 4 (by omega)
            have c5 := Z2.out.c 5 (by omega)
            simp only [gC] at c0 c1 c2 c3 c4 c5
            have MM0 := Lib.hid (show mayP ng o f false = (lst (isMay o f false) ng 32).isSome from rfl)
            have MM1 := Lib.hid (show mayP ng o f true = (lst (isMay o f true) ng 32).isSome from rfl)
            generalize (lst (isMay o f false) ng 32).isSome = mf at *
            generalize (lst (isMay o f true) ng 32).isSome = mt at *
            have hd := Only.drewN [] wr 1
            have DD : Hid (Both wr.drew P r G ng) := Lib.hid (D2.out.kept hd (by simp) (by simp) (by simp))
            have BD : Hid (Below w.heap.size w wr.drew) := Lib.hid (B2.out.trans (hd.below (B := w.heap.size) B2.out.size (by simp)))
            have l3 : zb < wr.drew.heap.size := l2
            have HS := Lib.hid (fun (w' : World) (h : Only [] wr.drew w') => (show w'.cell? ⟨zb, 0, none⟩ = some (.int .i64 0) ∧ w'.cell? ⟨zb, 1, none⟩ = some (.int .i64 0) ∧ w'.cell? ⟨zb, 2, none⟩ = some (.int .i64 0) ∧ w'.cell? ⟨zb, 3, none⟩ = some (.int .i64 0) ∧ w'.cell? ⟨zb, 4, none⟩ = some (.int .i64 0) ∧ w'.cell? ⟨zb, 5, none⟩ = some (.bool false) from ⟨(h.cell l3 (by simp) _).trans c0, (h.cell l3 (by simp) _).trans c1, (h.cell l3 (by simp) _).trans c2, (h.cell l3 (by simp) _).trans c3, (h.cell l3 (by simp) _).trans c4, (h.cell l3 (by simp) _).trans c5⟩))
            have hA : Only [] wr.drew wr.drew := Only.refl _ _
            have eE : ∀ w, (binOp .neq 32 (.agg #[.int .i64 0, .int .i64 0, .int .i64 0, .int .i64 0, .int .i64 0, .bool false]) (.agg #[.int .i64 0, .int .i64 0, .int .i64 0, .int .i64 0, .int .i64 0, .bool false])).run Try.prog w = .ok (.bool false) w := fun w => by
              have h := neqR (0, 0, 0, 0, 0, false) (0, 0, 0, 0, 0, false) w
              rw [decide_eq_true rfl] at h
              exact h
            have AQ := Lib.hid (show atP ng o f = atP ng o f from rfl)
            go_wp2_with fail
            clear c0 c1 c2 c3 c4 c5 l2 hd
            go_region_held3 (fun w' => w'.cell? ⟨zb, 0, none⟩ = some (.int .i64 0) ∧ w'.cell? ⟨zb, 1, none⟩ = some (.int .i64 0) ∧ w'.cell? ⟨zb, 2, none⟩ = some (.int .i64 0) ∧ w'.cell? ⟨zb, 3, none⟩ = some (.int .i64 0) ∧ w'.cell? ⟨zb, 4, none⟩ = some (.int .i64 0) ∧ w'.cell? ⟨zb, 5, none⟩ = some (.bool false)) (exact HS.out _ hA) (first
              | (go_at_call 13; refine (get_any P d ng _ (DD.out.p.kept hA (by simp))).mono ?_; rintro e wx ⟨he, hO⟩; rw [← GZ.out] at he; replace he : e = .returned (.agg #[.int .i64 0, .int .i64 0, .int .i64 0, .int .i64 0, .int .i64 0, .bool false]) := he; subst he; replace hA := hA.trans hO)
              | (go_at_call 12; refine (of_any (0, 0, 0, 0, 0, false) _).mono ?_; rintro e wx ⟨he, hO⟩; replace he : e = .returned (.agg #[.int .i64 0, .int .i64 0, .int .i64 0, .int .i64 0, .int .i64 0, .bool false]) := he; subst he; replace hA := hA.trans hO)
              | (go_at_call 14; with_reducible refine (may_any P o f false ng _ (DD.out.p.kept hA (by simp))).mono ?_; rintro e wx ⟨he, hO⟩; rw [MM0.out] at he; subst he; replace hA := hA.trans hO)
              | (go_at_call 14; with_reducible refine (may_any P o f true ng _ (DD.out.p.kept hA (by simp))).mono ?_; rintro e wx ⟨he, hO⟩; rw [MM1.out] at he; subst he; replace hA := hA.trans hO)
              | (go_at_call 15; refine (at_any P o f ng _ (DD.out.p.kept hA (by simp))).mono ?_; rintro e wx ⟨rfl, hO⟩; replace hA := hA.trans hO)
              | (go_at_call 16; refine (rat_any r G o f ng _ (DD.out.q.kept hA (by simp) (by simp))).mono ?_; rintro e wx ⟨rfl, rfl⟩))
            all_goals
              go_wp2_with fail
              go_roundw
              case rel => exact ⟨i + 1, ng, by simp, by have := HI.out; omega, DD.out.kept hA (by simp) (by simp) (by simp), BD.out.trans (hA.below (B := w.heap.size) BD.out.size (by simp))⟩
              case measure => simp only [intOf, Int.toNat_natCast]; omega
      by_cases i1 : 32 ≤ d
      · have e0 : decide (0 ≤ d) = true := decide_eq_true (by omega)
        have e1 : decide (d < 32) = false := decide_eq_false (by omega)
        have hx := (show getP ng d = gz by unfold getP; rw [idk_hi i1]; rfl)
        rw [hx] at hz3
        simp only [gz, Prod.mk.injEq] at hz3
        obtain ⟨rfl, rfl, rfl, rfl, rfl, rfl⟩ := hz3
        clear hx
        have oA := Only.alloc [] w3 (.cells #[.int .i64 0, .int .i64 0, .int .i64 0, .int .i64 0, .int .i64 0, .bool false] 32)
        have D4 := Lib.hid (D3'.out.kept oA (by simp) (by simp) (by simp))
        have B4 := Lib.hid (B3.out.trans (oA.below (B := w.heap.size) B3.out.size (by simp)))
        have Z4 := Lib.hid (Bx6.new w3 (0, 0, 0, 0, 0, false) 32 rfl)
        clear oA D3' B3
        go_wp2_with fail
        obtain ⟨zb, hzb⟩ : ∃ q, q = w3.heap.size := ⟨_, rfl⟩
        rw [← hzb] at Z4 ⊢
        clear hzb
        change Hid (Bx6 (w3.alloc (.cells #[.int .i64 0, .int .i64 0, .int .i64 0, .int .i64 0, .int .i64 0, .bool false] 32)) zb (0, 0, 0, 0, 0, false)) at Z4
        generalize w3.alloc (.cells #[.int .i64 0, .int .i64 0, .int .i64 0, .int .i64 0, .int .i64 0, .bool false] 32) = w4 at *
        go_loopw [13, 14, 15] (fun m1 m2 c wq => ∃ k : Nat, c = .int .i64 k ∧ k ≤ 32 ∧ m1 = .bool (lst (isMay o f false) ng k).isSome ∧ m2 = .bool (lst (isMay o f true) ng k).isSome ∧ Both wq P r G ng ∧ Bx6 wq zb (0, 0, 0, 0, 0, false) ∧ Below w.heap.size w wq) (fun _ _ c _ => 32 - (intOf c).toNat)
        case atStart => exact ⟨0, rfl, Nat.zero_le _, rfl, rfl, D4.out, Z4.out, B4.out⟩
        case round =>
          obtain ⟨k, rfl, hk, rfl, rfl, hD, hZ, hB⟩ := hrel
          have D2 := Lib.hid hD
          have Z2 := Lib.hid hZ
          have B2 := Lib.hid hB
          clear hD hZ hB D4 Z4 B4
          by_cases hkl : k < 32
          · have hh := D2.out.q.head
            have y1 := D2.out.q.lt
            have y2 := D2.out.q.row.lt
            have k0 := D2.out.q.row.c0 hkl
            have k1 := D2.out.q.row.c1 hkl
            have k2 := D2.out.q.row.c2 hkl
            have k3 := D2.out.q.row.c3 hkl
            have k4 := D2.out.q.row.c4 hkl
            have k5 := D2.out.q.row.c5 hkl
            have M1 := Lib.hid (may_next o f false ng k)
            have M2 := Lib.hid (may_next o f true ng k)
            have P1 : isMay o f false (ng k) = (sta (ng k) == 2 && too (ng k) == o && frm (ng k) == f && (wri (ng k) || !false)) := rfl
            have P2 : isMay o f true (ng k) = (sta (ng k) == 2 && too (ng k) == o && frm (ng k) == f && (wri (ng k) || !true)) := rfl
            have HM0 := Lib.hid P1
            have HM1 := Lib.hid P2
            clear P1 P2
            obtain ⟨x, hx⟩ : ∃ x, x = ng k := ⟨_, rfl⟩
            rw [← hx] at k0 k1 k2 k3 k4 k5 M1 M2 HM0 HM1
            clear hx
            obtain ⟨xs, xo, xf, xt, xp, xw⟩ := x
            have oA := Only.alloc [] wr (.cells #[.int .i64 xs, .int .i64 xo, .int .i64 xf, .int .i64 xt, .int .i64 xp, .bool xw] 32)
            have D5 := Lib.hid (D2.out.kept oA (by simp) (by simp) (by simp))
            have Z5 := Lib.hid (Z2.out.kept oA (by simp))
            have B5 := Lib.hid (B2.out.trans (oA.below (B := w.heap.size) B2.out.size (by simp)))
            clear oA D2 Z2 B2
            cases d0 : xs == 2 with
            | false =>
              go_wp2_with fail
              go_roundw
              case rel => exact ⟨k + 1, by simp, by omega, by rw [M1.out, HM0.out]; simp [d0], by rw [M2.out, HM1.out]; simp [d0], D5.out, Z5.out, B5.out⟩
              case measure => simp only [intOf, Int.toNat_natCast]; omega
            | true =>
              cases d1 : xt == o with
              | false =>
                go_wp2_with fail
                go_roundw
                case rel => exact ⟨k + 1, by simp, by omega, by rw [M1.out, HM0.out]; simp [d0, d1], by rw [M2.out, HM1.out]; simp [d0, d1], D5.out, Z5.out, B5.out⟩
                case measure => simp only [intOf, Int.toNat_natCast]; omega
              | true =>
                cases d2 : xf == f with
                | false =>
                  go_wp2_with fail
                  go_roundw
                  case rel => exact ⟨k + 1, by simp, by omega, by rw [M1.out, HM0.out]; simp [d0, d1, d2], by rw [M2.out, HM1.out]; simp [d0, d1, d2], D5.out, Z5.out, B5.out⟩
                  case measure => simp only [intOf, Int.toNat_natCast]; omega
                | true =>
                  cases d3 : (lst (isMay o f true) ng k).isSome with
                  | true =>
                    rw [d3] at M2
                    go_wp2_with fail
                    go_roundw
                    case rel => exact ⟨k + 1, by simp, by omega, by rw [M1.out, HM0.out]; simp [d0, d1, d2], by rw [M2.out, HM1.out]; simp [d0, d1, d2], D5.out, Z5.out, B5.out⟩
                    case measure => simp only [intOf, Int.toNat_natCast]; omega
                  | false =>
                    rw [d3] at M2
                    go_wp2_with fail
                    go_roundw
                    case rel => exact ⟨k + 1, by simp, by omega, by rw [M1.out, HM0.out]; simp [d0, d1, d2], by rw [M2.out, HM1.out]; simp [d0, d1, d2], D5.out, Z5.out, B5.out⟩
                    case measure => simp only [intOf, Int.toNat_natCast]; omega
          · obtain rfl : k = 32 := by omega
            have l2 := Z2.out.lt
            have c0 := Z2.out.c 0 (by omega)
            have c1 := Z2.out.c 1 (by omega)
            have c2 := Z2.out.c 2 (by omega)
            have c3 := Z2.out.c 3 (by omega)
            have c4 := Z2.out.c 4 (by omega)
            have c5 := Z2.out.c 5 (by omega)
            simp only [gC] at c0 c1 c2 c3 c4 c5
            have MM0 := Lib.hid (show mayP ng o f false = (lst (isMay o f false) ng 32).isSome from rfl)
            have MM1 := Lib.hid (show mayP ng o f true = (lst (isMay o f true) ng 32).isSome from rfl)
            generalize (lst (isMay o f false) ng 32).isSome = mf at *
            generalize (lst (isMay o f true) ng 32).isSome = mt at *
            have hd := Only.drewN [] wr 1
            have DD : Hid (Both wr.drew P r G ng) := Lib.hid (D2.out.kept hd (by simp) (by simp) (by simp))
            have BD : Hid (Below w.heap.size w wr.drew) := Lib.hid (B2.out.trans (hd.below (B := w.heap.size) B2.out.size (by simp)))
            have l3 : zb < wr.drew.heap.size := l2
            have HS := Lib.hid (fun (w' : World) (h : Only [] wr.drew w') => (show w'.cell? ⟨zb, 0, none⟩ = some (.int .i64 0) ∧ w'.cell? ⟨zb, 1, none⟩ = some (.int .i64 0) ∧ w'.cell? ⟨zb, 2, none⟩ = some (.int .i64 0) ∧ w'.cell? ⟨zb, 3, none⟩ = some (.int .i64 0) ∧ w'.cell? ⟨zb, 4, none⟩ = some (.int .i64 0) ∧ w'.cell? ⟨zb, 5, none⟩ = some (.bool false) from ⟨(h.cell l3 (by simp) _).trans c0, (h.cell l3 (by simp) _).trans c1, (h.cell l3 (by simp) _).trans c2, (h.cell l3 (by simp) _).trans c3, (h.cell l3 (by simp) _).trans c4, (h.cell l3 (by simp) _).trans c5⟩))
            have hA : Only [] wr.drew wr.drew := Only.refl _ _
            have eE : ∀ w, (binOp .neq 32 (.agg #[.int .i64 0, .int .i64 0, .int .i64 0, .int .i64 0, .int .i64 0, .bool false]) (.agg #[.int .i64 0, .int .i64 0, .int .i64 0, .int .i64 0, .int .i64 0, .bool false])).run Try.prog w = .ok (.bool false) w := fun w => by
              have h := neqR (0, 0, 0, 0, 0, false) (0, 0, 0, 0, 0, false) w
              rw [decide_eq_true rfl] at h
              exact h
            have AQ := Lib.hid (show atP ng o f = atP ng o f from rfl)
            go_wp2_with fail
            clear c0 c1 c2 c3 c4 c5 l2 hd
            go_region_held3 (fun w' => w'.cell? ⟨zb, 0, none⟩ = some (.int .i64 0) ∧ w'.cell? ⟨zb, 1, none⟩ = some (.int .i64 0) ∧ w'.cell? ⟨zb, 2, none⟩ = some (.int .i64 0) ∧ w'.cell? ⟨zb, 3, none⟩ = some (.int .i64 0) ∧ w'.cell? ⟨zb, 4, none⟩ = some (.int .i64 0) ∧ w'.cell? ⟨zb, 5, none⟩ = some (.bool false)) (exact HS.out _ hA) (first
              | (go_at_call 13; refine (get_any P d ng _ (DD.out.p.kept hA (by simp))).mono ?_; rintro e wx ⟨he, hO⟩; rw [← GZ.out] at he; replace he : e = .returned (.agg #[.int .i64 0, .int .i64 0, .int .i64 0, .int .i64 0, .int .i64 0, .bool false]) := he; subst he; replace hA := hA.trans hO)
              | (go_at_call 12; refine (of_any (0, 0, 0, 0, 0, false) _).mono ?_; rintro e wx ⟨he, hO⟩; replace he : e = .returned (.agg #[.int .i64 0, .int .i64 0, .int .i64 0, .int .i64 0, .int .i64 0, .bool false]) := he; subst he; replace hA := hA.trans hO)
              | (go_at_call 14; with_reducible refine (may_any P o f false ng _ (DD.out.p.kept hA (by simp))).mono ?_; rintro e wx ⟨he, hO⟩; rw [MM0.out] at he; subst he; replace hA := hA.trans hO)
              | (go_at_call 14; with_reducible refine (may_any P o f true ng _ (DD.out.p.kept hA (by simp))).mono ?_; rintro e wx ⟨he, hO⟩; rw [MM1.out] at he; subst he; replace hA := hA.trans hO)
              | (go_at_call 15; refine (at_any P o f ng _ (DD.out.p.kept hA (by simp))).mono ?_; rintro e wx ⟨rfl, hO⟩; replace hA := hA.trans hO)
              | (go_at_call 16; refine (rat_any r G o f ng _ (DD.out.q.kept hA (by simp) (by simp))).mono ?_; rintro e wx ⟨rfl, rfl⟩))
            all_goals
              go_wp2_with fail
              go_roundw
              case rel => exact ⟨i + 1, ng, by simp, by have := HI.out; omega, DD.out.kept hA (by simp) (by simp) (by simp), BD.out.trans (hA.below (B := w.heap.size) BD.out.size (by simp))⟩
              case measure => simp only [intOf, Int.toNat_natCast]; omega
      · obtain ⟨dn, rfl⟩ := Int.eq_ofNat_of_zero_le (show 0 ≤ d by omega)
        have hdn : dn < 32 := by omega
        have hdi : (dn : Int) < 32 := by omega
        have hx := (show getP ng dn = ng dn by unfold getP; rw [idk_in hdn]; rfl)
        rw [hx] at hz3
        clear hx i0 i1
        have hh := D3'.out.q.head
        have y1 := D3'.out.q.lt
        have y2 := D3'.out.q.row.lt
        have k0 := D3'.out.q.row.c0 hdn
        have k1 := D3'.out.q.row.c1 hdn
        have k2 := D3'.out.q.row.c2 hdn
        have k3 := D3'.out.q.row.c3 hdn
        have k4 := D3'.out.q.row.c4 hdn
        have k5 := D3'.out.q.row.c5 hdn
        rw [← hz3] at k0 k1 k2 k3 k4 k5
        clear hz3
        have oA := Only.alloc [] w3 (.cells #[.int .i64 zs, .int .i64 zo, .int .i64 zf, .int .i64 zt, .int .i64 zp, .bool zw] 32)
        have D4 := Lib.hid (D3'.out.kept oA (by simp) (by simp) (by simp))
        have B4 := Lib.hid (B3.out.trans (oA.below (B := w.heap.size) B3.out.size (by simp)))
        have Z4 := Lib.hid (Bx6.new w3 (zs, zo, zf, zt, zp, zw) 32 rfl)
        clear oA D3' B3
        go_wp2_with fail
        clear hh y1 y2 k0 k1 k2 k3 k4 k5
        obtain ⟨zb, hzb⟩ : ∃ q, q = w3.heap.size := ⟨_, rfl⟩
        rw [← hzb] at Z4 ⊢
        clear hzb
        change Hid (Bx6 (w3.alloc (.cells #[.int .i64 zs, .int .i64 zo, .int .i64 zf, .int .i64 zt, .int .i64 zp, .bool zw] 32)) zb (zs, zo, zf, zt, zp, zw)) at Z4
        generalize w3.alloc (.cells #[.int .i64 zs, .int .i64 zo, .int .i64 zf, .int .i64 zt, .int .i64 zp, .bool zw] 32) = w4 at *
        go_loopw [13, 14, 15] (fun m1 m2 c wq => ∃ k : Nat, c = .int .i64 k ∧ k ≤ 32 ∧ m1 = .bool (lst (isMay o f false) ng k).isSome ∧ m2 = .bool (lst (isMay o f true) ng k).isSome ∧ Both wq P r G ng ∧ Bx6 wq zb (zs, zo, zf, zt, zp, zw) ∧ Below w.heap.size w wq) (fun _ _ c _ => 32 - (intOf c).toNat)
        case atStart => exact ⟨0, rfl, Nat.zero_le _, rfl, rfl, D4.out, Z4.out, B4.out⟩
        case round =>
          obtain ⟨k, rfl, hk, rfl, rfl, hD, hZ, hB⟩ := hrel
          have D2 := Lib.hid hD
          have Z2 := Lib.hid hZ
          have B2 := Lib.hid hB
          clear hD hZ hB D4 Z4 B4
          by_cases hkl : k < 32
          · have hh := D2.out.q.head
            have y1 := D2.out.q.lt
            have y2 := D2.out.q.row.lt
            have k0 := D2.out.q.row.c0 hkl
            have k1 := D2.out.q.row.c1 hkl
            have k2 := D2.out.q.row.c2 hkl
            have k3 := D2.out.q.row.c3 hkl
            have k4 := D2.out.q.row.c4 hkl
            have k5 := D2.out.q.row.c5 hkl
            have M1 := Lib.hid (may_next o f false ng k)
            have M2 := Lib.hid (may_next o f true ng k)
            have P1 : isMay o f false (ng k) = (sta (ng k) == 2 && too (ng k) == o && frm (ng k) == f && (wri (ng k) || !false)) := rfl
            have P2 : isMay o f true (ng k) = (sta (ng k) == 2 && too (ng k) == o && frm (ng k) == f && (wri (ng k) || !true)) := rfl
            have HM0 := Lib.hid P1
            have HM1 := Lib.hid P2
            clear P1 P2
            obtain ⟨x, hx⟩ : ∃ x, x = ng k := ⟨_, rfl⟩
            rw [← hx] at k0 k1 k2 k3 k4 k5 M1 M2 HM0 HM1
            clear hx
            obtain ⟨xs, xo, xf, xt, xp, xw⟩ := x
            have oA := Only.alloc [] wr (.cells #[.int .i64 xs, .int .i64 xo, .int .i64 xf, .int .i64 xt, .int .i64 xp, .bool xw] 32)
            have D5 := Lib.hid (D2.out.kept oA (by simp) (by simp) (by simp))
            have Z5 := Lib.hid (Z2.out.kept oA (by simp))
            have B5 := Lib.hid (B2.out.trans (oA.below (B := w.heap.size) B2.out.size (by simp)))
            clear oA D2 Z2 B2
            cases d0 : xs == 2 with
            | false =>
              go_wp2_with fail
              go_roundw
              case rel => exact ⟨k + 1, by simp, by omega, by rw [M1.out, HM0.out]; simp [d0], by rw [M2.out, HM1.out]; simp [d0], D5.out, Z5.out, B5.out⟩
              case measure => simp only [intOf, Int.toNat_natCast]; omega
            | true =>
              cases d1 : xt == o with
              | false =>
                go_wp2_with fail
                go_roundw
                case rel => exact ⟨k + 1, by simp, by omega, by rw [M1.out, HM0.out]; simp [d0, d1], by rw [M2.out, HM1.out]; simp [d0, d1], D5.out, Z5.out, B5.out⟩
                case measure => simp only [intOf, Int.toNat_natCast]; omega
              | true =>
                cases d2 : xf == f with
                | false =>
                  go_wp2_with fail
                  go_roundw
                  case rel => exact ⟨k + 1, by simp, by omega, by rw [M1.out, HM0.out]; simp [d0, d1, d2], by rw [M2.out, HM1.out]; simp [d0, d1, d2], D5.out, Z5.out, B5.out⟩
                  case measure => simp only [intOf, Int.toNat_natCast]; omega
                | true =>
                  cases d3 : (lst (isMay o f true) ng k).isSome with
                  | true =>
                    rw [d3] at M2
                    go_wp2_with fail
                    go_roundw
                    case rel => exact ⟨k + 1, by simp, by omega, by rw [M1.out, HM0.out]; simp [d0, d1, d2], by rw [M2.out, HM1.out]; simp [d0, d1, d2], D5.out, Z5.out, B5.out⟩
                    case measure => simp only [intOf, Int.toNat_natCast]; omega
                  | false =>
                    rw [d3] at M2
                    go_wp2_with fail
                    go_roundw
                    case rel => exact ⟨k + 1, by simp, by omega, by rw [M1.out, HM0.out]; simp [d0, d1, d2], by rw [M2.out, HM1.out]; simp [d0, d1, d2], D5.out, Z5.out, B5.out⟩
                    case measure => simp only [intOf, Int.toNat_natCast]; omega
          · obtain rfl : k = 32 := by omega
            have l2 := Z2.out.lt
            have c0 := Z2.out.c 0 (by omega)
            have c1 := Z2.out.c 1 (by omega)
            have c2 := Z2.out.c 2 (by omega)
            have c3 := Z2.out.c 3 (by omega)
            have c4 := Z2.out.c 4 (by omega)
            have c5 := Z2.out.c 5 (by omega)
            simp only [gC] at c0 c1 c2 c3 c4 c5
            have MM0 := Lib.hid (show mayP ng o f false = (lst (isMay o f false) ng 32).isSome from rfl)
            have MM1 := Lib.hid (show mayP ng o f true = (lst (isMay o f true) ng 32).isSome from rfl)
            generalize (lst (isMay o f false) ng 32).isSome = mf at *
            generalize (lst (isMay o f true) ng 32).isSome = mt at *
            have hd := Only.drewN [] wr 1
            have DD : Hid (Both wr.drew P r G ng) := Lib.hid (D2.out.kept hd (by simp) (by simp) (by simp))
            have BD : Hid (Below w.heap.size w wr.drew) := Lib.hid (B2.out.trans (hd.below (B := w.heap.size) B2.out.size (by simp)))
            have l3 : zb < wr.drew.heap.size := l2
            have HS := Lib.hid (fun (w' : World) (h : Only [] wr.drew w') => (show w'.cell? ⟨zb, 0, none⟩ = some (.int .i64 zs) ∧ w'.cell? ⟨zb, 1, none⟩ = some (.int .i64 zo) ∧ w'.cell? ⟨zb, 2, none⟩ = some (.int .i64 zf) ∧ w'.cell? ⟨zb, 3, none⟩ = some (.int .i64 zt) ∧ w'.cell? ⟨zb, 4, none⟩ = some (.int .i64 zp) ∧ w'.cell? ⟨zb, 5, none⟩ = some (.bool zw) from ⟨(h.cell l3 (by simp) _).trans c0, (h.cell l3 (by simp) _).trans c1, (h.cell l3 (by simp) _).trans c2, (h.cell l3 (by simp) _).trans c3, (h.cell l3 (by simp) _).trans c4, (h.cell l3 (by simp) _).trans c5⟩))
            have hA : Only [] wr.drew wr.drew := Only.refl _ _
            have eE : ∀ w, (binOp .neq 32 (.agg #[.int .i64 zs, .int .i64 zo, .int .i64 zf, .int .i64 zt, .int .i64 zp, .bool zw]) (.agg #[.int .i64 zs, .int .i64 zo, .int .i64 zf, .int .i64 zt, .int .i64 zp, .bool zw])).run Try.prog w = .ok (.bool false) w := fun w => by
              have h := neqR (zs, zo, zf, zt, zp, zw) (zs, zo, zf, zt, zp, zw) w
              rw [decide_eq_true rfl] at h
              exact h
            have AQ := Lib.hid (show atP ng o f = atP ng o f from rfl)
            go_wp2_with fail
            clear c0 c1 c2 c3 c4 c5 l2 hd
            go_region_held3 (fun w' => w'.cell? ⟨zb, 0, none⟩ = some (.int .i64 zs) ∧ w'.cell? ⟨zb, 1, none⟩ = some (.int .i64 zo) ∧ w'.cell? ⟨zb, 2, none⟩ = some (.int .i64 zf) ∧ w'.cell? ⟨zb, 3, none⟩ = some (.int .i64 zt) ∧ w'.cell? ⟨zb, 4, none⟩ = some (.int .i64 zp) ∧ w'.cell? ⟨zb, 5, none⟩ = some (.bool zw)) (exact HS.out _ hA) (first
              | (go_at_call 13; refine (get_any P (dn : Int) ng _ (DD.out.p.kept hA (by simp))).mono ?_; rintro e wx ⟨he, hO⟩; rw [← GZ.out] at he; replace he : e = .returned (.agg #[.int .i64 zs, .int .i64 zo, .int .i64 zf, .int .i64 zt, .int .i64 zp, .bool zw]) := he; subst he; replace hA := hA.trans hO)
              | (go_at_call 12; refine (of_any (zs, zo, zf, zt, zp, zw) _).mono ?_; rintro e wx ⟨he, hO⟩; replace he : e = .returned (.agg #[.int .i64 zs, .int .i64 zo, .int .i64 zf, .int .i64 zt, .int .i64 zp, .bool zw]) := he; subst he; replace hA := hA.trans hO)
              | (go_at_call 14; with_reducible refine (may_any P o f false ng _ (DD.out.p.kept hA (by simp))).mono ?_; rintro e wx ⟨he, hO⟩; rw [MM0.out] at he; subst he; replace hA := hA.trans hO)
              | (go_at_call 14; with_reducible refine (may_any P o f true ng _ (DD.out.p.kept hA (by simp))).mono ?_; rintro e wx ⟨he, hO⟩; rw [MM1.out] at he; subst he; replace hA := hA.trans hO)
              | (go_at_call 15; refine (at_any P o f ng _ (DD.out.p.kept hA (by simp))).mono ?_; rintro e wx ⟨rfl, hO⟩; replace hA := hA.trans hO)
              | (go_at_call 16; refine (rat_any r G o f ng _ (DD.out.q.kept hA (by simp) (by simp))).mono ?_; rintro e wx ⟨rfl, rfl⟩))
            all_goals
              go_wp2_with fail
              go_roundw
              case rel => exact ⟨i + 1, ng, by simp, by have := HI.out; omega, DD.out.kept hA (by simp) (by simp) (by simp), BD.out.trans (hA.below (B := w.heap.size) BD.out.size (by simp))⟩
              case measure => simp only [intOf, Int.toNat_natCast]; omega
    · obtain rfl : i = len := by omega
      have RR := Lib.hid hD.p
      have VR := Lib.hid hD.gv
      have zP := hD.p.lt
      clear hD hB HX DR
      go_wp2_with fail
      go_ret
      exact ⟨rfl, BR.out⟩
set_option maxRecDepth 100000 in
theorem lifted (os : Os) (started : os.Started) (H : Type) (enc : TypeId × Value → H) :
    ReturnsInHanded {} Try.checked os 3 .any (Rows.grantCallsSpec.pre6 enc Try.prog Try.f3 Rows.grantCallsRow.domain false) (Rows.grantCallsSpec.post enc Try.prog Try.f3 false true false false) := by
  refine returnsInHanded_of_change_sized (C := Try.checked) ownK started (by kernel_rfl) Try.func3
    (ChangeSpec.witness6 (enc := enc) (C := Try.checked) false ⟨#[], #[.slice none 0 0, .int .i64 0, .int .i64 0, .int .i64 0], []⟩ 8 (by kernel_rfl) (by kernel_rfl) (by kernel_rfl) (by kernel_rfl)) ?_
  intro W base args ds gs before hval0 hW hcnd hZ0 _
  have hval : ∀ (j : Nat) t v, Try.f3.params[j]? = some t → args[j]? = some v → Value.okWide Try.prog W .any base t v := hval0
  have hZ : ∀ n ∈ DataW.weightsEach Try.prog (Try.f3.params.toList ++ []) (ds ++ gs), n ≤ reachBytes := fun n hn => of_decide_eq_true (List.all_eq_true.1 hZ0 n hn)
  have hW' := hW
  obtain ⟨p, q, hA0, hV, rfl, hfz, hnd⟩ := hW
  have hA : DataW.TrodAll enc Try.prog W 0 (fun _ => true) true Try.f3.params.toList args.toList ds p := hA0
  rw [Try.params3] at hA hval hZ
  obtain ⟨v0, vs0, d0, ds0, p0, q0, hargs, rfl, rfl, h0, r0⟩ := trodAll_cons hA
  obtain ⟨v1, vs1, d1, ds1, p1, q1, rfl, rfl, rfl, h1, r1⟩ := trodAll_cons r0
  obtain ⟨v2, vs2, d2, ds2, p2, q2, rfl, rfl, rfl, h2, r2⟩ := trodAll_cons r1
  obtain ⟨v3, vs3, d3, ds3, p3, q3, rfl, rfl, rfl, h3, r3⟩ := trodAll_cons r2
  obtain ⟨rfl, rfl, rfl⟩ := trodAll_nil r3
  obtain rfl : args = #[v0, v1, v2, v3] := by cases args; simp_all
  obtain ⟨rfl, rfl⟩ := trodVars_none hV
  have k0 := h0
  have hz0 : ∀ n ∈ d0.weights Try.prog 22, n ≤ reachBytes := fun n hn => hZ n (by simp only [List.append_nil, DataW.weightsEach, List.mem_append]; exact Or.inl hn)
  obtain ⟨a0, n0, c0, y0, rfl, m0, lt0, z0⟩ := gcalls_open (hval 0 22 v0 rfl rfl) h0 hz0
  obtain ⟨x1, rfl, rfl, rfl, w1⟩ := open_int Try.underlying3 (hval 1 3 v1 rfl rfl) h1
  obtain ⟨x2, rfl, rfl, rfl, w2⟩ := open_int Try.underlying3 (hval 2 3 v2 rfl rfl) h2
  obtain ⟨x3, rfl, rfl, rfl, w3⟩ := open_int Try.underlying3 (hval 3 3 v3 rfl rfl) h3
  clear hA0 hval0 hZ0
  refine (walk a0 n0 c0 y0 x1 x2 x3 W m0 z0).mono fun e W' ⟨he, ho⟩ => ?_
  subst he
  have bel : Below W.heap.size W W' := ho
  exact ⟨_, rfl, _, _, _, [], _, [], hW', trodAll_mk1 (shut_bool Try.underlying4 _), (trodAll_cons_mk (Below.trod laidOut (by kernel_rfl) (of_decide_eq_true (by kernel_rfl)) k0 bel lt0) (trodAll_cons_mk (shut_int Try.underlying3 w1) (trodAll_cons_mk (shut_int Try.underlying3 w2) (trodAll_cons_mk (shut_int Try.underlying3 w3) trodAll_mk0)))), rfl, bel.frame _, fun h => by cases h⟩
theorem over : Rows.grantCallsRow.holds Try.pinned (OpenSpec.ofChange Rows.grantCallsSpec) :=
  OpenClaim.holds_of_wide 3 Try.f3 rfl rfl rfl rfl rfl rfl rfl ⟨rfl, rfl, rfl, rfl, rfl⟩ rfl rfl rfl rfl rfl (by kernel_rfl) Try.func3 (by kernel_rfl)
    (of_decide_eq_true (by kernel_rfl)) (by unfold Func.isWrapper; first | (rw [if_pos (by decide +kernel)]; kernel_rfl) | (rw [if_neg (by decide +kernel)]; exact ⟨rfl, rfl⟩))
    (fun os started H enc _ => lifted os started H enc)
end grantCalls
/-- The statement. -/
theorem grantCalls_holds : Rows.GrantCallsSaid := grantCalls.over
#print axioms grantCalls_holds
end Go.Proofs.Ytnilcmmilplbgaa
