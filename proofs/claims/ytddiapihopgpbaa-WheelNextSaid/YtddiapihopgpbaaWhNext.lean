/-
  WheelNext: what Next tells is due first, by its time, and nothing is due ahead of that, of whatever keeps what a wheel is asked for: for every input true, and the input reads as it did; no condition.
-/
import Derived.Test.YtddiapihopgpbaaWhOpen
import Derived.Deep.CutRange
import Derived.Deep.CutBlock
import Derived.Deep.RegionHeld3
import Derived.BigQuiet
namespace Go.Proofs.Ytddiapihopgpbaa
open Go.ChangeShapes Go.WideShapes Go.ChangeAt Go.RowKit Go.Deep
namespace wheelNext
open Wh
open Ph (Only)
theorem addL_len {l : List DuT} {i : Nat} (h : l.length ≤ i) (d : Int) (a : Nat) : (addL d a l).length ≤ i + 1 := by
  unfold addL
  split
  · rw [len_ins]; omega
  · omega
set_option maxRecDepth 100000 in
set_option maxHeartbeats 8000000 in
theorem walk (K : Wk) (n0 : Nat) (pa : Option Addr) (len cap : Nat) (y : Nat → WCallsT) (w : World) (hl : len ≤ cap ∧ cap ≤ maxLen) (hx : WCalls w.heap.size w pa len y) :
    Calls Try.prog 7 #[.int .u64 (n0 : Nat), .slice pa len cap] w fun e w' => e = .returned (.bool true) ∧ Below w.heap.size w w' := by
  have hz : ∀ w, (zeroValue 42).run Try.prog w = .ok (pV (0, 0)) w := fun _ => by kernel_rfl
  have HX := Lib.hid hx
  have hlm : len ≤ maxLen := by omega
  unfold maxLen at hlm
  clear hx hl
  go_enter Try.func7, Try.ntmps7
  go_wp2_with fail
  refine (alive_any K _).mono ?_
  rintro e w0 ⟨rfl, B0⟩
  by_cases g1 : 100 < len
  · have g1' : (100 : Int) < (len : Int) := by omega
    go_wp2
    go_ret
    exact ⟨rfl, B0⟩
  have g1' : ¬ (100 : Int) < (len : Int) := by omega
  have g10 : len ≤ 100 := by omega
  clear g1
  by_cases g2 : 4611686018427387904 < (n0 : Int)
  · have g2d : decide ((4611686018427387904 : Int) < (n0 : Int)) = true := decide_eq_true (by omega)
    go_wp2
    go_ret
    exact ⟨rfl, B0⟩
  have g2d : decide ((4611686018427387904 : Int) < (n0 : Int)) = false := decide_eq_false (by omega)
  go_wp2_with fail
  refine (K.new_yes n0 w0 (by omega)).mono ?_
  rintro e w1 ⟨p, F1, rfl, hW, hF, hO⟩
  have H1 : On K w.heap.size w p F1 n0 [] w1 := ⟨hW, fun x hx => Nat.le_trans B0.size (hF x hx), B0.trans (hO.below B0.size (by simp))⟩
  clear hW hF hO B0
  clear g1' g2 g2d
  go_wp2_with fail
  go_loopw [7] (fun c wr => ∃ (i : Nat) (F : List Nat) (l : List DuT), c = .int .i64 i ∧ i ≤ len ∧ l.length ≤ i ∧ Hid (On K w.heap.size w p F n0 l wr)) (fun c _ => len - (intOf c).toNat)
  case atStart => exact ⟨0, F1, [], rfl, Nat.zero_le _, Nat.le_refl _, Lib.hid H1⟩
  case round =>
    obtain ⟨i, F, l, rfl, hi, hli, HO⟩ := hrel
    clear H1
    by_cases hlt : i < len
    · obtain ⟨b, off, rfl, hbl, _⟩ := HX.out.at HO.out.below hlt
      rcases hyi : y i with ⟨a, d, z⟩
      have HS := Lib.hid (fun (w' : World) (h : Below w.heap.size w w') => show (w'.cell? ⟨b, off + i * 3 + 1, none⟩ = some (.int .i64 d) ∧ w'.cell? ⟨b, off + i * 3 + 2, none⟩ = some (.int .u64 z)) ∧ W64 d ∧ 0 ≤ z ∧ z ≤ 18446744073709551615 from by
        obtain ⟨b', off', e, _, hC⟩ := HX.out.at h hlt
        cases e
        rw [hyi] at hC
        exact ⟨⟨hC.c1, hC.c2⟩, hC.w1, bounds_u64 hC.w2⟩)
      obtain ⟨_, u1, u2, u3⟩ := HS.out _ HO.out.below
      obtain ⟨zn, rfl⟩ : ∃ zn : Nat, z = (zn : Int) := ⟨z.toNat, by omega⟩
      have hi0 : (0 : Int) ≤ (i : Int) := by omega
      have hil : (i : Int) < (len : Int) := by omega
      have hd := Only.drewN [] wr 1
      have HD : Hid (On K w.heap.size w p F n0 l wr.drew) := Lib.hid (HO.out.quiet hd (Nat.le_refl _))
      have hB : Below w.heap.size w wr.drew := HD.out.below
      have hW := Lib.hid (K.add wr.drew p F n0 l d zn HD.out.wh u1 (by omega))
      clear HO hd hyi
      go_upto_region 11 with fail
      go_region_held3 (fun w' => w'.cell? ⟨b, off + i * 3 + 1, none⟩ = some (.int .i64 d) ∧ w'.cell? ⟨b, off + i * 3 + 2, none⟩ = some (.int .u64 (zn : Int))) (exact (HS.out _ hB).1) (first | (go_at_call 10; refine hW.out.mono ?_; rintro e w3 ⟨rfl, hg⟩; obtain ⟨F3, H3, ho3, hf3⟩ := HD.out.grown hg (Nat.le_refl _); replace hB := H3.below))
      all_goals
        go_wp2_with fail
        go_roundw
        case rel => exact ⟨i + 1, F3, _, by push_cast; rfl, by omega, addL_len hli d zn, Lib.hid H3⟩
        case measure => simp only [intOf]; omega
    · obtain rfl : i = len := by omega
      clear hlt
      go_wp2_with fail
      go_loopw [8] (fun c wx => ∃ (k t : Nat) (G : List Nat) (m : List DuT), c = .int .i64 k ∧ k + m.length ≤ 100 ∧ Hid (On K w.heap.size w p G t m wx)) (fun c _ => 101 - (intOf c).toNat)
      case atStart => exact ⟨0, n0, F, l, rfl, by omega, HO⟩
      case round =>
        obtain ⟨k, t, G, m, rfl, hk, HR⟩ := hrel
        clear HO
        have hk1 : (k : Int) < 101 := by omega
        have FI := Lib.hid (K.fine HR.out.wh)
        cases m with
        | nil =>
          go_wp2_with fail
          refine (K.next _ p G t [] HR.out.wh).mono ?_
          rintro e w3 ⟨he, hO⟩
          replace he : e = .returned (.tuple #[.agg #[.int .i64 0, .int .u64 0], .bool false]) := he
          subst he
          have H3 := Lib.hid ((HR.out.quiet hO (Nat.le_refl _)).quiet (Only.alloc [] w3 (.cells #[.int .i64 0, .int .u64 0] 42)) (Nat.le_refl _))
          clear HR hO
          go_wp2_with fail
          generalize w3.alloc (.cells #[.int .i64 0, .int .u64 0] 42) = w4 at *
          refine (K.lenO w4 p G t [] H3.out.wh).mono ?_
          rintro e w5 ⟨he, hO⟩
          replace he : e = .returned (.int .i64 0) := he
          subst he
          have H5 := H3.out.quiet hO (Nat.le_refl _)
          clear H3 hO
          go_wp2_with fail
          go_ret
          exact ⟨rfl, H5.below⟩
        | cons x r =>
          obtain ⟨xd, xa⟩ := x
          have hxa : xa ≤ 4611686018427387904 := FI.out.ats (xd, xa) (by simp)
          have ht := FI.out.time
          go_wp2_with fail
          refine (K.next _ p G t ((xd, xa) :: r) HR.out.wh).mono ?_
          rintro e w3 ⟨he, hO⟩
          replace he : e = .returned (.tuple #[.agg #[.int .i64 (xd : Nat), .int .u64 (xa : Nat)], .bool true]) := he
          subst he
          have oA := Only.alloc [] w3 (.cells #[.int .i64 (xd : Nat), .int .u64 (xa : Nat)] 42)
          have q1 := HR.out.quiet hO (Nat.le_refl _)
          have H3 := Lib.hid (q1.quiet oA (Nat.le_refl _))
          have l3 := Lib.hid (K.lt q1.wh)
          have c0 := World.cell?_alloc_new w3 #[.int .i64 (xd : Nat), .int .u64 (xa : Nat)] 42 0
          have c1 := World.cell?_alloc_new w3 #[.int .i64 (xd : Nat), .int .u64 (xa : Nat)] 42 1
          have z4 : w3.heap.size < (w3.alloc (.cells #[.int .i64 (xd : Nat), .int .u64 (xa : Nat)] 42)).heap.size := by simp
          obtain ⟨bx, hbx⟩ : ∃ q, q = w3.heap.size := ⟨_, rfl⟩
          have hnG : bx ∉ G := fun h => by have := l3.out _ h; omega
          rw [← hbx] at c0 c1 z4
          clear HR hO oA q1 l3
          go_wp2_with fail
          rw [← hbx]
          clear hbx
          generalize w3.alloc (.cells #[.int .i64 (xd : Nat), .int .u64 (xa : Nat)] 42) = w4 at *
          have c0' : w4.cell? ⟨bx, 0, none⟩ = some (.int .i64 (xd : Nat)) := c0
          have c1' : w4.cell? ⟨bx, 1, none⟩ = some (.int .u64 (xa : Nat)) := c1
          clear c0 c1
          have HN := fun (k : Nat) => K.now (w4.drewN k) p G t ((xd, xa) :: r) (K.kept H3.out.wh (Only.drewN [] w4 k) (by simp))
          have HNq := Lib.hid HN
          clear HN
          by_cases hgt : t < xa
          · have hgt' : (t : Int) < (xa : Int) := by omega
            have hgd : decide ((t : Int) < (xa : Int)) = true := decide_eq_true hgt'
            have hx0 : (0 : Int) < (xa : Int) := by omega
            have hgn : decide (t < xa) = true := decide_eq_true hgt
            have hx0d : decide ((0 : Int) < (xa : Int)) = true := decide_eq_true hx0
            have hx0n : decide (0 < xa) = true := decide_eq_true (by omega)
            go_upto_region 18 with fail
            go_quiet (first | (go_at_call 20; exact Calls.quiet_of_same ((HNq.out _).mono fun _ _ ⟨h, h'⟩ => ⟨h, h'.symm⟩)))
            have hq := Only.drewN [] w4 nq
            have H5 := Lib.hid (H3.out.quiet hq (Nat.le_refl _))
            have c5 := (hq.cell z4 (by simp) 1).trans c1'
            have e5 := (hq.cell z4 (by simp) 0).trans c0'
            have z5 : bx < (w4.drewN nq).heap.size := z4
            clear HNq H3 c0' c1' hq z4
            generalize w4.drewN nq = w5 at *
            have hd := Only.drewN [] w5 1
            have H6 := Lib.hid (H5.out.quiet hd (Nat.le_refl _))
            have hA : Only G w5.drew w5.drew := Only.refl _ _
            have HC := Lib.hid (fun (w' : World) (h : Only G w5.drew w') => show w'.cell? ⟨bx, 1, none⟩ = some (.int .u64 (xa : Nat)) from ((h.cell z5 hnG 1).trans (hd.cell z5 (by simp) 1)).trans c5)
            have HN := Lib.hid (K.now w5.drew p G t ((xd, xa) :: r) H6.out.wh)
            have em : (xa : Int) - 1 = ((xa - 1 : Nat) : Int) := by omega
            have hwr : IntKind.u64.wrap ((xa : Int) - 1) = (xa : Int) - 1 := by rw [IntKind.wrap_u64]; omega
            have hnl : (if (xa : Int) - 1 < (t : Int) then (t : Int) else (xa : Int) - 1) = (xa : Int) - 1 := if_neg (by omega)
            have CA := K.adv w5.drew p G t ((xd, xa) :: r) (xa - 1) H6.out.wh (by omega)
            obtain ⟨e1, e2, e3⟩ := adv_early FI.out hgt
            rw [e1, e2, e3, ← em] at CA
            have HA := Lib.hid CA
            clear hd CA em e1 e2 e3
            go_upto_region 19 with fail
            go_region_held3 (fun w' => w'.cell? ⟨bx, 1, none⟩ = some (.int .u64 (xa : Nat))) (exact HC.out _ hA) (first | (go_at_call 20; refine HN.out.mono ?_; rintro e w6 ⟨rfl, rfl⟩) | (go_at_call 15; refine HA.out.mono ?_; rintro e w7 ⟨v7, rfl, F7, ⟨hW7, hS7⟩, hO7, hF7⟩; replace hA := hA.trans hO7))
            all_goals
              obtain ⟨va, vc, rfl⟩ := hS7.form
              have H7 := Lib.hid (H6.out.step hW7 hO7 hF7 (Nat.le_refl _))
              have c7 := ((hA.cell z5 hnG 1).trans rfl).trans c5
              have e7 := ((hA.cell z5 hnG 0).trans rfl).trans e5
              have z7 : bx < w7.heap.size := Nat.lt_of_lt_of_le z5 hA.size
              have n7 : bx ∉ F7 := fun h => (hF7 bx h).elim hnG (fun g => by have : w5.drew.heap.size = w5.heap.size := rfl; omega)
              have FI7 := Lib.hid (K.fine H7.out.wh)
              clear hS7 hW7 hO7 hF7 hA H5 H6 HN HA HC c5 e5 z5 hnG
              have CB := K.adv w7 p F7 (xa - 1) ((xd, xa) :: r) xa H7.out.wh (by omega)
              obtain ⟨o8, e8, l8⟩ := adv_first FI7.out
              simp only at e8 l8
              rw [e8] at CB
              go_wp2_with fail
              refine CB.mono ?_
              rintro e w8 ⟨v8, rfl, F8, ⟨hW8, hS8⟩, hO8, hF8⟩
              have H8 := Lib.hid (H7.out.step hW8 hO8 hF8 (Nat.le_refl _))
              obtain ⟨va8, vc8, rfl⟩ := hS8.form
              obtain ⟨b8, off8, rfl, hb8, -, -, k0, k1⟩ := hS8.at (i := 0) (x := (xd, xa)) rfl
              simp only [Nat.zero_mul, Nat.add_zero] at k0 k1
              have c8 := (hO8.cell z7 n7 1).trans c7
              have e9 := (hO8.cell z7 n7 0).trans e7
              have eE : ∀ w, (binOp .neq 42 (.agg #[.int .i64 (xd : Nat), .int .u64 (xa : Nat)]) (.agg #[.int .i64 (xd : Nat), .int .u64 (xa : Nat)])).run Try.prog w = .ok (.bool false) w := fun w => by
                have h := neqDu (xd, xa) (xd, xa) w
                rw [decide_eq_true rfl] at h
                exact h
              have hn8 : (((((xd, xa) :: o8).length : Nat) : Int) == 0) = false := by simp; omega
              clear CB hS8 hW8 hO8 hF8 H7 c7 e7
              go_upto_region 23 with fail
              go_quiet (fail)
              have H9 := Lib.hid (H8.out.quiet (Only.drewN [] w8 nq) (Nat.le_refl _))
              go_wp2_with fail
              go_roundw
              case rel => exact ⟨k + 1, _, F8, _, by push_cast; rfl, by simp only [List.length_cons] at hk; omega, H9⟩
              case measure => simp only [intOf]; omega
          · have hgt' : ¬ (t : Int) < (xa : Int) := by omega
            have hgd : decide ((t : Int) < (xa : Int)) = false := decide_eq_false hgt'
            have hgn : decide (t < xa) = false := decide_eq_false hgt
            go_upto_region 18 with fail
            go_quiet (first | (go_at_call 20; exact Calls.quiet_of_same ((HNq.out _).mono fun _ _ ⟨h, h'⟩ => ⟨h, h'.symm⟩)))
            have hq := Only.drewN [] w4 nq
            have H7 := Lib.hid (H3.out.quiet hq (Nat.le_refl _))
            have c7 := (hq.cell z4 (by simp) 1).trans c1'
            have e7 := (hq.cell z4 (by simp) 0).trans c0'
            have z7 : bx < (w4.drewN nq).heap.size := z4
            have n7 := hnG
            have FI7 := FI
            clear HNq H3 c0' c1' hq z4 hnG
            generalize w4.drewN nq = w7 at *
            have CB := K.adv w7 p G t ((xd, xa) :: r) xa H7.out.wh (by omega)
            obtain ⟨o8, e8, l8⟩ := adv_first FI7.out
            simp only at e8 l8
            rw [e8] at CB
            go_wp2_with fail
            refine CB.mono ?_
            rintro e w8 ⟨v8, rfl, F8, ⟨hW8, hS8⟩, hO8, hF8⟩
            have H8 := Lib.hid (H7.out.step hW8 hO8 hF8 (Nat.le_refl _))
            obtain ⟨va8, vc8, rfl⟩ := hS8.form
            obtain ⟨b8, off8, rfl, hb8, -, -, k0, k1⟩ := hS8.at (i := 0) (x := (xd, xa)) rfl
            simp only [Nat.zero_mul, Nat.add_zero] at k0 k1
            have c8 := (hO8.cell z7 n7 1).trans c7
            have e9 := (hO8.cell z7 n7 0).trans e7
            have eE : ∀ w, (binOp .neq 42 (.agg #[.int .i64 (xd : Nat), .int .u64 (xa : Nat)]) (.agg #[.int .i64 (xd : Nat), .int .u64 (xa : Nat)])).run Try.prog w = .ok (.bool false) w := fun w => by
              have h := neqDu (xd, xa) (xd, xa) w
              rw [decide_eq_true rfl] at h
              exact h
            have hn8 : (((((xd, xa) :: o8).length : Nat) : Int) == 0) = false := by simp; omega
            clear CB hS8 hW8 hO8 hF8 H7 c7 e7
            go_upto_region 23 with fail
            go_quiet (fail)
            have H9 := Lib.hid (H8.out.quiet (Only.drewN [] w8 nq) (Nat.le_refl _))
            go_wp2_with fail
            go_roundw
            case rel => exact ⟨k + 1, _, F8, _, by push_cast; rfl, by simp only [List.length_cons] at hk; omega, H9⟩
            case measure => simp only [intOf]; omega
end wheelNext
end Go.Proofs.Ytddiapihopgpbaa
