/-
  WheelRight: what is due has been added, is not later than the time, and nothing that is left is due, of whatever keeps what a wheel is asked for: for every input true, and the input reads as it did; no condition.
-/
import Derived.Test.YtddiapihopgpbaaWhRightM
import Derived.Deep.CutRange
import Derived.Deep.CutBlock
import Derived.Deep.RegionHeld3
import Derived.BigQuiet
namespace Go.Proofs.Ytddiapihopgpbaa
open Go.ChangeShapes Go.WideShapes Go.ChangeAt Go.RowKit Go.Deep
namespace wheelRight
open Wh
open Ph (Only)
theorem nxt_mem {l : List DuT} (h : l.isEmpty = false) : nxt l ∈ l := by
  cases l with
  | nil => cases h
  | cons x r => exact List.mem_cons_self
theorem num_w (n : Nat) (h : n ≤ 999) : W64 ((n : Nat) : Int) := (by decide +kernel : ∀ i : Fin 1000, (Lit.int .i64 ((i : Nat) : Int)).wf = true) ⟨n, by omega⟩
set_option maxRecDepth 100000 in
set_option maxHeartbeats 8000000 in
theorem walk (K : Wk) (n0 : Nat) (pa : Option Addr) (len cap : Nat) (y : Nat → WCallsT) (w : World) (hl : len ≤ cap ∧ cap ≤ maxLen) (hx : WCalls w.heap.size w pa len y) :
    Calls Try.prog 5 #[.int .u64 (n0 : Nat), .slice pa len cap] w fun e w' => e = .returned (.bool true) ∧ Below w.heap.size w w' := by
  have hz : ∀ w, (zeroValue 42).run Try.prog w = .ok (pV (0, 0)) w := fun _ => by kernel_rfl
  have HX := Lib.hid hx
  have hlm : len ≤ maxLen := by omega
  unfold maxLen at hlm
  clear hx hl
  go_enter Try.func5, Try.ntmps5
  go_wp2_with fail
  refine (alive_any K _).mono ?_
  rintro e w0 ⟨rfl, B0⟩
  by_cases g1 : 100 < len
  · have g1' : (100 : Int) < (len : Int) := by omega
    go_wp2
    go_ret
    exact ⟨rfl, B0⟩
  have g1' : ¬ (100 : Int) < (len : Int) := by omega
  have g10 : len ≤ 100 := by omega
  clear g1
  by_cases g2 : 4611686018427387904 < (n0 : Int)
  · have g2d : decide ((4611686018427387904 : Int) < (n0 : Int)) = true := decide_eq_true (by omega)
    go_wp2
    go_ret
    exact ⟨rfl, B0⟩
  have g2d : decide ((4611686018427387904 : Int) < (n0 : Int)) = false := decide_eq_false (by omega)
  go_wp2_with fail
  refine (K.new_yes n0 w0 (by omega)).mono ?_
  rintro e w1 ⟨p, F1, rfl, hW, hF, hO⟩
  have H1 : On K w.heap.size w p F1 n0 [] w1 := ⟨hW, fun x hx => Nat.le_trans B0.size (hF x hx), B0.trans (hO.below B0.size (by simp))⟩
  clear hW hF hO B0
  clear g1' g2 g2d
  go_wp2_with fail
  go_loopw [7] (fun c wr => ∃ (i : Nat) (F : List Nat) (t : Nat) (l : List DuT), c = .int .i64 i ∧ i ≤ len ∧ l.length ≤ i ∧ Hid (On K w.heap.size w p F t l wr)) (fun c _ => len - (intOf c).toNat)
  case atStart => exact ⟨0, F1, n0, [], rfl, Nat.zero_le _, Nat.le_refl _, Lib.hid H1⟩
  case round =>
    obtain ⟨i, F, t, l, rfl, hi, hli, HO⟩ := hrel
    clear H1
    by_cases hlt : i < len
    · obtain ⟨b, off, rfl, hbl, hC⟩ := HX.out.at HO.out.below hlt
      rcases hyi : y i with ⟨a, d, z⟩
      rw [hyi] at hC
      have c0 := hC.c0
      have c1 := hC.c1
      have c2 := hC.c2
      have u1 : W64 d := hC.w1
      have u2 := bounds_u64 hC.w2
      simp only at c0 c1 c2 u2
      obtain ⟨zn, rfl⟩ : ∃ zn : Nat, z = (zn : Int) := ⟨z.toNat, by omega⟩
      have hi0 : (0 : Int) ≤ (i : Int) := by omega
      have hil : (i : Int) < (len : Int) := by omega
      clear hyi hC
      have oA := Only.alloc [] wr (.cells #[.int .i64 a, .int .i64 d, .int .u64 (zn : Nat)] 34)
      have H2 := Lib.hid (HO.out.quiet oA (Nat.le_refl _))
      have q0 := World.cell?_alloc_new wr #[.int .i64 a, .int .i64 d, .int .u64 (zn : Nat)] 34 0
      have q1 := World.cell?_alloc_new wr #[.int .i64 a, .int .i64 d, .int .u64 (zn : Nat)] 34 1
      have q2 := World.cell?_alloc_new wr #[.int .i64 a, .int .i64 d, .int .u64 (zn : Nat)] 34 2
      have z2 : wr.heap.size < (wr.alloc (.cells #[.int .i64 a, .int .i64 d, .int .u64 (zn : Nat)] 34)).heap.size := by simp
      have hlF := Lib.hid (K.lt HO.out.wh)
      obtain ⟨bc, hbc⟩ : ∃ q, q = wr.heap.size := ⟨_, rfl⟩
      have hnF : bc ∉ F := fun h => by have := hlF.out _ h; omega
      rw [← hbc] at q0 q1 q2 z2
      clear HO oA hlF
      go_upto_region 12 with fail
      rw [← hbc]
      clear hbc c0 c1 c2
      generalize wr.alloc (.cells #[.int .i64 a, .int .i64 d, .int .u64 (zn : Nat)] 34) = w2 at *
      go_wp2_with fail
      refine (K.lenO w2 p F t l H2.out.wh).mono ?_
      rintro e w3 ⟨rfl, hO⟩
      have H3 := Lib.hid (H2.out.quiet hO (Nat.le_refl _))
      have e0 := (hO.cell z2 (by simp) 0).trans q0
      have e1 := (hO.cell z2 (by simp) 1).trans q1
      have e2 := (hO.cell z2 (by simp) 2).trans q2
      have z3 : bc < w3.heap.size := Nat.lt_of_lt_of_le z2 hO.size
      have FI := Lib.hid (K.fine H3.out.wh)
      simp only [List.getElem?_toArray, List.getElem?_cons_zero, List.getElem?_cons_succ] at e0 e1 e2
      clear H2 hO q0 q1 q2 z2
      by_cases h0 : a = 0
      · subst h0
        have CA := K.add w3 p F t l d zn H3.out.wh u1 (by omega)
        have hal := add_len (d := d) (a := zn) (l := l)
        rcases addE_or d zn l with hE | hE | hE
        · rw [hE, if_pos rfl] at hal
          rw [hE] at CA
          go_wp2_with fail
          refine CA.mono ?_
          rintro e w4 ⟨rfl, F4, hW, hO, hF⟩
          have H4 := Lib.hid (H3.out.step hW hO hF (Nat.le_refl _))
          have HL := Lib.hid (show (((addL d zn l).length : Nat) : Int) = (l.length : Int) + 1 from by omega)
          clear CA hW hO hF H3 e0 e1 e2
          generalize addL d zn l = L4 at *
          have dn : (((L4.length : Nat) : Int) != (l.length : Int) + 1) = false := by rw [HL.out]; simp
          go_wp2_with fail
          refine (K.lenO _ p F4 t L4 H4.out.wh).mono ?_
          rintro e wz ⟨rfl, hO⟩
          have HZ := Lib.hid (H4.out.quiet hO (Nat.le_refl _))
          clear hO H4
          go_wp2_with fail
          go_roundw
          case rel => first | exact ⟨i + 1, F4, t, _, by push_cast; rfl, by omega, by have := HL.out; omega, HZ⟩ | ((repeat apply Exists.intro); exact ⟨⟨i + 1, F4, t, _, by push_cast; rfl, by omega, by have := HL.out; omega, HZ⟩, rfl⟩)
          case measure => simp [intOf]; omega
        · rw [hE, if_neg (by decide)] at hal
          rw [hE] at CA
          go_wp2_with fail
          refine CA.mono ?_
          rintro e w4 ⟨rfl, F4, hW, hO, hF⟩
          have H4 := Lib.hid (H3.out.step hW hO hF (Nat.le_refl _))
          have HL := Lib.hid (show (((addL d zn l).length : Nat) : Int) = (l.length : Int) from by omega)
          clear CA hW hO hF H3 e0 e1 e2
          generalize addL d zn l = L4 at *
          have dn : (((L4.length : Nat) : Int) != (l.length : Int)) = false := by rw [HL.out]; simp
          go_wp2_with fail
          refine (K.lenO _ p F4 t L4 H4.out.wh).mono ?_
          rintro e wz ⟨rfl, hO⟩
          have HZ := Lib.hid (H4.out.quiet hO (Nat.le_refl _))
          clear hO H4
          go_wp2_with fail
          go_roundw
          case rel => first | exact ⟨i + 1, F4, t, _, by push_cast; rfl, by omega, by have := HL.out; omega, HZ⟩ | ((repeat apply Exists.intro); exact ⟨⟨i + 1, F4, t, _, by push_cast; rfl, by omega, by have := HL.out; omega, HZ⟩, rfl⟩)
          case measure => simp [intOf]; omega
        · rw [hE, if_neg (by decide)] at hal
          rw [hE] at CA
          go_wp2_with fail
          refine CA.mono ?_
          rintro e w4 ⟨rfl, F4, hW, hO, hF⟩
          have H4 := Lib.hid (H3.out.step hW hO hF (Nat.le_refl _))
          have HL := Lib.hid (show (((addL d zn l).length : Nat) : Int) = (l.length : Int) from by omega)
          clear CA hW hO hF H3 e0 e1 e2
          generalize addL d zn l = L4 at *
          have dn : (((L4.length : Nat) : Int) != (l.length : Int)) = false := by rw [HL.out]; simp
          go_wp2_with fail
          refine (K.lenO _ p F4 t L4 H4.out.wh).mono ?_
          rintro e wz ⟨rfl, hO⟩
          have HZ := Lib.hid (H4.out.quiet hO (Nat.le_refl _))
          clear hO H4
          go_wp2_with fail
          go_roundw
          case rel => first | exact ⟨i + 1, F4, t, _, by push_cast; rfl, by omega, by have := HL.out; omega, HZ⟩ | ((repeat apply Exists.intro); exact ⟨⟨i + 1, F4, t, _, by push_cast; rfl, by omega, by have := HL.out; omega, HZ⟩, rfl⟩)
          case measure => simp [intOf]; omega
      have d0 : (a == 0) = false := by simpa using h0
      by_cases h1 : a = 1
      · subst h1
        have CA := K.can w3 p F t l d H3.out.wh u1
        cases hE : canB d l with
        | true =>
          have hal := can_len FI.out.uni hE
          rw [hE] at CA
          go_wp2_with fail
          refine CA.mono ?_
          rintro e w4 ⟨rfl, F4, hW, hO, hF⟩
          have H4 := Lib.hid (H3.out.step hW hO hF (Nat.le_refl _))
          have HL := Lib.hid (show (((canL d l).length : Nat) : Int) = (l.length : Int) - 1 from by omega)
          clear CA hW hO hF H3 e0 e1 e2 hal
          generalize canL d l = L4 at *
          have dn : (((L4.length : Nat) : Int) != (l.length : Int) - 1) = false := by rw [HL.out]; simp
          go_wp2_with fail
          refine (K.lenO _ p F4 t L4 H4.out.wh).mono ?_
          rintro e wz ⟨rfl, hO⟩
          have HZ := Lib.hid (H4.out.quiet hO (Nat.le_refl _))
          clear hO H4
          go_wp2_with fail
          go_roundw
          case rel => first | exact ⟨i + 1, F4, t, _, by push_cast; rfl, by omega, by have := HL.out; omega, HZ⟩ | ((repeat apply Exists.intro); exact ⟨⟨i + 1, F4, t, _, by push_cast; rfl, by omega, by have := HL.out; omega, HZ⟩, rfl⟩)
          case measure => simp [intOf]; omega
        | false =>
          have hal := can_no hE
          rw [hE, hal] at CA
          go_wp2_with fail
          refine CA.mono ?_
          rintro e w4 ⟨rfl, F4, hW, hO, hF⟩
          have H4 := Lib.hid (H3.out.step hW hO hF (Nat.le_refl _))
          clear CA hW hO hF H3 e0 e1 e2 hal
          have dn : (((l.length : Nat) : Int) != (l.length : Int)) = false := by simp
          go_wp2_with fail
          refine (K.lenO _ p F4 t l H4.out.wh).mono ?_
          rintro e wz ⟨rfl, hO⟩
          have HZ := Lib.hid (H4.out.quiet hO (Nat.le_refl _))
          clear hO H4
          go_wp2_with fail
          go_roundw
          case rel => first | exact ⟨i + 1, F4, t, _, by push_cast; rfl, by omega, by omega, HZ⟩ | ((repeat apply Exists.intro); exact ⟨⟨i + 1, F4, t, _, by push_cast; rfl, by omega, by omega, HZ⟩, rfl⟩)
          case measure => simp [intOf]; omega
      have d1 : (a == 1) = false := by simpa using h1
      by_cases h2 : a = 2
      · subst h2
        have CA := K.adv w3 p F t l zn H3.out.wh (by omega)
        have A1 := Lib.hid (fun x (h : x ∈ advO t zn l) => adv_in h)
        have A2 := Lib.hid (fun x (h : x ∈ advO t zn l) => adv_gone FI.out.uni h)
        have A3 := Lib.hid (adv_srt (t := t) (a := zn) FI.out.srt)
        have A4 := Lib.hid (fun (h : zn ≤ 4611686018427387904) y (hy : y ∈ advL t zn l) => adv_next h hy)
        have A5 := Lib.hid (adv_len t zn l)
        have A6 := Lib.hid (fun x (h : x ∈ advO t zn l) => FI.out.ids x (advO_mem h))
        go_wp2_with fail
        refine CA.mono ?_
        rintro e w4 ⟨v4, rfl, F4, ⟨hW, hS⟩, hO, hF⟩
        have H4 := Lib.hid (H3.out.step hW hO hF (Nat.le_refl _))
        obtain ⟨xa, xc, rfl⟩ := hS.form
        have S4 := Lib.hid hS
        have f2 := (hO.cell z3 hnF 2).trans e2
        have z4 : bc < w4.heap.size := Nat.lt_of_lt_of_le z3 hO.size
        clear CA hW hS hO hF H3 e0 e1 e2 FI z3
        generalize advO t zn l = X at *
        generalize advL t zn l = L4 at *
        generalize advT t zn = T4 at *
        have hXl : X.length ≤ l.length := by have := A5.out; omega
        have HL := Lib.hid (show ((L4.length : Nat) : Int) = (l.length : Int) - (X.length : Int) from by have := A5.out; omega)
        go_wp2_with fail
        go_loopw [11] (fun c wx => ∃ k : Nat, c = .int .i64 k ∧ k ≤ X.length ∧ Hid (On K w.heap.size w p F4 T4 L4 wx) ∧ Hid (Seen w3.heap.size F4 wx (.slice xa X.length xc) X) ∧ Hid (wx.cell? ⟨bc, 2, none⟩ = some (.int .u64 (zn : Nat)) ∧ bc < wx.heap.size)) (fun c _ => X.length - (intOf c).toNat)
        case atStart => exact ⟨0, rfl, Nat.zero_le _, H4, S4, Lib.hid ⟨f2, z4⟩⟩
        case round =>
          obtain ⟨k, rfl, hk, HR, SR, CR⟩ := hrel
          clear H4 S4 f2 z4
          by_cases hkl : k < X.length
          · obtain ⟨x, hx⟩ : ∃ x, X[k]? = some x := ⟨X[k], List.getElem?_eq_getElem hkl⟩
            obtain ⟨bx, ox, rfl, lx, -, -, x0, x1⟩ := SR.out.at hx
            have hin := A1.out x (List.mem_of_getElem? hx)
            have hgo := A2.out x (List.mem_of_getElem? hx)
            have hid := num_w x.1 (A6.out x (List.mem_of_getElem? hx))
            have CT := K.at_ wr p F4 T4 L4 ((x.1 : Nat) : Int) HR.out.wh hid
            rw [hgo] at CT
            have HX2 := Lib.hid hx
            obtain ⟨xd, xt⟩ := x
            simp only at x0 x1 hin CT
            clear hx hgo hid
            go_wp2_with fail
            refine CT.mono ?_
            rintro e w5 ⟨he, hO⟩
            replace he : e = .returned (.tuple #[.int .u64 0, .bool false]) := he
            subst he
            have HQ := Lib.hid (HR.out.quiet hO (Nat.le_refl _))
            have SQ := Lib.hid (SR.out.kept hO (by simp))
            have CQ := Lib.hid (show w5.cell? ⟨bc, 2, none⟩ = some (.int .u64 (zn : Nat)) ∧ bc < w5.heap.size from ⟨(hO.cell CR.out.2 (by simp) 2).trans CR.out.1, Nat.lt_of_lt_of_le CR.out.2 hO.size⟩)
            have y0 := (hO.cell lx (by simp) (ox + k * 2)).trans x0
            have y1 := (hO.cell lx (by simp) (ox + k * 2 + 1)).trans x1
            have ly := Nat.lt_of_lt_of_le lx hO.size
            clear CT HR SR CR hO x0 x1 lx
            have g1 : decide ((T4 : Int) < (xt : Int)) = false := decide_eq_false (by omega)
            have g2 : decide (T4 < xt) = false := decide_eq_false (by omega)
            have HN := Lib.hid (fun (k : Nat) => K.now (w5.drewN k) p F4 T4 L4 (K.kept HQ.out.wh (Only.drewN [] w5 k) (by simp)))
            cases k with
            | zero =>
              have k0 : decide ((0 : Int) < ((0 : Nat) : Int)) = false := by decide
              go_upto_region 27 with fail
              go_quiet (first | (go_at_call 20; exact Calls.quiet_of_same ((HN.out _).mono fun _ _ ⟨h, h'⟩ => ⟨h, h'.symm⟩)))
              have hq := Only.drewN [] w5 nq
              have HZ := Lib.hid (HQ.out.quiet hq (Nat.le_refl _))
              have SZ := Lib.hid (SQ.out.kept hq (by simp))
              have CZ := Lib.hid (show (w5.drewN nq).cell? ⟨bc, 2, none⟩ = some (.int .u64 (zn : Nat)) ∧ bc < (w5.drewN nq).heap.size from CQ.out)
              clear HQ SQ CQ y0 y1 hq ly HN
              generalize w5.drewN nq = wq at *
              go_wp2_with fail
              go_roundw
              case rel => exact ⟨0 + 1, by push_cast; rfl, by omega, HZ, SZ, CZ⟩
              case measure => simp only [intOf]; omega
            | succ j =>
              obtain ⟨x', hx'⟩ : ∃ x', X[j]? = some x' := ⟨X[j], List.getElem?_eq_getElem (by omega)⟩
              have hs := srt_next A3.out hx' HX2.out
              obtain ⟨b', o', e', l', -, -, x0', x1'⟩ := SQ.out.at hx'
              cases e'
              obtain ⟨jd, jt⟩ := x'
              simp only at x0' x1' hs
              clear hx'
              have kj : ((j + 1 : Nat) : Int) = (j : Int) + 1 := by omega
              have k0 : decide ((0 : Int) < (j : Int) + 1) = true := decide_eq_true (by omega)
              rw [kj] at *
              rcases hs with hs | ⟨rfl, hs⟩
              · have r1 : decide ((xt : Int) < (jt : Int)) = false := decide_eq_false (by omega)
                have r1n : decide (xt < jt) = false := decide_eq_false (by omega)
                have r2 : ((jt : Int) == (xt : Int)) = false := by simp; omega
                have r2n : (jt == xt) = false := by simp; omega
                go_upto_region 27 with fail
                go_quiet (first | (go_at_call 20; exact Calls.quiet_of_same ((HN.out _).mono fun _ _ ⟨h, h'⟩ => ⟨h, h'.symm⟩)))
                have hq := Only.drewN [] w5 nq
                have HZ := Lib.hid (HQ.out.quiet hq (Nat.le_refl _))
                have SZ := Lib.hid (SQ.out.kept hq (by simp))
                have CZ := Lib.hid (show (w5.drewN nq).cell? ⟨bc, 2, none⟩ = some (.int .u64 (zn : Nat)) ∧ bc < (w5.drewN nq).heap.size from CQ.out)
                clear HQ SQ CQ y0 y1 hq ly HN x0' x1'
                generalize w5.drewN nq = wq at *
                go_wp2_with fail
                go_roundw
                case rel => exact ⟨(j + 1) + 1, by push_cast; rfl, by omega, HZ, SZ, CZ⟩
                case measure => simp only [intOf]; omega
              · have r1 : decide ((jt : Int) < (jt : Int)) = false := decide_eq_false (by omega)
                have r3 : decide ((xd : Int) ≤ (jd : Int)) = false := decide_eq_false (by omega)
                have r3n : decide (xd ≤ jd) = false := decide_eq_false (by omega)
                go_upto_region 27 with fail
                go_quiet (first | (go_at_call 20; exact Calls.quiet_of_same ((HN.out _).mono fun _ _ ⟨h, h'⟩ => ⟨h, h'.symm⟩)))
                have hq := Only.drewN [] w5 nq
                have HZ := Lib.hid (HQ.out.quiet hq (Nat.le_refl _))
                have SZ := Lib.hid (SQ.out.kept hq (by simp))
                have CZ := Lib.hid (show (w5.drewN nq).cell? ⟨bc, 2, none⟩ = some (.int .u64 (zn : Nat)) ∧ bc < (w5.drewN nq).heap.size from CQ.out)
                clear HQ SQ CQ y0 y1 hq ly HN x0' x1'
                generalize w5.drewN nq = wq at *
                go_wp2_with fail
                go_roundw
                case rel => exact ⟨(j + 1) + 1, by push_cast; rfl, by omega, HZ, SZ, CZ⟩
                case measure => simp only [intOf]; omega
          · obtain rfl : k = X.length := by omega
            clear SR
            have dn : (((L4.length : Nat) : Int) != (l.length : Int) - (X.length : Int)) = false := by rw [HL.out]; simp
            have hz4 := CR.out.2
            have hc4 := CR.out.1
            clear CR
            rcases hnx : nxt L4 with ⟨xd, xt⟩
            cases hem : L4.isEmpty with
            | true =>
              go_wp2_with fail
              refine (K.next _ p F4 T4 L4 HR.out.wh).mono ?_
              rintro e w5 ⟨he, hO⟩
              rw [hnx, hem] at he
              replace he : e = .returned (.tuple #[.agg #[.int .i64 (xd : Nat), .int .u64 (xt : Nat)], .bool false]) := he
              subst he
              have oA := Only.alloc [] w5 (.cells #[.int .i64 (xd : Nat), .int .u64 (xt : Nat)] 42)
              have H6 := Lib.hid ((HR.out.quiet hO (Nat.le_refl _)).quiet oA (Nat.le_refl _))
              have f6 := (oA.cell (Nat.lt_of_lt_of_le hz4 hO.size) (by simp) 2).trans ((hO.cell hz4 (by simp) 2).trans hc4)
              have p1 := World.cell?_alloc_new w5 #[.int .i64 (xd : Nat), .int .u64 (xt : Nat)] 42 1
              obtain ⟨bd, hbd⟩ : ∃ q, q = w5.heap.size := ⟨_, rfl⟩
              rw [← hbd] at p1
              clear HR hO oA hz4 hc4 hnx hem
              go_upto_region 30 with fail
              rw [← hbd]
              clear hbd
              generalize w5.alloc (.cells #[.int .i64 (xd : Nat), .int .u64 (xt : Nat)] 42) = w6 at *
              simp only [List.getElem?_toArray, List.getElem?_cons_zero, List.getElem?_cons_succ] at p1
              have HN := Lib.hid (fun (k : Nat) => K.now (w6.drewN k) p F4 T4 L4 (K.kept H6.out.wh (Only.drewN [] w6 k) (by simp)))
              go_quiet (first | (go_at_call 20; exact Calls.quiet_of_same ((HN.out _).mono fun _ _ ⟨h, h'⟩ => ⟨h, h'.symm⟩)))
              have H7 := Lib.hid (H6.out.quiet (Only.drewN [] w6 nq) (Nat.le_refl _))
              clear H6 HN f6 p1
              generalize w6.drewN nq = w7 at *
              go_wp2_with fail
              refine (K.lenO _ p F4 T4 L4 H7.out.wh).mono ?_
              rintro e wz ⟨rfl, hO⟩
              have HZ := Lib.hid (H7.out.quiet hO (Nat.le_refl _))
              clear hO H7
              go_wp2_with fail
              go_roundw
              case rel => first | exact ⟨i + 1, F4, T4, _, by push_cast; rfl, by omega, by have := HL.out; omega, HZ⟩ | ((repeat apply Exists.intro); exact ⟨⟨i + 1, F4, T4, _, by push_cast; rfl, by omega, by have := HL.out; omega, HZ⟩, rfl⟩)
              case measure => simp [intOf]; omega
            | false =>
              have hmem : (xd, xt) ∈ L4 := by rw [← hnx]; exact nxt_mem hem
              go_wp2_with fail
              refine (K.next _ p F4 T4 L4 HR.out.wh).mono ?_
              rintro e w5 ⟨he, hO⟩
              rw [hnx, hem] at he
              replace he : e = .returned (.tuple #[.agg #[.int .i64 (xd : Nat), .int .u64 (xt : Nat)], .bool true]) := he
              subst he
              have oA := Only.alloc [] w5 (.cells #[.int .i64 (xd : Nat), .int .u64 (xt : Nat)] 42)
              have H6 := Lib.hid ((HR.out.quiet hO (Nat.le_refl _)).quiet oA (Nat.le_refl _))
              have f6 := (oA.cell (Nat.lt_of_lt_of_le hz4 hO.size) (by simp) 2).trans ((hO.cell hz4 (by simp) 2).trans hc4)
              have p1 := World.cell?_alloc_new w5 #[.int .i64 (xd : Nat), .int .u64 (xt : Nat)] 42 1
              obtain ⟨bd, hbd⟩ : ∃ q, q = w5.heap.size := ⟨_, rfl⟩
              rw [← hbd] at p1
              clear HR hO oA hz4 hc4 hnx hem
              go_upto_region 30 with fail
              rw [← hbd]
              clear hbd
              generalize w5.alloc (.cells #[.int .i64 (xd : Nat), .int .u64 (xt : Nat)] 42) = w6 at *
              simp only [List.getElem?_toArray, List.getElem?_cons_zero, List.getElem?_cons_succ] at p1
              have HN := Lib.hid (fun (k : Nat) => K.now (w6.drewN k) p F4 T4 L4 (K.kept H6.out.wh (Only.drewN [] w6 k) (by simp)))
              by_cases hz62 : zn ≤ 4611686018427387904
              · have r1 : decide ((zn : Int) ≤ 4611686018427387904) = true := decide_eq_true (by omega)
                have hlt4 := A4.out hz62 (xd, xt) hmem
                simp only at hlt4
                have r2 : decide ((xt : Int) ≤ (T4 : Int)) = false := decide_eq_false (by omega)
                have r2n : decide (xt ≤ T4) = false := decide_eq_false (by omega)
                go_quiet (first | (go_at_call 20; exact Calls.quiet_of_same ((HN.out _).mono fun _ _ ⟨h, h'⟩ => ⟨h, h'.symm⟩)))
                have H7 := Lib.hid (H6.out.quiet (Only.drewN [] w6 nq) (Nat.le_refl _))
                clear H6 HN f6 p1
                generalize w6.drewN nq = w7 at *
                go_wp2_with fail
                refine (K.lenO _ p F4 T4 L4 H7.out.wh).mono ?_
                rintro e wz ⟨rfl, hO⟩
                have HZ := Lib.hid (H7.out.quiet hO (Nat.le_refl _))
                clear hO H7
                go_wp2_with fail
                go_roundw
                case rel => first | exact ⟨i + 1, F4, T4, _, by push_cast; rfl, by omega, by have := HL.out; omega, HZ⟩ | ((repeat apply Exists.intro); exact ⟨⟨i + 1, F4, T4, _, by push_cast; rfl, by omega, by have := HL.out; omega, HZ⟩, rfl⟩)
                case measure => simp [intOf]; omega
              · have r1 : decide ((zn : Int) ≤ 4611686018427387904) = false := decide_eq_false (by omega)
                go_quiet (first | (go_at_call 20; exact Calls.quiet_of_same ((HN.out _).mono fun _ _ ⟨h, h'⟩ => ⟨h, h'.symm⟩)))
                have H7 := Lib.hid (H6.out.quiet (Only.drewN [] w6 nq) (Nat.le_refl _))
                clear H6 HN f6 p1
                generalize w6.drewN nq = w7 at *
                go_wp2_with fail
                refine (K.lenO _ p F4 T4 L4 H7.out.wh).mono ?_
                rintro e wz ⟨rfl, hO⟩
                have HZ := Lib.hid (H7.out.quiet hO (Nat.le_refl _))
                clear hO H7
                go_wp2_with fail
                go_roundw
                case rel => first | exact ⟨i + 1, F4, T4, _, by push_cast; rfl, by omega, by have := HL.out; omega, HZ⟩ | ((repeat apply Exists.intro); exact ⟨⟨i + 1, F4, T4, _, by push_cast; rfl, by omega, by have := HL.out; omega, HZ⟩, rfl⟩)
                case measure => simp [intOf]; omega
      have d2 : (a == 2) = false := by simpa using h2
      have dn : (((l.length : Nat) : Int) != (l.length : Int)) = false := by simp
      clear e1 e2
      go_wp2_with fail
      refine (K.lenO _ p F t l H3.out.wh).mono ?_
      rintro e wz ⟨rfl, hO⟩
      have HZ := Lib.hid (H3.out.quiet hO (Nat.le_refl _))
      clear hO H3
      go_wp2_with fail
      go_roundw
      case rel => first | exact ⟨i + 1, F, t, _, by push_cast; rfl, by omega, by omega, HZ⟩ | ((repeat apply Exists.intro); exact ⟨⟨i + 1, F, t, _, by push_cast; rfl, by omega, by omega, HZ⟩, rfl⟩)
      case measure => simp [intOf]; omega
    · obtain rfl : i = len := by omega
      clear hlt
      go_wp2_with fail
      go_ret
      exact ⟨rfl, HO.out.below⟩
end wheelRight
end Go.Proofs.Ytddiapihopgpbaa
