/-
  WheelCancels: a timer that is cancelled is never due, and the others are due as if it had never been, of whatever keeps what a wheel is asked for: for every input true, and the input reads as it did; no condition.
-/
import Derived.Test.YtddiapihopgpbaaWhDuo
import Derived.Deep.CutRange
import Derived.Deep.CutBlock
import Derived.Deep.RegionHeld3
import Derived.BigQuiet
namespace Go.Proofs.Ytddiapihopgpbaa
open Go.ChangeShapes Go.WideShapes Go.ChangeAt Go.RowKit Go.Deep
namespace wheelCancels
open Wh
open Ph (Only)
set_option maxRecDepth 100000 in
set_option maxHeartbeats 8000000 in
theorem walk (K : Wk) (n0 : Nat) (pa : Option Addr) (len cap : Nat) (y : Nat → WCallsT) (id : Int) (af : Nat) (w : World) (hl : len ≤ cap ∧ cap ≤ maxLen) (hx : WCalls w.heap.size w pa len y) (hid : W64 id) :
    Calls Try.prog 6 #[.int .u64 (n0 : Nat), .slice pa len cap, .int .i64 id, .int .u64 (af : Nat)] w fun e w' => e = .returned (.bool true) ∧ Below w.heap.size w w' := by
  have hz : ∀ w, (zeroValue 42).run Try.prog w = .ok (pV (0, 0)) w := fun _ => by kernel_rfl
  have HX := Lib.hid hx
  have hlm : len ≤ maxLen := by omega
  unfold maxLen at hlm
  clear hx hl
  go_enter Try.func6, Try.ntmps6
  go_wp2_with fail
  refine (alive_any K _).mono ?_
  rintro e w0 ⟨rfl, B0⟩
  by_cases g1 : 100 < len
  · have g1' : (100 : Int) < (len : Int) := by omega
    go_wp2
    go_ret
    exact ⟨rfl, B0⟩
  have g1' : ¬ (100 : Int) < (len : Int) := by omega
  have g10 : len ≤ 100 := by omega
  clear g1
  by_cases g2 : 2305843009213693952 < (n0 : Int)
  · have g2d : decide ((2305843009213693952 : Int) < (n0 : Int)) = true := decide_eq_true (by omega)
    go_wp2
    go_ret
    exact ⟨rfl, B0⟩
  have g2d : decide ((2305843009213693952 : Int) < (n0 : Int)) = false := decide_eq_false (by omega)
  by_cases g3 : 1152921504606846976 < (af : Int)
  · have g3d : decide ((1152921504606846976 : Int) < (af : Int)) = true := decide_eq_true (by omega)
    go_wp2
    go_ret
    exact ⟨rfl, B0⟩
  have g3d : decide ((1152921504606846976 : Int) < (af : Int)) = false := decide_eq_false (by omega)
  go_wp2_with fail
  refine (K.new_yes n0 w0 (by omega)).mono ?_
  rintro e w1 ⟨p, F1, rfl, hW, hF, hO⟩
  have H1 : On K w.heap.size w p F1 n0 [] w1 := ⟨hW, fun x hx => Nat.le_trans B0.size (hF x hx), B0.trans (hO.below B0.size (by simp))⟩
  clear hW hF hO B0
  go_wp2_with fail
  refine (K.new_yes n0 w1 (by omega)).mono ?_
  rintro e w2 ⟨q, G1, rfl, hW, hF, hO⟩
  have H2 : Duo K w.heap.size w p F1 n0 [] q G1 n0 [] w2 := ⟨H1.quiet hO (Nat.le_refl _), ⟨hW, fun x hx => Nat.le_trans (H1.size (Nat.le_refl _)) (hF x hx), H1.below.trans (hO.below (H1.size (Nat.le_refl _)) (by simp))⟩, fun x hx hn => by have h1 := K.lt H1.wh x hx; have h2 := hF x hn; omega⟩
  clear hW hF hO H1
  clear g1' g2d g3d
  go_wp2_with fail
  go_loopw [13] (fun c wr => ∃ (i : Nat) (F G : List Nat) (l : List DuT), c = .int .i64 i ∧ i ≤ len ∧ l.length ≤ i ∧ Hid (Duo K w.heap.size w p F n0 l q G n0 (dl id l) wr)) (fun c _ => len - (intOf c).toNat)
  case atStart => exact ⟨0, F1, G1, [], rfl, Nat.zero_le _, Nat.le_refl _, Lib.hid (by rw [dl_nil]; exact H2)⟩
  case round =>
    obtain ⟨i, F, G, l, rfl, hi, hli, HO⟩ := hrel
    clear H2
    by_cases hlt : i < len
    · obtain ⟨b, off, rfl, hbl, _⟩ := HX.out.at HO.out.a.below hlt
      rcases hyi : y i with ⟨a, d, z⟩
      have HS := Lib.hid (fun (w' : World) (h : Below w.heap.size w w') => show (w'.cell? ⟨b, off + i * 3 + 1, none⟩ = some (.int .i64 d) ∧ w'.cell? ⟨b, off + i * 3 + 2, none⟩ = some (.int .u64 z)) ∧ W64 d ∧ 0 ≤ z ∧ z ≤ 18446744073709551615 from by
        obtain ⟨b', off', e, _, hC⟩ := HX.out.at h hlt
        cases e
        rw [hyi] at hC
        exact ⟨⟨hC.c1, hC.c2⟩, hC.w1, bounds_u64 hC.w2⟩)
      obtain ⟨_, u1, u2, u3⟩ := HS.out _ HO.out.a.below
      obtain ⟨zn, rfl⟩ : ∃ zn : Nat, z = (zn : Int) := ⟨z.toNat, by omega⟩
      have hi0 : (0 : Int) ≤ (i : Int) := by omega
      have hil : (i : Int) < (len : Int) := by omega
      clear hyi
      have FI := Lib.hid (K.fine HO.out.a.wh)
      have hd := Only.drewN [] wr 1
      have HD := Lib.hid (HO.out.quiet hd (Nat.le_refl _))
      have hB : Below w.heap.size w wr.drew := HD.out.a.below
      have hW := Lib.hid (K.add wr.drew p F _ _ d zn HD.out.a.wh u1 (by omega))
      clear HO hd
      go_upto_region 12 with fail
      go_region_held3 (fun w' => w'.cell? ⟨b, off + i * 3 + 1, none⟩ = some (.int .i64 d) ∧ w'.cell? ⟨b, off + i * 3 + 2, none⟩ = some (.int .u64 (zn : Int))) (exact (HS.out _ hB).1) (first | (go_at_call 10; refine hW.out.mono ?_; rintro e w3 ⟨rfl, F3, hw3, ho3, hf3⟩; have H3 := HD.out.stepA hw3 ho3 hf3 (Nat.le_refl _); replace hB := H3.a.below))
      all_goals
        have HO := Lib.hid H3
        clear H3 hw3 ho3 hf3 hB HD hW
        obtain ⟨wr, rfl⟩ : ∃ wr, wr = w3 := ⟨_, rfl⟩
        have hcx := (HS.out _ HO.out.a.below).1.1
        by_cases hid2 : d = id
        · subst hid2
          have dne : (d != d) = false := by simp
          go_wp2_with fail
          go_roundw
          case rel => exact ⟨i + 1, F3, G, _, by push_cast; rfl, by omega, addL_len hli d zn, Lib.hid (by rw [dl_same d zn FI.out.srt]; exact HO.out)⟩
          case measure => simp only [intOf]; omega
        · have dne : (d != id) = true := by simpa using hid2
          go_upto_region 14 with fail
          clear hcx
          have hd := Only.drewN [] wr 1
          have HD := Lib.hid (HO.out.quiet hd (Nat.le_refl _))
          have hB : Below w.heap.size w wr.drew := HD.out.b.below
          have hW := Lib.hid (K.add wr.drew q G _ _ d zn HD.out.b.wh u1 (by omega))
          clear HO hd
          go_region_held3 (fun w' => w'.cell? ⟨b, off + i * 3 + 1, none⟩ = some (.int .i64 d) ∧ w'.cell? ⟨b, off + i * 3 + 2, none⟩ = some (.int .u64 (zn : Int))) (exact (HS.out _ hB).1) (first | (go_at_call 10; refine hW.out.mono ?_; rintro e w4 ⟨rfl, G3, hw3, ho3, hf3⟩; have H3 := HD.out.stepB hw3 ho3 hf3 (Nat.le_refl _); replace hB := H3.a.below))
          all_goals
            have HO := Lib.hid H3
            clear H3 hw3 ho3 hf3 hB HD hW
            go_wp2_with fail
            go_roundw
            case rel => exact ⟨i + 1, F3, G3, _, by push_cast; rfl, by omega, addL_len hli d zn, Lib.hid (by have h := HO.out; rw [addL_dl hid2 zn FI.out.srt] at h; exact h)⟩
            case measure => simp only [intOf]; omega
    · obtain rfl : i = len := by omega
      clear hlt
      have LT := Lib.hid (K.at_ _ p F n0 l id HO.out.a.wh hid)
      have hcb := atP_can id l
      rw [hcb] at LT
      clear hcb
      go_wp2_with fail
      refine LT.out.mono ?_
      rintro e w3 ⟨rfl, hO⟩
      have H3 := Lib.hid (HO.out.quiet hO (Nat.le_refl _))
      clear LT HO hO
      go_wp2_with fail
      have CC := K.can w3 p F n0 l id H3.out.a.wh hid
      rw [canL_dl] at CC
      refine CC.mono ?_
      rintro e w4 ⟨rfl, F4, hW, hO, hF⟩
      have H4 := Lib.hid (H3.out.stepA hW hO hF (Nat.le_refl _))
      have hn := dl_not (d := id) (l := l)
      have hle := dl_len id l
      clear CC hW hO hF H3
      generalize dl id l = L at *
      generalize canB id l = cb at *
      have dcb : (cb != cb) = false := by simp
      have dll : (((L.length : Nat) : Int) != ((L.length : Nat) : Int)) = false := by simp
      go_wp2_with fail
      refine (K.lenO w4 p F4 n0 L H4.out.a.wh).mono ?_
      rintro e w5 ⟨rfl, hO⟩
      have H5 := Lib.hid (H4.out.quiet hO (Nat.le_refl _))
      clear H4 hO
      go_wp2_with fail
      refine (K.lenO w5 q G n0 L H5.out.b.wh).mono ?_
      rintro e w6 ⟨rfl, hO⟩
      have H6 := Lib.hid (H5.out.quiet hO (Nat.le_refl _))
      clear H5 hO
      have hwr : IntKind.u64.wrap ((n0 : Int) + (af : Int)) = ((n0 + af : Nat) : Int) := by rw [IntKind.wrap_u64]; push_cast; omega
      go_wp2_with fail
      refine (K.adv w6 p F4 n0 L (n0 + af) H6.out.a.wh (by omega)).mono ?_
      rintro e w7 ⟨v7, rfl, F7, ⟨hW, hS⟩, hO, hF⟩
      have H7 := Lib.hid (H6.out.stepA hW hO hF (Nat.le_refl _))
      have hGlt := Lib.hid (K.lt H6.out.b.wh)
      obtain ⟨xa, xc, rfl⟩ := hS.form
      have S7 := Lib.hid hS
      have m7 := fun x hx => hn x (advO_mem (t := n0) (a := n0 + af) hx)
      have l7 := Nat.le_trans (advO_len n0 (n0 + af) L) (Nat.le_trans hle hli)
      clear hW hO hF hS H6
      go_wp2_with fail
      refine (K.adv w7 q G n0 L (n0 + af) H7.out.b.wh (by omega)).mono ?_
      rintro e w8 ⟨v8, rfl, G8, ⟨hW, hS⟩, hO, hF⟩
      have H8 := Lib.hid (H7.out.stepB hW hO hF (Nat.le_refl _))
      obtain ⟨ya, yc, rfl⟩ := hS.form
      have T8 := Lib.hid hS
      have S8 := Lib.hid (S7.out.kept hO (fun x hx => Or.inr (Or.inl (hGlt.out x hx))))
      have len8 : (advL n0 (n0 + af) L).length = (advL n0 (n0 + af) L).length := rfl
      clear hW hO hF hS H7 S7 hGlt hwr dcb dll
      generalize advL n0 (n0 + af) L = L2 at *
      generalize advT n0 (n0 + af) = T2 at *
      generalize advO n0 (n0 + af) L = X at *
      go_wp2_with fail
      go_loopw [18] (fun c wx => ∃ k : Nat, c = .int .i64 k ∧ k ≤ X.length ∧ Hid (Duo K w.heap.size w p F7 T2 L2 q G8 T2 L2 wx) ∧ Hid (Seen w6.heap.size F7 wx (.slice xa X.length xc) X) ∧ Hid (Seen w7.heap.size G8 wx (.slice ya X.length yc) X)) (fun c _ => X.length - (intOf c).toNat)
      case atStart => exact ⟨0, rfl, Nat.zero_le _, H8, S8, T8⟩
      case round =>
        obtain ⟨k, rfl, hk, HR, SR, TR⟩ := hrel
        clear H8 S8 T8
        by_cases hkl : k < X.length
        · obtain ⟨x, hx⟩ : ∃ x, X[k]? = some x := ⟨X[k], List.getElem?_eq_getElem hkl⟩
          obtain ⟨bx, ox, rfl, lx, -, -, x0, x1⟩ := SR.out.at hx
          obtain ⟨by_, oy, rfl, ly, -, -, y0, y1⟩ := TR.out.at hx
          have hne := m7 x (List.mem_of_getElem? hx)
          obtain ⟨xd, xt⟩ := x
          simp only at x0 x1 y0 y1 hne
          have dne : (((xd : Nat) : Int) == id) = false := by simpa using hne
          have eE : ∀ w, (binOp .neq 42 (.agg #[.int .i64 (xd : Nat), .int .u64 (xt : Nat)]) (.agg #[.int .i64 (xd : Nat), .int .u64 (xt : Nat)])).run Try.prog w = .ok (.bool false) w := fun w => by
            have h := neqDu (xd, xt) (xd, xt) w
            rw [decide_eq_true rfl] at h
            exact h
          clear hx hne
          go_upto_region 25 with fail
          go_quiet (fail)
          have hq := Only.drewN [] wr nq
          have HQ := Lib.hid (HR.out.quiet hq (Nat.le_refl _))
          have SQ := Lib.hid (SR.out.kept hq (by simp))
          have TQ := Lib.hid (TR.out.kept hq (by simp))
          clear HR SR TR x0 x1 y0 y1 hq lx ly
          generalize wr.drewN nq = wq at *
          go_wp2_with fail
          go_roundw
          case rel => exact ⟨k + 1, by push_cast; rfl, by omega, HQ, SQ, TQ⟩
          case measure => simp only [intOf]; omega
        · obtain rfl : k = X.length := by omega
          clear SR TR
          go_wp2_with fail
          refine (K.lenO _ p F7 T2 L2 HR.out.a.wh).mono ?_
          rintro e w9 ⟨rfl, hO⟩
          have H9 := Lib.hid (HR.out.quiet hO (Nat.le_refl _))
          clear HR hO
          go_wp2_with fail
          refine (K.lenO w9 q G8 T2 L2 H9.out.b.wh).mono ?_
          rintro e wa ⟨rfl, hO⟩
          have Ha := H9.out.quiet hO (Nat.le_refl _)
          clear H9 hO
          go_wp2_with fail
          go_ret
          exact ⟨rfl, Ha.a.below⟩
end wheelCancels
end Go.Proofs.Ytddiapihopgpbaa
