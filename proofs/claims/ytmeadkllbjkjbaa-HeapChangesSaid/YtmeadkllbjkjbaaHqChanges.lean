/-
  HeapChanges: a key that is changed is as if it had been pushed so, and an item that is removed is as if it had never been, of whatever keeps what a heap is asked for: for every input true, and the input reads as it did; no condition.
-/
import Derived.Test.YtmeadkllbjkjbaaHqQuad
import Derived.Deep.CutRange
import Derived.Deep.CutBlock
import Derived.Deep.RegionHeld3
import Derived.BigQuiet
namespace Go.Proofs.Ytmeadkllbjkjbaa
open Go.ChangeShapes Go.WideShapes Go.ChangeAt Go.RowKit Go.Deep
namespace heapChanges
open Hq
open Ph (Only)
set_option maxRecDepth 100000 in
set_option maxHeartbeats 8000000 in
theorem walk (K : Hk) (pa : Option Addr) (len cap : Nat) (y : Nat → Int) (at_ : Int) (key : Nat) (w : World) (hl : len ≤ maxLen) (hx : WSteps w.heap.size w pa len y) (hkey : key < 18446744073709551616) :
    Calls Try.prog 5 #[.slice pa len cap, .int .i64 at_, .int .u64 (key : Nat)] w fun e w' => e = .returned (.bool true) ∧ Below w.heap.size w w' := by
  have HX := Lib.hid hx
  unfold maxLen at hl
  clear hx
  go_enter Try.func5, Try.ntmps5
  go_wp2_with fail
  refine (alive_any K _).mono ?_
  rintro e w0 ⟨rfl, B0⟩
  by_cases g1 : 64 < len
  · have g1' : (64 : Int) < (len : Int) := by omega
    go_wp2
    go_ret
    exact ⟨rfl, B0⟩
  have g1' : ¬ (64 : Int) < (len : Int) := by omega
  have g10 : len ≤ 64 := by omega
  clear g1
  by_cases g2 : at_ < 0
  · go_wp2
    go_ret
    exact ⟨rfl, B0⟩
  obtain ⟨n, rfl⟩ : ∃ n : Nat, at_ = (n : Int) := ⟨at_.toNat, by omega⟩
  by_cases g3 : len ≤ n
  · have g3' : (len : Int) ≤ (n : Int) := by omega
    have g2' : (0 : Int) ≤ (n : Int) := by omega
    go_wp2
    go_ret
    exact ⟨rfl, B0⟩
  have g3' : ¬ (len : Int) ≤ (n : Int) := by omega
  have g2' : (0 : Int) ≤ (n : Int) := by omega
  have g30 : n < len := by omega
  clear g2 g3
  go_wp2_with fail
  refine (K.new w0).mono ?_
  rintro e w1 ⟨pA, Fa, rfl, hW, hF, hO⟩
  have Oa : On K w.heap.size w pA Fa [] w1 := ⟨hW, fun x hx => Nat.le_trans B0.size (hF x hx), B0.trans (hO.below B0.size (by simp))⟩
  clear hW hF hO
  clear B0
  go_wp2_with fail
  refine (K.new w1).mono ?_
  rintro e w2 ⟨pB, Fb, rfl, hW, hF, hO⟩
  have Ob : On K w.heap.size w pB Fb [] w2 := ⟨hW, fun x hx => Nat.le_trans (Oa.size (Nat.le_refl _)) (hF x hx), Oa.below.trans (hO.below (Oa.size (Nat.le_refl _)) (by simp))⟩
  have sab : Sep Fa Fb := fun x hx hn => by have h1 := K.lt Oa.hp x hx; have h2 := hF x hn; omega
  have Oa := Oa.quiet hO (Nat.le_refl _)
  clear hW hF hO
  go_wp2_with fail
  refine (K.new w2).mono ?_
  rintro e w3 ⟨pC, Fc, rfl, hW, hF, hO⟩
  have Oc : On K w.heap.size w pC Fc [] w3 := ⟨hW, fun x hx => Nat.le_trans (Oa.size (Nat.le_refl _)) (hF x hx), Oa.below.trans (hO.below (Oa.size (Nat.le_refl _)) (by simp))⟩
  have sac : Sep Fa Fc := fun x hx hn => by have h1 := K.lt Oa.hp x hx; have h2 := hF x hn; omega
  have sbc : Sep Fb Fc := fun x hx hn => by have h1 := K.lt Ob.hp x hx; have h2 := hF x hn; omega
  have Oa := Oa.quiet hO (Nat.le_refl _)
  have Ob := Ob.quiet hO (Nat.le_refl _)
  clear hW hF hO
  go_wp2_with fail
  refine (K.new w3).mono ?_
  rintro e w4 ⟨pD, Fd, rfl, hW, hF, hO⟩
  have Od : On K w.heap.size w pD Fd [] w4 := ⟨hW, fun x hx => Nat.le_trans (Oa.size (Nat.le_refl _)) (hF x hx), Oa.below.trans (hO.below (Oa.size (Nat.le_refl _)) (by simp))⟩
  have sad : Sep Fa Fd := fun x hx hn => by have h1 := K.lt Oa.hp x hx; have h2 := hF x hn; omega
  have sbd : Sep Fb Fd := fun x hx hn => by have h1 := K.lt Ob.hp x hx; have h2 := hF x hn; omega
  have scd : Sep Fc Fd := fun x hx hn => by have h1 := K.lt Oc.hp x hx; have h2 := hF x hn; omega
  have H0 : Hid (Quad K w.heap.size w pA Fa [] pB Fb [] pC Fc [] pD Fd [] w4) := Lib.hid ⟨Oa.quiet hO (Nat.le_refl _), Ob.quiet hO (Nat.le_refl _), Oc.quiet hO (Nat.le_refl _), Od, sab, sac, sad, sbc, sbd, scd⟩
  clear hW hF hO
  clear Oa Ob Oc Od sab sac sad sbc sbd scd
  have hq : 0 < len := by omega
  go_wp2_with fail
  go_loopw [11] (fun c wr => ∃ (i : Nat) (Fa : List Nat) (la : List ItT) (Fb : List Nat) (lb : List ItT) (Fc : List Nat) (lc : List ItT) (Fd : List Nat), c = .int .i64 i ∧ i ≤ len ∧ Hid (Is y (fun _ => True) i la) ∧ Hid (Is (put1 y n key) (fun _ => True) i lb) ∧ Hid (Is y (fun j => j ≠ n) i lc) ∧ Hid (Quad K w.heap.size w pA Fa la pB Fb lb pC Fc lc pD Fd la wr)) (fun c _ => len - (intOf c).toNat)
  case atStart => exact ⟨0, Fa, [], Fb, [], Fc, [], Fd, rfl, Nat.zero_le _, Lib.hid (Is.none _ _), Lib.hid (Is.none _ _), Lib.hid (Is.none _ _), H0⟩
  case round =>
    obtain ⟨i, Fa, la, Fb, lb, Fc, lc, Fd, rfl, hi, IA, IB, IC, HQ⟩ := hrel
    clear H0
    by_cases hlt : i < len
    · obtain ⟨b, off, rfl, hbl, hc, u2, u3⟩ := HX.out.at HQ.out.a.below hlt
      obtain ⟨zn, hzn⟩ : ∃ zn : Nat, y i = (zn : Int) := ⟨(y i).toNat, by omega⟩
      have HZ := Lib.hid hzn
      rw [hzn] at hc u2 u3
      have hi0 : (0 : Int) ≤ (i : Int) := by omega
      have hil : (i : Int) < (len : Int) := by omega
      have HS := Lib.hid (fun (w' : World) (h : Below w.heap.size w w') => show w'.cell? ⟨b, off + i, none⟩ = some (.int .u64 (zn : Int)) from by
        obtain ⟨b', off', e, _, hC, _⟩ := HX.out.at h hlt
        cases e
        rw [HZ.out] at hC
        exact hC)
      obtain ⟨ea, na⟩ := IA.out.push (by omega) trivial hzn
      have NA := Lib.hid na
      have CA := K.push wr pA Fa la (i : Nat) zn HQ.out.a.hp (wf_nat (by omega)) (by omega)
      rw [ea] at CA
      clear hzn na
      go_wp2_with fail
      refine CA.mono ?_
      rintro e w5 ⟨rfl, hg⟩
      obtain ⟨Fa', Q5⟩ := HQ.out.stepA hg (Nat.le_refl _)
      have Q5 := Lib.hid Q5
      clear hg hc CA HQ
      have hc := HS.out _ Q5.out.a.below
      have CA := K.push w5 pD Fd la (i : Nat) zn Q5.out.d.hp (wf_nat (by omega)) (by omega)
      rw [ea] at CA
      go_wp2_with fail
      refine CA.mono ?_
      rintro e w6 ⟨rfl, hg⟩
      obtain ⟨Fd', Q6⟩ := Q5.out.stepD hg (Nat.le_refl _)
      have Q6 := Lib.hid Q6
      clear hg hc CA Q5 ea
      have hc := HS.out _ Q6.out.a.below
      by_cases hin : i = n
      · have NC := Lib.hid (IC.out.skip (by simp; exact hin))
        obtain ⟨eb, nb⟩ := IB.out.push (z := key) (by omega) trivial (by rw [hin]; exact put1_at _ _ _)
        have NB := Lib.hid nb
        have hd : ((i : Int) == (n : Int)) = true := by simp; omega
        have CA := K.push w6 pB Fb lb (i : Nat) key Q6.out.b.hp (wf_nat (by omega)) hkey
        rw [eb] at CA
        clear hin nb eb
        go_wp2_with fail
        refine CA.mono ?_
        rintro e w7 ⟨rfl, hg⟩
        obtain ⟨Fb', Q7⟩ := Q6.out.stepB hg (Nat.le_refl _)
        have Q7 := Lib.hid Q7
        clear hg hc CA Q6
        go_wp2_with fail
        go_roundw
        case rel => first | exact ⟨i + 1, _, _, _, _, _, _, _, by push_cast; rfl, by omega, NA, NB, NC, Q7⟩ | ((repeat apply Exists.intro); exact ⟨⟨i + 1, _, _, _, _, _, _, _, by push_cast; rfl, by omega, NA, NB, NC, Q7⟩, rfl⟩)
        case measure => simp [intOf]; omega
      · have hd : ((i : Int) == (n : Int)) = false := by simp; omega
        obtain ⟨ec, nc⟩ := IC.out.push (by omega) hin HZ.out
        have NC := Lib.hid nc
        obtain ⟨eb, nb⟩ := IB.out.push (z := zn) (by omega) trivial (by rw [put1_of _ hin]; exact HZ.out)
        have NB := Lib.hid nb
        have CA := K.push w6 pC Fc lc (i : Nat) zn Q6.out.c.hp (wf_nat (by omega)) (by omega)
        rw [ec] at CA
        clear hin nb nc ec
        go_wp2_with fail
        refine CA.mono ?_
        rintro e w7 ⟨rfl, hg⟩
        obtain ⟨Fc', Q7⟩ := Q6.out.stepC hg (Nat.le_refl _)
        have Q7 := Lib.hid Q7
        clear hg hc CA Q6
        have CA := K.push w7 pB Fb lb (i : Nat) zn Q7.out.b.hp (wf_nat (by omega)) (by omega)
        rw [eb] at CA
        clear eb
        go_wp2_with fail
        refine CA.mono ?_
        rintro e w8 ⟨rfl, hg⟩
        obtain ⟨Fb', Q8⟩ := Q7.out.stepB hg (Nat.le_refl _)
        have Q8 := Lib.hid Q8
        clear hg CA Q7
        go_wp2_with fail
        go_roundw
        case rel => first | exact ⟨i + 1, _, _, _, _, _, _, _, by push_cast; rfl, by omega, NA, NB, NC, Q8⟩ | ((repeat apply Exists.intro); exact ⟨⟨i + 1, _, _, _, _, _, _, _, by push_cast; rfl, by omega, NA, NB, NC, Q8⟩, rfl⟩)
        case measure => simp [intOf]; omega
    · obtain rfl : i = len := by omega
      obtain ⟨zn, hzn⟩ : ∃ zn : Nat, y n = (zn : Int) := by
        obtain ⟨b, off, rfl, hbl, hc, u2, u3⟩ := HX.out.at HQ.out.a.below g30
        exact ⟨(y n).toNat, by omega⟩
      have fa := K.fine HQ.out.a.hp
      have fb := K.fine HQ.out.b.hp
      have fc := K.fine HQ.out.c.hp
      obtain ⟨e1, e2⟩ := change_is IA.out IB.out fa fb g30 g10 hzn hkey
      obtain ⟨e3, e4⟩ := remove_is IA.out IC.out fa fc g30 hzn
      have FL := Lib.hid fb.len
      have FC := Lib.hid fc.len
      have CA := K.chg wr pA Fa la (n : Nat) key HQ.out.a.hp (wf_nat (by omega)) hkey
      rw [e1, e2] at CA
      clear hzn fa fb fc IA IB IC e1 e2
      go_wp2_with fail
      refine CA.mono ?_
      rintro e w5 ⟨rfl, hg⟩
      obtain ⟨Fa', Q5⟩ := HQ.out.stepA hg (Nat.le_refl _)
      have Q5 := Lib.hid Q5
      clear hg CA HQ
      have CA := K.rem w5 pD Fd la (n : Nat) Q5.out.d.hp (wf_nat (by omega))
      rw [e3, e4] at CA
      clear e3 e4
      go_wp2_with fail
      refine CA.mono ?_
      rintro e w6 ⟨rfl, hg⟩
      obtain ⟨Fd', Q6⟩ := Q5.out.stepD hg (Nat.le_refl _)
      have Q6 := Lib.hid Q6
      clear hg CA Q5
      obtain ⟨Llb, hLlb⟩ : ∃ Llb, lb.map (·.1) = Llb := ⟨_, rfl⟩
      have nLlb : Llb.length ≤ 64 := by rw [← hLlb, List.length_map]; exact FL.out
      have NLlb := Lib.hid nLlb
      clear nLlb
      have CL := K.list w6 pA Fa' _ Q6.out.a.hp
      rw [hLlb] at CL
      go_wp2_with fail
      refine CL.mono ?_
      rintro e w7 ⟨v1, rfl, hS1, hO⟩
      have s1 := Lib.hid hS1
      obtain ⟨a1, c1, rfl⟩ := hS1.form
      have Q7 := Lib.hid (Q6.out.quiet hO (Nat.le_refl _))
      clear hO Q6 hS1 CL
      have CL := K.list w7 pB Fb _ Q7.out.b.hp
      rw [hLlb] at CL
      clear hLlb
      go_wp2_with fail
      refine CL.mono ?_
      rintro e w8 ⟨v2, rfl, hS2, hO⟩
      have s1' := s1.out.kept hO (by simp)
      obtain ⟨a2, c2, rfl⟩ := hS2.form
      have CS := same_any _ _ _ _ Llb Llb w8 (by have := NLlb.out; omega) (by have := NLlb.out; omega) s1' hS2
      have hdd : decide (Llb = Llb) = true := decide_eq_true rfl
      rw [hdd] at CS
      clear hdd
      have Q8 := Lib.hid (Q7.out.quiet hO (Nat.le_refl _))
      clear hO Q7 hS2 s1' s1 CL
      go_wp2_with fail
      refine CS.mono ?_
      rintro e w9 ⟨rfl, hB⟩
      have Q9 := Lib.hid (Q8.out.quiet (Only.of hB []) (Nat.le_refl _))
      clear CS hB Q8
      obtain ⟨Llc, hLlc⟩ : ∃ Llc, lc.map (·.1) = Llc := ⟨_, rfl⟩
      have nLlc : Llc.length ≤ 64 := by rw [← hLlc, List.length_map]; exact FC.out
      have NLlc := Lib.hid nLlc
      clear nLlc
      have CL := K.list w9 pC Fc _ Q9.out.c.hp
      rw [hLlc] at CL
      go_wp2_with fail
      refine CL.mono ?_
      rintro e w10 ⟨v1, rfl, hS1, hO⟩
      have s1 := Lib.hid hS1
      obtain ⟨a1, c1, rfl⟩ := hS1.form
      have Q10 := Lib.hid (Q9.out.quiet hO (Nat.le_refl _))
      clear hO Q9 hS1 CL
      have CL := K.list w10 pD Fd' _ Q10.out.d.hp
      rw [hLlc] at CL
      clear hLlc
      go_wp2_with fail
      refine CL.mono ?_
      rintro e w11 ⟨v2, rfl, hS2, hO⟩
      have s1' := s1.out.kept hO (by simp)
      obtain ⟨a2, c2, rfl⟩ := hS2.form
      have CS := same_any _ _ _ _ Llc Llc w11 (by have := NLlc.out; omega) (by have := NLlc.out; omega) s1' hS2
      have hdd : decide (Llc = Llc) = true := decide_eq_true rfl
      rw [hdd] at CS
      clear hdd
      have Q11 := Lib.hid (Q10.out.quiet hO (Nat.le_refl _))
      clear hO Q10 hS2 s1' s1 CL
      go_wp2_with fail
      refine CS.mono ?_
      rintro e w12 ⟨rfl, hB⟩
      have Q12 := Lib.hid (Q11.out.quiet (Only.of hB []) (Nat.le_refl _))
      clear CS hB Q11
      go_wp2_with fail
      go_loopg [13] lb.length (fun gk _ wr => ∃ (Fa Fb : List Nat) (l : List ItT), l.length = gk ∧ l.length ≤ 64 ∧ Hid (Quad K w.heap.size w pA Fa l pB Fb l pC Fc lc pD Fd' lc wr))
      case atStart => exact ⟨Fa', Fb, lb, rfl, FL.out, Q12⟩
      case round =>
        obtain ⟨Ga, Gb, l, rfl, hl64, HQ⟩ := hrel
        clear Q12 FL
        cases l with
        | nil =>
          go_wp2_with fail
          refine (K.len wr pA Ga [] HQ.out.a.hp).mono ?_
          rintro e w20 ⟨he, hw⟩
          subst hw
          replace he : e = .returned (.int .i64 0) := he
          subst he
          go_wp2_with fail
          refine (K.len wr pB Gb [] HQ.out.b.hp).mono ?_
          rintro e w21 ⟨he, hw⟩
          subst hw
          replace he : e = .returned (.int .i64 0) := he
          subst he
          go_wp2_with fail
          go_ret
          exact ⟨rfl, HQ.out.a.below⟩
        | cons x r =>
          have hr64 : r.length ≤ 64 := by simp at hl64; omega
          have hpos : (0 : Int) < (r.length : Int) + 1 := by omega
          have hlr : ((((x :: r).length : Nat)) : Int) = (r.length : Int) + 1 := by simp
          have CL := K.len wr pA Ga (x :: r) HQ.out.a.hp
          rw [hlr] at CL
          clear hlr hl64
          go_wp2_with fail
          refine CL.mono ?_
          rintro e w20 ⟨he, hw⟩
          subst hw
          subst he
          go_wp2_with fail
          refine CL.mono ?_
          rintro e w21 ⟨he, hw⟩
          subst hw
          subst he
          clear CL
          go_wp2_with fail
          refine (K.pop wr pA Ga (x :: r) HQ.out.a.hp).mono ?_
          rintro e w22 ⟨he, hg⟩
          replace he : e = .returned (.tuple #[.int .i64 (x.1 : Nat), .int .u64 (x.2 : Nat), .bool true]) := he
          subst he
          obtain ⟨Ga', Q22⟩ := HQ.out.stepA hg (Nat.le_refl _)
          replace Q22 : Quad K w.heap.size w pA Ga' r pB Gb (x :: r) pC Fc lc pD Fd' lc w22 := Q22
          have Q22 := Lib.hid Q22
          clear hg HQ
          go_wp2_with fail
          refine (K.pop w22 pB Gb (x :: r) Q22.out.b.hp).mono ?_
          rintro e w23 ⟨he, hg⟩
          replace he : e = .returned (.tuple #[.int .i64 (x.1 : Nat), .int .u64 (x.2 : Nat), .bool true]) := he
          subst he
          obtain ⟨Gb', Q23⟩ := Q22.out.stepB hg (Nat.le_refl _)
          replace Q23 : Quad K w.heap.size w pA Ga' r pB Gb' r pC Fc lc pD Fd' lc w23 := Q23
          have Q23 := Lib.hid Q23
          clear hg Q22
          have d1 : (((x.1 : Nat) : Int) != ((x.1 : Nat) : Int)) = false := by simp
          have d2 : (((x.2 : Nat) : Int) != ((x.2 : Nat) : Int)) = false := by simp
          have d3 : (((r.length : Nat) : Int) != ((r.length : Nat) : Int) + 1 - 1) = false := by simp
          go_wp2_with fail
          refine (K.len w23 pA Ga' r Q23.out.a.hp).mono ?_
          rintro e w24 ⟨he, hw⟩
          subst hw
          subst he
          go_wp2_with fail
          go_roundg r.length
          case measure => simp
          case rel => first | exact ⟨Ga', Gb', r, rfl, hr64, Q23⟩ | ((repeat apply Exists.intro); exact ⟨⟨Ga', Gb', r, rfl, hr64, Q23⟩, rfl⟩)
end heapChanges
end Go.Proofs.Ytmeadkllbjkjbaa
