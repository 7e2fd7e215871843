/-
  FramesGives: a frame that is given back is taken again first, if no lesser one is nobody's; all of a guest's are given back at once: for every input true, and the input reads as it did; no condition.
-/
import Derived.Test.YtgeagnpgcjjifaaFrDo
import Derived.Test.YtgeagnpgcjjifaaFrLawMath
import Derived.Test.YtgeagnpgcjjifaaFrAlive
namespace Go.Proofs.Ytgeagnpgcjjifaa
open Go.ChangeShapes Go.WideShapes Go.ChangeAt Go.RowKit Go.Deep
namespace framesGives
open Fr
open Ph (Only)
/-- A row that isn't empty lies in a block. -/
theorem all_of {B : Nat} {w : World} {a : Option Addr} {n cap : Nat} {l : List Nat} (h : Seen B w (.slice a n cap) l) (hl : 0 < l.length) : ∃ b, a = some ⟨b, 0, none⟩ ∧ B ≤ b ∧ b < w.heap.size ∧ ∀ (i x : Nat), l[i]? = some x → w.cell? ⟨b, i, none⟩ = some (.int .i64 (x : Int)) := by
  obtain ⟨a', cap', e, _, hr⟩ := h
  injection e with e1 _ e2
  subst e1
  obtain ⟨b, rfl, hB, hlt, hc⟩ := hr hl
  exact ⟨b, rfl, hB, hlt, hc⟩
/-- Is a number among the first of a row? -/
def hv (a : Nat) (l : List Nat) (i : Nat) : Bool := (l.take i).any (· == a)
theorem hv_zero (a : Nat) (l : List Nat) : hv a l 0 = false := by simp [hv]
theorem hv_next {a j i : Nat} {l : List Nat} (h : l[i]? = some j) : hv a l (i + 1) = (hv a l i || (j == a)) := by
  unfold hv
  rw [List.take_add_one, h, List.any_append]
  simp
theorem hv_all {a : Nat} {l : List Nat} (h : a ∈ l) : hv a l l.length = true := by
  unfold hv
  rw [List.take_length, List.any_eq_true]
  exact ⟨a, h, by simp⟩
theorem free_none {os : List Nat} (h : which 0 os = []) : takeP 1 7 os = (-1, 15, os) := by
  have hs : spot 1 os = none := by rw [spot_which, h]; rfl
  unfold takeP
  rw [show tk 7 = true from rfl, hs, if_pos rfl]
theorem free_first {os rest : List Nat} {a : Nat} (h : which 0 os = a :: rest) : takeP 1 7 os = ((a : Int), 0, os.set a 7) ∧ os[a]? = some 0 ∧ ∀ k : Nat, os[k]? = some 0 → a ≤ k := by
  have hs : spot 1 os = some a := by rw [spot_which, h]; rfl
  obtain ⟨h1, h2⟩ := spot_inv hs
  refine ⟨?_, isRun_one.1 h1, fun k hk => ?_⟩
  · unfold takeP
    rw [show tk 7 = true from rfl, hs, if_pos rfl]
    simp only [Nat.one_mul]
    rfl
  · by_cases hlt : k < a
    · have := h2 k hlt
      rw [isRun_one.2 hk] at this
      cases this
    · omega
theorem taken_in {os : List Nat} {a : Nat} (h : os[a]? = some 0) : a ∈ which 7 (os.set a 7) :=
  mem_which.2 ⟨7, List.getElem?_set_self (List.getElem?_eq_some_iff.1 h).1, rfl⟩
theorem ga_seven (os : List Nat) : gaL 7 os = which 7 os ∧ gaO 7 os = goneP 7 os := ⟨rfl, rfl⟩
set_option maxRecDepth 100000 in
set_option maxHeartbeats 8000000 in
theorem walk (n : Int) (pa : Option Addr) (len cap : Nat) (y : Nat → CallT) (fm : Int) (w : World) (hl : len ≤ cap ∧ cap ≤ maxLen) (hx : FCalls w.heap.size w pa len y) :
    Calls Try.prog 7 #[.int .i64 n, .slice pa len cap, .int .i64 fm] w fun e w' => e = .returned (.bool true) ∧ Below w.heap.size w w' := by
  have HX := Lib.hid hx
  have hlm : len ≤ maxLen := by omega
  unfold maxLen at hlm
  clear hx hl
  go_enter Try.func7, Try.ntmps7
  go_wp2_with fail
  refine (alive_any _).mono ?_
  rintro e w0 ⟨rfl, B0⟩
  by_cases g1 : 60 < len
  · have g1' : (60 : Int) < (len : Int) := by omega
    go_wp2
    go_ret
    exact ⟨rfl, B0⟩
  have g60 : len ≤ 60 := by omega
  have g60' : ¬ (60 : Int) < (len : Int) := by omega
  clear g1
  by_cases g3 : n < 1
  · have g3' : decide (n < 1) = true := decide_eq_true g3
    go_wp2
    go_ret
    exact ⟨rfl, B0⟩
  by_cases g4 : 300 < n
  · clear g3
    go_wp2
    go_ret
    exact ⟨rfl, B0⟩
  obtain ⟨N, rfl⟩ := Int.eq_ofNat_of_zero_le (show 0 ≤ n by omega)
  have r1 : 1 ≤ N := by omega
  have r2 : N ≤ 300 := by omega
  have r3 : ¬ (N : Int) < 1 := by omega
  have r4 : ¬ (300 : Int) < (N : Int) := by omega
  clear g3 g4
  go_wp2_with fail
  refine (new_yes N w0 r1 (by omega)).mono ?_
  rintro e w1 ⟨rfl, T1, O1⟩
  have B1 := Lib.hid (B0.trans (O1.below B0.size (by simp)))
  obtain ⟨P, hP⟩ : ∃ p, p = w0.heap.size + 1 := ⟨_, rfl⟩
  obtain ⟨M, hM⟩ : ∃ p, p = w0.heap.size := ⟨_, rfl⟩
  rw [← hP, ← hM] at T1
  have q1 : w.heap.size ≤ P := by have := B0.size; omega
  have q2 : w.heap.size ≤ M := by have := B0.size; omega
  have z1 := T1.tb.lt
  have z2 := T1.tb.row.lt
  have T1' := Lib.hid T1
  rw [← hP]
  clear hP hM B0 O1 T1
  go_wp2_with fail
  refine (rnew_any N w1 (by omega)).mono ?_
  rintro e w2 ⟨rfl, R2, O2⟩
  have B2 := Lib.hid (B1.out.trans (O2.below B1.out.size (by simp)))
  have D2 := Lib.hid (show Both w2 P M (w1.heap.size + 1) w1.heap.size (List.replicate N 0) from ⟨T1'.out.kept O2 (by simp) (by simp), R2⟩)
  have A2 := Lib.hid (show Away w.heap.size P M (w1.heap.size + 1) w1.heap.size from ⟨by omega, by omega, by omega, by omega, q1, q2, by have := B1.out.size; omega, B1.out.size⟩)
  obtain ⟨r, hr⟩ : ∃ r, r = w1.heap.size + 1 := ⟨_, rfl⟩
  obtain ⟨g, hg⟩ : ∃ g, g = w1.heap.size := ⟨_, rfl⟩
  rw [← hr, ← hg] at D2 A2
  rw [← hr]
  clear hr hg B1 O2 R2 T1' z1 z2
  go_wp2_with fail
  go_loopw [10] (fun c wr => ∃ (i : Nat) (os : List Nat), c = .int .i64 i ∧ i ≤ len ∧ os.length = N ∧ Both wr P M r g os ∧ Below w.heap.size w wr) (fun c _ => len - (intOf c).toNat)
  case atStart => exact ⟨0, _, rfl, Nat.zero_le _, by simp, D2.out, B2.out⟩
  case round =>
    obtain ⟨i, os, rfl, hi, hos, hD, hB⟩ := hrel
    have DR := Lib.hid hD
    have BR := Lib.hid hB
    clear D2 B2
    by_cases hlt : i < len
    · obtain ⟨b, off, rfl, hbl, hC⟩ := HX.out.at hB hlt
      have c0 := hC.c0
      have c1 := hC.c1
      have c2 := hC.c2
      have c3 := hC.c3
      generalize y i = c at *
      have hi0 : (0 : Int) ≤ (i : Int) := by omega
      have hil : (i : Int) < (len : Int) := by omega
      have HOS := Lib.hid hos
      clear hC hD hB HX hi hos
      go_wp2_with fail
      refine (do_any w.heap.size P M r g c os _ DR.out A2.out).mono ?_
      rintro e w3 ⟨rfl, D3, O3⟩
      have hln := doP_len c os
      obtain ⟨ns, hns⟩ : ∃ ns, ns = doP c os := ⟨_, rfl⟩
      rw [← hns] at D3 hln
      clear hns c0 c1 c2 c3
      have hnl : ns.length = N := hln.trans HOS.out
      have a1 := A2.out.bt
      have a2 := A2.out.bF
      have a3 := A2.out.br
      have a4 := A2.out.bG
      have B3 := Lib.hid (BR.out.trans (O3.below (B := w.heap.size) BR.out.size (by simp; omega)))
      have D3' := Lib.hid D3
      clear DR BR O3 D3 hln
      go_wp2_with fail
      go_roundw
      case rel => exact ⟨i + 1, ns, by simp, by omega, hnl, D3'.out, B3.out⟩
      case measure => simp only [intOf, Int.toNat_natCast]; omega
    · obtain rfl : i = len := by omega
      have TZ := Lib.hid hD.tab
      have a1 := A2.out.bt
      have a2 := A2.out.bF
      obtain ⟨dP, dM, _, _⟩ := hD.lt
      clear hD hB HX DR hlt hi A2
      have FM := Lib.hid (show (∃ (k x : Nat), fm = k ∧ os[k]? = some x) ∨ (fm < 0 ∨ (os.length : Int) ≤ fm) from by
        by_cases h : fm < 0 ∨ (os.length : Int) ≤ fm
        · exact Or.inr h
        · have hlt : fm.toNat < os.length := by omega
          exact Or.inl ⟨fm.toNat, os[fm.toNat], by omega, List.getElem?_eq_getElem hlt⟩)
      rcases FM.out with ⟨k, x, rfl, hx⟩ | hfar
      · have CO := owner_yes P M k x os wr TZ.out hx
        have hx9 : x ≤ 9 := TZ.out.few x (List.mem_of_getElem? hx)
        clear FM
        by_cases hx0 : x = 0
        · subst hx0
          clear hx
          go_wp2_with fail
          refine CO.mono ?_
          rintro e wa ⟨rfl, rfl⟩
          obtain ⟨ns, hns⟩ : ∃ ns, ns = os := ⟨_, rfl⟩
          have hnl : ns.length = N := by rw [hns]; exact hos
          have T1 := TZ
          have B1 := BR
          rw [← hns] at T1
          clear CO TZ BR hns hos
          obtain ⟨wa, hwa⟩ : ∃ wa, wa = wr := ⟨_, rfl⟩
          subst hwa
          have dP1 := T1.out.tb.lt
          have dM1 := T1.out.tb.row.lt
          have CL := list_any P M 0 ns wa T1.out dP1 dM1
          go_wp2_with fail
          refine CL.mono ?_
          rintro e w5 ⟨v, rfl, S5x, b5⟩
          have hwl := which_len 0 ns
          have S5 := Lib.hid S5x
          obtain ⟨va, vc, rfl⟩ := S5x.form
          have T5 := Lib.hid (T1.out.keptB b5 dP1 dM1)
          have B5 := Lib.hid (B1.out.trans (b5.mono B1.out.size))
          clear S5x b5 CL T1 B1
          have C7 := take_any P M 7 ns w5 T5.out
          obtain ⟨L, hLL⟩ : ∃ L, L = (which 0 ns).length := ⟨_, rfl⟩
          rw [← hLL] at hwl ⊢
          cases hfree : which 0 ns with
          | nil =>
            rw [free_none hfree] at C7
            obtain rfl : L = 0 := by rw [hLL, hfree]; rfl
            clear hfree hLL S5 hwl
            go_wp2_with fail
            refine C7.mono ?_
            rintro e w6 ⟨rfl, T6x, O6⟩
            have B6 := Lib.hid (B5.out.trans (O6.below (B := w.heap.size) B5.out.size (by simp; omega)))
            clear C7 T6x O6 T5 B5
            go_wp2_with fail
            go_ret
            exact ⟨rfl, B6.out⟩
          | cons a rest =>
            obtain ⟨ft, fz, fle⟩ := free_first hfree
            rw [ft] at C7
            have hL : 0 < (which 0 ns).length := by rw [hfree]; simp
            obtain ⟨b5, hva, hbB, hb5, hc5⟩ := all_of S5.out hL
            subst hva
            have hc0 := hc5 0 a (by rw [hfree]; rfl)
            have HIN := Lib.hid (taken_in fz)
            have FLE := Lib.hid fle
            rw [← hLL] at hL
            have hLi : ¬ (L : Int) = 0 := by omega
            have hLd : ((L : Int) == 0) = false := by simp; omega
            clear hfree hc5 S5 ft fz fle hLL
            obtain ⟨ms, hms⟩ : ∃ ms, ms = ns.set a 7 := ⟨_, rfl⟩
            rw [← hms] at C7 HIN
            have hml : ms.length = N := by rw [hms, List.length_set]; exact hnl
            clear hms
            go_wp2_with fail
            refine C7.mono ?_
            rintro e w6 ⟨rfl, T6x, O6⟩
            have T6 := Lib.hid T6x
            have B6 := Lib.hid (B5.out.trans (O6.below (B := w.heap.size) B5.out.size (by simp; omega)))
            have hc6 : w6.cell? ⟨b5, 0, none⟩ = some (.int .i64 (a : Int)) := by
              rw [O6.cell hb5 (by simp; omega)]
              exact hc0
            have dP6 := T6x.tb.lt
            have dM6 := T6x.tb.row.lt
            clear C7 T6x O6 T5 B5 hc0
            go_wp2_with fail
            refine (giveAll_any P M 7 ms w6 T6.out dP6 dM6).mono ?_
            rintro e w7 ⟨v, rfl, S7x, T7x, O7⟩
            rw [(ga_seven ms).1] at S7x
            rw [(ga_seven ms).2] at T7x
            have S7 := Lib.hid S7x
            have T7 := Lib.hid T7x
            obtain ⟨vb, vd, rfl⟩ := S7x.form
            have B7 := Lib.hid (B6.out.trans (O7.below (B := w.heap.size) B6.out.size (by simp; omega)))
            have hll := which_len 7 ms
            obtain ⟨l, hl⟩ : ∃ l, l = which 7 ms := ⟨_, rfl⟩
            rw [← hl] at S7 HIN hll ⊢
            clear S7x T7x O7 T6 B6 hc6 hl
            obtain ⟨b7, hvb, _, hb7, hc7⟩ := all_of S7.out (List.length_pos_of_mem HIN.out)
            subst hvb
            have HC7 := Lib.hid hc7
            clear hc7 S7
            go_wp2_with fail
            go_loopw [16, 17] (fun f c wx => ∃ j : Nat, c = .int .i64 j ∧ j ≤ l.length ∧ f = .bool (hv a l j) ∧ w7 = wx) (fun _ c _ => l.length - (intOf c).toNat)
            case atStart => exact ⟨0, rfl, Nat.zero_le _, by rw [hv_zero], by trivial⟩
            case round =>
              obtain ⟨j, rfl, hj, rfl, rfl⟩ := hrel
              by_cases hjn : j < l.length
              · obtain ⟨x, hx⟩ : ∃ x, l[j]? = some x := ⟨_, List.getElem?_eq_getElem hjn⟩
                have hcx := HC7.out j x hx
                have HV := Lib.hid (hv_next (a := a) hx)
                have hjl : (j : Int) < (l.length : Int) := by omega
                clear hx
                cases hh : hv a l j with
                | true =>
                  go_wp2_with fail
                  go_roundw
                  case rel => exact ⟨j + 1, rfl, by omega, by rw [HV.out, hh]; rfl, by trivial⟩
                  case measure => simp only [intOf, Int.toNat_natCast]; omega
                | false =>
                  have ex : (x == a) = ((x : Int) == (a : Int)) := by rw [Bool.eq_iff_iff]; simp; omega
                  go_wp2_with fail
                  go_roundw
                  case rel => exact ⟨j + 1, rfl, by omega, by rw [HV.out, hh, ex]; rfl, by trivial⟩
                  case measure => simp only [intOf, Int.toNat_natCast]; omega
              · obtain rfl : j = l.length := by omega
                rw [hv_all HIN.out]
                have CC := count_yes P M 7 (goneP 7 ms) w7 T7.out (by omega)
                have hz : cn (goneP 7 ms) 7 = 0 := goneP_cn 7 ms (by omega)
                rw [hz] at CC
                clear hz
                go_wp2_with fail
                refine CC.mono ?_
                rintro e w8 ⟨rfl, rfl⟩
                go_wp2_with fail
                go_ret
                exact ⟨rfl, B7.out⟩
        · have hx1 : (0 : Int) < (x : Int) := by omega
          have hm : mvP k x 0 os = (0, os.set k 0) := by
            unfold mvP
            rw [if_neg, if_neg]
            · rfl
            · simp only [Int.toNat_natCast, hx]
              simp
            · have := (List.getElem?_eq_some_iff.1 hx).1
              have h9 : tk x = true := tk_in (by omega) hx9
              rw [h9]
              simp
              omega
          have CG := give_any P M x k os wr TZ.out
          rw [hm] at CG
          have hkl := (List.getElem?_eq_some_iff.1 hx).1
          have HK := Lib.hid (show (os.set k 0)[k]? = some 0 from List.getElem?_set_self hkl)
          clear hx hm hkl
          go_wp2_with fail
          refine CO.mono ?_
          rintro e wz ⟨rfl, rfl⟩
          go_wp2_with fail
          refine CG.mono ?_
          rintro e wa ⟨rfl, T1x, O1⟩
          obtain ⟨ns, hns⟩ : ∃ ns, ns = os.set k 0 := ⟨_, rfl⟩
          rw [← hns] at T1x HK
          have hnl : ns.length = N := by rw [hns, List.length_set]; exact hos
          have T1 := Lib.hid T1x
          have B1 := Lib.hid (BR.out.trans (O1.below (B := w.heap.size) BR.out.size (by simp; omega)))
          clear CO CG TZ BR hns hos T1x O1
          have dP1 := T1.out.tb.lt
          have dM1 := T1.out.tb.row.lt
          have CL := list_any P M 0 ns wa T1.out dP1 dM1
          go_wp2_with fail
          refine CL.mono ?_
          rintro e w5 ⟨v, rfl, S5x, b5⟩
          have hwl := which_len 0 ns
          have S5 := Lib.hid S5x
          obtain ⟨va, vc, rfl⟩ := S5x.form
          have T5 := Lib.hid (T1.out.keptB b5 dP1 dM1)
          have B5 := Lib.hid (B1.out.trans (b5.mono B1.out.size))
          clear S5x b5 CL T1 B1
          have C7 := take_any P M 7 ns w5 T5.out
          obtain ⟨L, hLL⟩ : ∃ L, L = (which 0 ns).length := ⟨_, rfl⟩
          rw [← hLL] at hwl ⊢
          cases hfree : which 0 ns with
          | nil =>
            rw [free_none hfree] at C7
            obtain rfl : L = 0 := by rw [hLL, hfree]; rfl
            clear hfree hLL S5 hwl
            go_wp2_with fail
            refine C7.mono ?_
            rintro e w6 ⟨rfl, T6x, O6⟩
            have B6 := Lib.hid (B5.out.trans (O6.below (B := w.heap.size) B5.out.size (by simp; omega)))
            clear C7 T6x O6 T5 B5
            go_wp2_with fail
            go_ret
            exact ⟨rfl, B6.out⟩
          | cons a rest =>
            obtain ⟨ft, fz, fle⟩ := free_first hfree
            rw [ft] at C7
            have hL : 0 < (which 0 ns).length := by rw [hfree]; simp
            obtain ⟨b5, hva, hbB, hb5, hc5⟩ := all_of S5.out hL
            subst hva
            have hc0 := hc5 0 a (by rw [hfree]; rfl)
            have HIN := Lib.hid (taken_in fz)
            have FLE := Lib.hid fle
            rw [← hLL] at hL
            have hLi : ¬ (L : Int) = 0 := by omega
            have hLd : ((L : Int) == 0) = false := by simp; omega
            clear hfree hc5 S5 ft fz fle hLL
            obtain ⟨ms, hms⟩ : ∃ ms, ms = ns.set a 7 := ⟨_, rfl⟩
            rw [← hms] at C7 HIN
            have hml : ms.length = N := by rw [hms, List.length_set]; exact hnl
            clear hms
            go_wp2_with fail
            refine C7.mono ?_
            rintro e w6 ⟨rfl, T6x, O6⟩
            have T6 := Lib.hid T6x
            have B6 := Lib.hid (B5.out.trans (O6.below (B := w.heap.size) B5.out.size (by simp; omega)))
            have hc6 : w6.cell? ⟨b5, 0, none⟩ = some (.int .i64 (a : Int)) := by
              rw [O6.cell hb5 (by simp; omega)]
              exact hc0
            have dP6 := T6x.tb.lt
            have dM6 := T6x.tb.row.lt
            clear C7 T6x O6 T5 B5 hc0
            have hak : ¬ (k : Int) < (a : Int) := by have := FLE.out k HK.out; omega
            go_wp2_with fail
            refine (giveAll_any P M 7 ms w6 T6.out dP6 dM6).mono ?_
            rintro e w7 ⟨v, rfl, S7x, T7x, O7⟩
            rw [(ga_seven ms).1] at S7x
            rw [(ga_seven ms).2] at T7x
            have S7 := Lib.hid S7x
            have T7 := Lib.hid T7x
            obtain ⟨vb, vd, rfl⟩ := S7x.form
            have B7 := Lib.hid (B6.out.trans (O7.below (B := w.heap.size) B6.out.size (by simp; omega)))
            have hll := which_len 7 ms
            obtain ⟨l, hl⟩ : ∃ l, l = which 7 ms := ⟨_, rfl⟩
            rw [← hl] at S7 HIN hll ⊢
            clear S7x T7x O7 T6 B6 hc6 hl
            obtain ⟨b7, hvb, _, hb7, hc7⟩ := all_of S7.out (List.length_pos_of_mem HIN.out)
            subst hvb
            have HC7 := Lib.hid hc7
            clear hc7 S7
            go_wp2_with fail
            go_loopw [16, 17] (fun f c wx => ∃ j : Nat, c = .int .i64 j ∧ j ≤ l.length ∧ f = .bool (hv a l j) ∧ w7 = wx) (fun _ c _ => l.length - (intOf c).toNat)
            case atStart => exact ⟨0, rfl, Nat.zero_le _, by rw [hv_zero], by trivial⟩
            case round =>
              obtain ⟨j, rfl, hj, rfl, rfl⟩ := hrel
              by_cases hjn : j < l.length
              · obtain ⟨x, hx⟩ : ∃ x, l[j]? = some x := ⟨_, List.getElem?_eq_getElem hjn⟩
                have hcx := HC7.out j x hx
                have HV := Lib.hid (hv_next (a := a) hx)
                have hjl : (j : Int) < (l.length : Int) := by omega
                clear hx
                cases hh : hv a l j with
                | true =>
                  go_wp2_with fail
                  go_roundw
                  case rel => exact ⟨j + 1, rfl, by omega, by rw [HV.out, hh]; rfl, by trivial⟩
                  case measure => simp only [intOf, Int.toNat_natCast]; omega
                | false =>
                  have ex : (x == a) = ((x : Int) == (a : Int)) := by rw [Bool.eq_iff_iff]; simp; omega
                  go_wp2_with fail
                  go_roundw
                  case rel => exact ⟨j + 1, rfl, by omega, by rw [HV.out, hh, ex]; rfl, by trivial⟩
                  case measure => simp only [intOf, Int.toNat_natCast]; omega
              · obtain rfl : j = l.length := by omega
                rw [hv_all HIN.out]
                have CC := count_yes P M 7 (goneP 7 ms) w7 T7.out (by omega)
                have hz : cn (goneP 7 ms) 7 = 0 := goneP_cn 7 ms (by omega)
                rw [hz] at CC
                clear hz
                go_wp2_with fail
                refine CC.mono ?_
                rintro e w8 ⟨rfl, rfl⟩
                go_wp2_with fail
                go_ret
                exact ⟨rfl, B7.out⟩
      · have CO := owner_no P M fm os wr TZ.out hfar
        clear FM hfar
        go_wp2_with fail
        refine CO.mono ?_
        rintro e wa ⟨rfl, rfl⟩
        obtain ⟨ns, hns⟩ : ∃ ns, ns = os := ⟨_, rfl⟩
        have hnl : ns.length = N := by rw [hns]; exact hos
        have T1 := TZ
        have B1 := BR
        rw [← hns] at T1
        clear CO TZ BR hns hos
        obtain ⟨wa, hwa⟩ : ∃ wa, wa = wr := ⟨_, rfl⟩
        subst hwa
        have dP1 := T1.out.tb.lt
        have dM1 := T1.out.tb.row.lt
        have CL := list_any P M 0 ns wa T1.out dP1 dM1
        go_wp2_with fail
        refine CL.mono ?_
        rintro e w5 ⟨v, rfl, S5x, b5⟩
        have hwl := which_len 0 ns
        have S5 := Lib.hid S5x
        obtain ⟨va, vc, rfl⟩ := S5x.form
        have T5 := Lib.hid (T1.out.keptB b5 dP1 dM1)
        have B5 := Lib.hid (B1.out.trans (b5.mono B1.out.size))
        clear S5x b5 CL T1 B1
        have C7 := take_any P M 7 ns w5 T5.out
        obtain ⟨L, hLL⟩ : ∃ L, L = (which 0 ns).length := ⟨_, rfl⟩
        rw [← hLL] at hwl ⊢
        cases hfree : which 0 ns with
        | nil =>
          rw [free_none hfree] at C7
          obtain rfl : L = 0 := by rw [hLL, hfree]; rfl
          clear hfree hLL S5 hwl
          go_wp2_with fail
          refine C7.mono ?_
          rintro e w6 ⟨rfl, T6x, O6⟩
          have B6 := Lib.hid (B5.out.trans (O6.below (B := w.heap.size) B5.out.size (by simp; omega)))
          clear C7 T6x O6 T5 B5
          go_wp2_with fail
          go_ret
          exact ⟨rfl, B6.out⟩
        | cons a rest =>
          obtain ⟨ft, fz, fle⟩ := free_first hfree
          rw [ft] at C7
          have hL : 0 < (which 0 ns).length := by rw [hfree]; simp
          obtain ⟨b5, hva, hbB, hb5, hc5⟩ := all_of S5.out hL
          subst hva
          have hc0 := hc5 0 a (by rw [hfree]; rfl)
          have HIN := Lib.hid (taken_in fz)
          have FLE := Lib.hid fle
          rw [← hLL] at hL
          have hLi : ¬ (L : Int) = 0 := by omega
          have hLd : ((L : Int) == 0) = false := by simp; omega
          clear hfree hc5 S5 ft fz fle hLL
          obtain ⟨ms, hms⟩ : ∃ ms, ms = ns.set a 7 := ⟨_, rfl⟩
          rw [← hms] at C7 HIN
          have hml : ms.length = N := by rw [hms, List.length_set]; exact hnl
          clear hms
          go_wp2_with fail
          refine C7.mono ?_
          rintro e w6 ⟨rfl, T6x, O6⟩
          have T6 := Lib.hid T6x
          have B6 := Lib.hid (B5.out.trans (O6.below (B := w.heap.size) B5.out.size (by simp; omega)))
          have hc6 : w6.cell? ⟨b5, 0, none⟩ = some (.int .i64 (a : Int)) := by
            rw [O6.cell hb5 (by simp; omega)]
            exact hc0
          have dP6 := T6x.tb.lt
          have dM6 := T6x.tb.row.lt
          clear C7 T6x O6 T5 B5 hc0
          go_wp2_with fail
          refine (giveAll_any P M 7 ms w6 T6.out dP6 dM6).mono ?_
          rintro e w7 ⟨v, rfl, S7x, T7x, O7⟩
          rw [(ga_seven ms).1] at S7x
          rw [(ga_seven ms).2] at T7x
          have S7 := Lib.hid S7x
          have T7 := Lib.hid T7x
          obtain ⟨vb, vd, rfl⟩ := S7x.form
          have B7 := Lib.hid (B6.out.trans (O7.below (B := w.heap.size) B6.out.size (by simp; omega)))
          have hll := which_len 7 ms
          obtain ⟨l, hl⟩ : ∃ l, l = which 7 ms := ⟨_, rfl⟩
          rw [← hl] at S7 HIN hll ⊢
          clear S7x T7x O7 T6 B6 hc6 hl
          obtain ⟨b7, hvb, _, hb7, hc7⟩ := all_of S7.out (List.length_pos_of_mem HIN.out)
          subst hvb
          have HC7 := Lib.hid hc7
          clear hc7 S7
          go_wp2_with fail
          go_loopw [16, 17] (fun f c wx => ∃ j : Nat, c = .int .i64 j ∧ j ≤ l.length ∧ f = .bool (hv a l j) ∧ w7 = wx) (fun _ c _ => l.length - (intOf c).toNat)
          case atStart => exact ⟨0, rfl, Nat.zero_le _, by rw [hv_zero], by trivial⟩
          case round =>
            obtain ⟨j, rfl, hj, rfl, rfl⟩ := hrel
            by_cases hjn : j < l.length
            · obtain ⟨x, hx⟩ : ∃ x, l[j]? = some x := ⟨_, List.getElem?_eq_getElem hjn⟩
              have hcx := HC7.out j x hx
              have HV := Lib.hid (hv_next (a := a) hx)
              have hjl : (j : Int) < (l.length : Int) := by omega
              clear hx
              cases hh : hv a l j with
              | true =>
                go_wp2_with fail
                go_roundw
                case rel => exact ⟨j + 1, rfl, by omega, by rw [HV.out, hh]; rfl, by trivial⟩
                case measure => simp only [intOf, Int.toNat_natCast]; omega
              | false =>
                have ex : (x == a) = ((x : Int) == (a : Int)) := by rw [Bool.eq_iff_iff]; simp; omega
                go_wp2_with fail
                go_roundw
                case rel => exact ⟨j + 1, rfl, by omega, by rw [HV.out, hh, ex]; rfl, by trivial⟩
                case measure => simp only [intOf, Int.toNat_natCast]; omega
            · obtain rfl : j = l.length := by omega
              rw [hv_all HIN.out]
              have CC := count_yes P M 7 (goneP 7 ms) w7 T7.out (by omega)
              have hz : cn (goneP 7 ms) 7 = 0 := goneP_cn 7 ms (by omega)
              rw [hz] at CC
              clear hz
              go_wp2_with fail
              refine CC.mono ?_
              rintro e w8 ⟨rfl, rfl⟩
              go_wp2_with fail
              go_ret
              exact ⟨rfl, B7.out⟩
set_option maxRecDepth 100000 in
theorem lifted (os : Os) (started : os.Started) (H : Type) (enc : TypeId × Value → H) :
    ReturnsInHanded {} Try.checked os 7 .any (Rows.framesGivesSpec.pre6 enc Try.prog Try.f7 Rows.framesGivesRow.domain false) (Rows.framesGivesSpec.post enc Try.prog Try.f7 false true false false) := by
  refine returnsInHanded_of_change_sized (C := Try.checked) own started (by kernel_rfl) Try.func7
    (ChangeSpec.witness6 (enc := enc) (C := Try.checked) false ⟨#[], #[.int .i64 0, .slice none 0 0, .int .i64 0], []⟩ 8 (by kernel_rfl) (by kernel_rfl) (by kernel_rfl) (by kernel_rfl)) ?_
  intro W base args ds gs before hval0 hW hcnd hZ0 _
  have hval : ∀ (j : Nat) t v, Try.f7.params[j]? = some t → args[j]? = some v → Value.okWide Try.prog W .any base t v := hval0
  have hZ : ∀ n ∈ DataW.weightsEach Try.prog (Try.f7.params.toList ++ []) (ds ++ gs), n ≤ reachBytes := fun n hn => of_decide_eq_true (List.all_eq_true.1 hZ0 n hn)
  have hW' := hW
  obtain ⟨p, q, hA0, hV, rfl, hfz, hnd⟩ := hW
  have hA : DataW.TrodAll enc Try.prog W 0 (fun _ => true) true Try.f7.params.toList args.toList ds p := hA0
  rw [Try.params7] at hA hval hZ
  obtain ⟨v0, vs0, d0, ds0, p0, q0, hargs, rfl, rfl, h0, r0⟩ := trodAll_cons hA
  obtain ⟨v1, vs1, d1, ds1, p1, q1, rfl, rfl, rfl, h1, r1⟩ := trodAll_cons r0
  obtain ⟨v2, vs2, d2, ds2, p2, q2, rfl, rfl, rfl, h2, r2⟩ := trodAll_cons r1
  obtain ⟨rfl, rfl, rfl⟩ := trodAll_nil r2
  obtain rfl : args = #[v0, v1, v2] := by cases args; simp_all
  obtain ⟨rfl, rfl⟩ := trodVars_none hV
  obtain ⟨x0, rfl, rfl, rfl, w0⟩ := open_int Try.underlying3 (hval 0 3 v0 rfl rfl) h0
  have k1 := h1
  have hz1 : ∀ n ∈ d1.weights Try.prog 22, n ≤ reachBytes := fun n hn => hZ n (by simp only [List.append_nil, DataW.weightsEach, List.mem_append]; exact Or.inr (Or.inl hn))
  obtain ⟨a1, n1, c1, y1, rfl, m1, lt1, z1⟩ := fcalls_open (hval 1 22 v1 rfl rfl) h1 hz1
  obtain ⟨x2, rfl, rfl, rfl, w2⟩ := open_int Try.underlying3 (hval 2 3 v2 rfl rfl) h2
  clear hA0 hval0 hZ0
  refine (walk x0 a1 n1 c1 y1 x2 W m1 z1).mono fun e W' ⟨he, ho⟩ => ?_
  subst he
  have bel : Below W.heap.size W W' := ho
  exact ⟨_, rfl, _, _, _, [], _, [], hW', trodAll_mk1 (shut_bool Try.underlying4 _), (trodAll_cons_mk (shut_int Try.underlying3 w0) (trodAll_cons_mk (Below.trod laidOut (by kernel_rfl) (of_decide_eq_true (by kernel_rfl)) k1 bel lt1) (trodAll_cons_mk (shut_int Try.underlying3 w2) trodAll_mk0))), rfl, bel.frame _, fun h => by cases h⟩
theorem over : Rows.framesGivesRow.holds Try.pinned (OpenSpec.ofChange Rows.framesGivesSpec) :=
  OpenClaim.holds_of_wide 7 Try.f7 rfl rfl rfl rfl rfl rfl rfl ⟨rfl, rfl, rfl, rfl, rfl⟩ rfl rfl rfl rfl rfl (by kernel_rfl) Try.func7 (by kernel_rfl)
    (of_decide_eq_true (by kernel_rfl)) (by unfold Func.isWrapper; first | (rw [if_pos (by decide +kernel)]; kernel_rfl) | (rw [if_neg (by decide +kernel)]; exact ⟨rfl, rfl⟩))
    (fun os started H enc _ => lifted os started H enc)
end framesGives
/-- The statement. -/
theorem framesGives_holds : Rows.FramesGivesSaid := framesGives.over
#print axioms framesGives_holds
end Go.Proofs.Ytgeagnpgcjjifaa
