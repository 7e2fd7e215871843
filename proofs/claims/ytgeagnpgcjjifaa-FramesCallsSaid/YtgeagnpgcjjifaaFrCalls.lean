/-
  FramesCalls: every row of calls is answered as the document says, and every question: for every input true, and the input reads as it did; no condition.
-/
import Derived.Test.YtgeagnpgcjjifaaFrDo
import Derived.Test.YtgeagnpgcjjifaaFrAlive
namespace Go.Proofs.Ytgeagnpgcjjifaa
open Go.ChangeShapes Go.WideShapes Go.ChangeAt Go.RowKit Go.Deep
namespace framesCalls
open Fr
open Ph (Only)
set_option maxRecDepth 100000 in
set_option maxHeartbeats 8000000 in
theorem walk (n : Int) (pa : Option Addr) (len cap : Nat) (y : Nat → CallT) (ow fm : Int) (w : World) (hl : len ≤ cap ∧ cap ≤ maxLen) (hx : FCalls w.heap.size w pa len y) :
    Calls Try.prog 3 #[.int .i64 n, .slice pa len cap, .int .i64 ow, .int .i64 fm] w fun e w' => e = .returned (.bool true) ∧ Below w.heap.size w w' := by
  have HX := Lib.hid hx
  have hlm : len ≤ maxLen := by omega
  unfold maxLen at hlm
  clear hx hl
  go_enter Try.func3, Try.ntmps3
  go_wp2_with fail
  refine (alive_any _).mono ?_
  rintro e w0 ⟨rfl, B0⟩
  by_cases g1 : 60 < len
  · have g1' : (60 : Int) < (len : Int) := by omega
    go_wp2
    go_ret
    exact ⟨rfl, B0⟩
  have g60 : len ≤ 60 := by omega
  have g60' : ¬ (60 : Int) < (len : Int) := by omega
  clear g1
  by_cases g2 : 300 < n ∧ n ≤ 1024
  · obtain ⟨g2a, g2b⟩ := g2
    go_wp2
    go_ret
    exact ⟨rfl, B0⟩
  by_cases g3 : n < 1
  · clear g2
    go_wp2_with fail
    refine (new_no n w0 (Or.inl g3)).mono ?_
    rintro e w1 ⟨rfl, rfl⟩
    go_wp2
    go_ret
    exact ⟨rfl, B0⟩
  by_cases g4 : 1024 < n
  · clear g2 g3
    go_wp2_with fail
    refine (new_no n w0 (Or.inr g4)).mono ?_
    rintro e w1 ⟨rfl, rfl⟩
    go_wp2
    go_ret
    exact ⟨rfl, B0⟩
  obtain ⟨N, rfl⟩ := Int.eq_ofNat_of_zero_le (show 0 ≤ n by omega)
  have r1 : 1 ≤ N := by omega
  have r2 : N ≤ 300 := by omega
  have r2' : ¬ (300 : Int) < (N : Int) := by omega
  have r3 : ¬ (N : Int) < 1 := by omega
  have r4 : ¬ (1024 : Int) < (N : Int) := by omega
  clear g2 g3 g4
  go_wp2_with fail
  refine (new_yes N w0 r1 (by omega)).mono ?_
  rintro e w1 ⟨rfl, T1, O1⟩
  have B1 := Lib.hid (B0.trans (O1.below B0.size (by simp)))
  obtain ⟨P, hP⟩ : ∃ p, p = w0.heap.size + 1 := ⟨_, rfl⟩
  obtain ⟨M, hM⟩ : ∃ p, p = w0.heap.size := ⟨_, rfl⟩
  rw [← hP, ← hM] at T1
  have q1 : w.heap.size ≤ P := by have := B0.size; omega
  have q2 : w.heap.size ≤ M := by have := B0.size; omega
  have z1 := T1.tb.lt
  have z2 := T1.tb.row.lt
  have T1' := Lib.hid T1
  rw [← hP]
  clear hP hM B0 O1 T1
  go_wp2_with fail
  refine (rnew_any N w1 (by omega)).mono ?_
  rintro e w2 ⟨rfl, R2, O2⟩
  have B2 := Lib.hid (B1.out.trans (O2.below B1.out.size (by simp)))
  have D2 := Lib.hid (show Both w2 P M (w1.heap.size + 1) w1.heap.size (List.replicate N 0) from ⟨T1'.out.kept O2 (by simp) (by simp), R2⟩)
  have A2 := Lib.hid (show Away w.heap.size P M (w1.heap.size + 1) w1.heap.size from ⟨by omega, by omega, by omega, by omega, q1, q2, by have := B1.out.size; omega, B1.out.size⟩)
  obtain ⟨r, hr⟩ : ∃ r, r = w1.heap.size + 1 := ⟨_, rfl⟩
  obtain ⟨g, hg⟩ : ∃ g, g = w1.heap.size := ⟨_, rfl⟩
  rw [← hr, ← hg] at D2 A2
  rw [← hr]
  clear hr hg B1 O2 R2 T1' z1 z2
  go_wp2_with fail
  go_loopw [12] (fun c wr => ∃ (i : Nat) (os : List Nat), c = .int .i64 i ∧ i ≤ len ∧ os.length = N ∧ Both wr P M r g os ∧ Below w.heap.size w wr) (fun c _ => len - (intOf c).toNat)
  case atStart => exact ⟨0, _, rfl, Nat.zero_le _, by simp, D2.out, B2.out⟩
  case round =>
    obtain ⟨i, os, rfl, hi, hos, hD, hB⟩ := hrel
    have DR := Lib.hid hD
    have BR := Lib.hid hB
    clear D2 B2
    by_cases hlt : i < len
    · obtain ⟨b, off, rfl, hbl, hC⟩ := HX.out.at hB hlt
      have c0 := hC.c0
      have c1 := hC.c1
      have c2 := hC.c2
      have c3 := hC.c3
      generalize y i = c at *
      have hi0 : (0 : Int) ≤ (i : Int) := by omega
      have hil : (i : Int) < (len : Int) := by omega
      have hwr := hB.size
      have HOS := Lib.hid hos
      clear hC hD hB HX hi hos
      go_wp2_with fail
      refine (do_any w.heap.size P M r g c os _ DR.out A2.out).mono ?_
      rintro e w3 ⟨rfl, D3, O3⟩
      have hln := doP_len c os
      obtain ⟨ns, hns⟩ : ∃ ns, ns = doP c os := ⟨_, rfl⟩
      rw [← hns] at D3 hln
      clear hns c0 c1 c2 c3
      have hnl : ns.length = N := hln.trans HOS.out
      have a1 := A2.out.bt
      have a2 := A2.out.bF
      have a3 := A2.out.br
      have a4 := A2.out.bG
      have B3 := Lib.hid (BR.out.trans (O3.below (B := w.heap.size) BR.out.size (by simp; omega)))
      have D3' := Lib.hid D3
      clear DR BR O3 D3 hwr hln
      obtain ⟨y1, y2, y3, y4⟩ := D3'.out.lt
      go_wp2_with fail
      refine (rlist_any r g ow ns _ D3'.out.rtab (by omega) y3 y4).mono ?_
      rintro e w4 ⟨v, rfl, S4, b4⟩
      have D4 := Lib.hid (D3'.out.kept (Only.of b4 []) (by simp) (by simp) (by simp) (by simp))
      have B4 := Lib.hid (B3.out.trans (b4.mono B3.out.size))
      have S4' := Lib.hid S4
      obtain ⟨va, vc, rfl⟩ := S4.form
      have hwl := which_len ow ns
      clear D3' B3 S4 b4 y1 y2 y3 y4
      obtain ⟨y1, y2, y3, y4⟩ := D4.out.lt
      have hq := D4.out.rtab.head
      have LI := Lib.hid (list_any P M ow ns w4 D4.out.tab y1 y2)
      have FM := Lib.hid (show (∃ (k x : Nat), fm = k ∧ ns[k]? = some x) ∨ (fm < 0 ∨ (ns.length : Int) ≤ fm) from by
        by_cases h : fm < 0 ∨ (ns.length : Int) ≤ fm
        · exact Or.inr h
        · have hlt : fm.toNat < ns.length := by omega
          exact Or.inl ⟨fm.toNat, ns[fm.toNat], by omega, List.getElem?_eq_getElem hlt⟩)
      rcases FM.out with ⟨k, x, rfl, hx⟩ | hfar
      · have hkl : k < ns.length := (List.getElem?_eq_some_iff.1 hx).1
        have hk0 : (0 : Int) ≤ (k : Int) := by omega
        have hkN : (k : Int) < (N : Int) := by omega
        have hkn : (k : Int) < (ns.length : Int) := by omega
        have hcx := D4.out.rtab.row.cell k x hx
        have OW := Lib.hid (fun w5 (h : Tab w5 P M ns) => owner_yes P M k x ns w5 h hx)
        clear hx FM
        go_wp2_with fail
        refine LI.out.mono ?_
        rintro e w5 ⟨v, rfl, S5, b5⟩
        have D5 := Lib.hid (D4.out.kept (Only.of b5 []) (by simp) (by simp) (by simp) (by simp))
        have B5 := Lib.hid (B4.out.trans (b5.mono B4.out.size))
        have S6 := Lib.hid (S4'.out.kept (Only.of b5 []) (by simp))
        have S5' := Lib.hid S5
        obtain ⟨ua, uc, rfl⟩ := S5.form
        clear D4 B4 S4' LI S5 b5 hq hcx
        go_wp2_with fail
        refine (same_any _ _ _ _ (which ow ns) (which ow ns) _ (by omega) (by omega) S5'.out S6.out).mono ?_
        rintro e w6 ⟨rfl, b6⟩
        rw [decide_eq_true rfl]
        have D6 := Lib.hid (D5.out.kept (Only.of b6 []) (by simp) (by simp) (by simp) (by simp))
        have B6 := Lib.hid (B5.out.trans (b6.mono B5.out.size))
        clear D5 B5 S6 S5' b6
        go_wp2_with fail
        refine (count_any P M ow ns _ D6.out.tab).mono ?_
        rintro e w7 ⟨rfl, rfl⟩
        go_wp2_with fail
        refine (OW.out _ D6.out.tab).mono ?_
        rintro e w7 ⟨rfl, rfl⟩
        go_wp2_with fail
        go_roundw
        case rel => exact ⟨i + 1, ns, by simp, by omega, hnl, D6.out, B6.out⟩
        case measure => simp only [intOf, Int.toNat_natCast]; omega
      · have OW := Lib.hid (fun w5 (h : Tab w5 P M ns) => owner_no P M fm ns w5 h hfar)
        clear FM
        by_cases hf0 : fm < 0
        · clear hfar
          go_wp2_with fail
          refine LI.out.mono ?_
          rintro e w5 ⟨v, rfl, S5, b5⟩
          have D5 := Lib.hid (D4.out.kept (Only.of b5 []) (by simp) (by simp) (by simp) (by simp))
          have B5 := Lib.hid (B4.out.trans (b5.mono B4.out.size))
          have S6 := Lib.hid (S4'.out.kept (Only.of b5 []) (by simp))
          have S5' := Lib.hid S5
          obtain ⟨ua, uc, rfl⟩ := S5.form
          clear D4 B4 S4' LI S5 b5 hq
          go_wp2_with fail
          refine (same_any _ _ _ _ (which ow ns) (which ow ns) _ (by omega) (by omega) S5'.out S6.out).mono ?_
          rintro e w6 ⟨rfl, b6⟩
          rw [decide_eq_true rfl]
          have D6 := Lib.hid (D5.out.kept (Only.of b6 []) (by simp) (by simp) (by simp) (by simp))
          have B6 := Lib.hid (B5.out.trans (b6.mono B5.out.size))
          clear D5 B5 S6 S5' b6
          go_wp2_with fail
          refine (count_any P M ow ns _ D6.out.tab).mono ?_
          rintro e w7 ⟨rfl, rfl⟩
          go_wp2_with fail
          refine (OW.out _ D6.out.tab).mono ?_
          rintro e w7 ⟨rfl, rfl⟩
          go_wp2_with fail
          go_roundw
          case rel => exact ⟨i + 1, ns, by simp, by omega, hnl, D6.out, B6.out⟩
          case measure => simp only [intOf, Int.toNat_natCast]; omega
        · have hf1 : (N : Int) ≤ fm := by omega
          clear hfar
          go_wp2_with fail
          refine LI.out.mono ?_
          rintro e w5 ⟨v, rfl, S5, b5⟩
          have D5 := Lib.hid (D4.out.kept (Only.of b5 []) (by simp) (by simp) (by simp) (by simp))
          have B5 := Lib.hid (B4.out.trans (b5.mono B4.out.size))
          have S6 := Lib.hid (S4'.out.kept (Only.of b5 []) (by simp))
          have S5' := Lib.hid S5
          obtain ⟨ua, uc, rfl⟩ := S5.form
          clear D4 B4 S4' LI S5 b5 hq
          go_wp2_with fail
          refine (same_any _ _ _ _ (which ow ns) (which ow ns) _ (by omega) (by omega) S5'.out S6.out).mono ?_
          rintro e w6 ⟨rfl, b6⟩
          rw [decide_eq_true rfl]
          have D6 := Lib.hid (D5.out.kept (Only.of b6 []) (by simp) (by simp) (by simp) (by simp))
          have B6 := Lib.hid (B5.out.trans (b6.mono B5.out.size))
          clear D5 B5 S6 S5' b6
          go_wp2_with fail
          refine (count_any P M ow ns _ D6.out.tab).mono ?_
          rintro e w7 ⟨rfl, rfl⟩
          go_wp2_with fail
          refine (OW.out _ D6.out.tab).mono ?_
          rintro e w7 ⟨rfl, rfl⟩
          go_wp2_with fail
          go_roundw
          case rel => exact ⟨i + 1, ns, by simp, by omega, hnl, D6.out, B6.out⟩
          case measure => simp only [intOf, Int.toNat_natCast]; omega
    · obtain rfl : i = len := by omega
      clear hD hB HX
      go_wp2_with fail
      go_ret
      exact ⟨rfl, BR.out⟩
set_option maxRecDepth 100000 in
theorem lifted (os : Os) (started : os.Started) (H : Type) (enc : TypeId × Value → H) :
    ReturnsInHanded {} Try.checked os 3 .any (Rows.framesCallsSpec.pre6 enc Try.prog Try.f3 Rows.framesCallsRow.domain false) (Rows.framesCallsSpec.post enc Try.prog Try.f3 false true false false) := by
  refine returnsInHanded_of_change_sized (C := Try.checked) own started (by kernel_rfl) Try.func3
    (ChangeSpec.witness6 (enc := enc) (C := Try.checked) false ⟨#[], #[.int .i64 0, .slice none 0 0, .int .i64 0, .int .i64 0], []⟩ 8 (by kernel_rfl) (by kernel_rfl) (by kernel_rfl) (by kernel_rfl)) ?_
  intro W base args ds gs before hval0 hW hcnd hZ0 _
  have hval : ∀ (j : Nat) t v, Try.f3.params[j]? = some t → args[j]? = some v → Value.okWide Try.prog W .any base t v := hval0
  have hZ : ∀ n ∈ DataW.weightsEach Try.prog (Try.f3.params.toList ++ []) (ds ++ gs), n ≤ reachBytes := fun n hn => of_decide_eq_true (List.all_eq_true.1 hZ0 n hn)
  have hW' := hW
  obtain ⟨p, q, hA0, hV, rfl, hfz, hnd⟩ := hW
  have hA : DataW.TrodAll enc Try.prog W 0 (fun _ => true) true Try.f3.params.toList args.toList ds p := hA0
  rw [Try.params3] at hA hval hZ
  obtain ⟨v0, vs0, d0, ds0, p0, q0, hargs, rfl, rfl, h0, r0⟩ := trodAll_cons hA
  obtain ⟨v1, vs1, d1, ds1, p1, q1, rfl, rfl, rfl, h1, r1⟩ := trodAll_cons r0
  obtain ⟨v2, vs2, d2, ds2, p2, q2, rfl, rfl, rfl, h2, r2⟩ := trodAll_cons r1
  obtain ⟨v3, vs3, d3, ds3, p3, q3, rfl, rfl, rfl, h3, r3⟩ := trodAll_cons r2
  obtain ⟨rfl, rfl, rfl⟩ := trodAll_nil r3
  obtain rfl : args = #[v0, v1, v2, v3] := by cases args; simp_all
  obtain ⟨rfl, rfl⟩ := trodVars_none hV
  obtain ⟨x0, rfl, rfl, rfl, w0⟩ := open_int Try.underlying3 (hval 0 3 v0 rfl rfl) h0
  have k1 := h1
  have hz1 : ∀ n ∈ d1.weights Try.prog 22, n ≤ reachBytes := fun n hn => hZ n (by simp only [List.append_nil, DataW.weightsEach, List.mem_append]; exact Or.inr (Or.inl hn))
  obtain ⟨a1, n1, c1, y1, rfl, m1, lt1, z1⟩ := fcalls_open (hval 1 22 v1 rfl rfl) h1 hz1
  obtain ⟨x2, rfl, rfl, rfl, w2⟩ := open_int Try.underlying3 (hval 2 3 v2 rfl rfl) h2
  obtain ⟨x3, rfl, rfl, rfl, w3⟩ := open_int Try.underlying3 (hval 3 3 v3 rfl rfl) h3
  clear hA0 hval0 hZ0
  refine (walk x0 a1 n1 c1 y1 x2 x3 W m1 z1).mono fun e W' ⟨he, ho⟩ => ?_
  subst he
  have bel : Below W.heap.size W W' := ho
  exact ⟨_, rfl, _, _, _, [], _, [], hW', trodAll_mk1 (shut_bool Try.underlying4 _), (trodAll_cons_mk (shut_int Try.underlying3 w0) (trodAll_cons_mk (Below.trod laidOut (by kernel_rfl) (of_decide_eq_true (by kernel_rfl)) k1 bel lt1) (trodAll_cons_mk (shut_int Try.underlying3 w2) (trodAll_cons_mk (shut_int Try.underlying3 w3) trodAll_mk0)))), rfl, bel.frame _, fun h => by cases h⟩
theorem over : Rows.framesCallsRow.holds Try.pinned (OpenSpec.ofChange Rows.framesCallsSpec) :=
  OpenClaim.holds_of_wide 3 Try.f3 rfl rfl rfl rfl rfl rfl rfl ⟨rfl, rfl, rfl, rfl, rfl⟩ rfl rfl rfl rfl rfl (by kernel_rfl) Try.func3 (by kernel_rfl)
    (of_decide_eq_true (by kernel_rfl)) (by unfold Func.isWrapper; first | (rw [if_pos (by decide +kernel)]; kernel_rfl) | (rw [if_neg (by decide +kernel)]; exact ⟨rfl, rfl⟩))
    (fun os started H enc _ => lifted os started H enc)
end framesCalls
/-- The statement. -/
theorem framesCalls_holds : Rows.FramesCallsSaid := framesCalls.over
#print axioms framesCalls_holds
end Go.Proofs.Ytgeagnpgcjjifaa
