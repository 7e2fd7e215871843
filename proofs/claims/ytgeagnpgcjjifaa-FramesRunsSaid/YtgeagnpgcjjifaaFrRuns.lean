/-
  FramesRuns: a run begins at 64 times something, all its frames were nobody's and are the owner's, and no lesser run was free as a whole: for every input true, and the input reads as it did; no condition.
-/
import Derived.Test.YtgeagnpgcjjifaaFrDo
import Derived.Test.YtgeagnpgcjjifaaFrLawMath
import Derived.Test.YtgeagnpgcjjifaaFrAlive
namespace Go.Proofs.Ytgeagnpgcjjifaa
open Go.ChangeShapes Go.WideShapes Go.ChangeAt Go.RowKit Go.Deep
namespace framesRuns
open Fr
open Ph (Only)
/-- A row that isn't empty lies in a block. -/
theorem all_of {B : Nat} {w : World} {a : Option Addr} {n cap : Nat} {l : List Nat} (h : Seen B w (.slice a n cap) l) (hl : 0 < l.length) : ∃ b, a = some ⟨b, 0, none⟩ ∧ b < w.heap.size ∧ ∀ (i x : Nat), l[i]? = some x → w.cell? ⟨b, i, none⟩ = some (.int .i64 (x : Int)) := by
  obtain ⟨a', cap', e, _, hr⟩ := h
  injection e with e1 _ e2
  subst e1
  obtain ⟨b, rfl, _, hlt, hc⟩ := hr hl
  exact ⟨b, rfl, hlt, hc⟩
theorem taken_run (n a q k : Nat) (os : List Nat) (h1 : 1 ≤ q) (h9 : q ≤ 9) (ha : a = n * k) (hs : spot n os = some k) (hl : a + n ≤ os.length) : ∃ ns, takeP n q os = ((a : Int), 0, ns) ∧ ∀ j, j < n → ns[a + j]? = some q := by
  refine ⟨setR os a n q, ?_, fun j hj => ?_⟩
  · unfold takeP
    rw [tk_in h1 h9, hs, if_pos rfl, ha]
    rfl
  · rw [setR_get _ _ _ _ _ hl, if_pos (by omega)]
set_option maxRecDepth 100000 in
set_option maxHeartbeats 8000000 in
theorem walk (n : Int) (pa : Option Addr) (len cap : Nat) (y : Nat → CallT) (ow : Int) (w : World) (hl : len ≤ cap ∧ cap ≤ maxLen) (hx : FCalls w.heap.size w pa len y) :
    Calls Try.prog 6 #[.int .i64 n, .slice pa len cap, .int .i64 ow] w fun e w' => e = .returned (.bool true) ∧ Below w.heap.size w w' := by
  have HX := Lib.hid hx
  have hlm : len ≤ maxLen := by omega
  unfold maxLen at hlm
  clear hx hl
  go_enter Try.func6, Try.ntmps6
  go_wp2_with fail
  refine (alive_any _).mono ?_
  rintro e w0 ⟨rfl, B0⟩
  by_cases g1 : 60 < len
  · have g1' : (60 : Int) < (len : Int) := by omega
    go_wp2
    go_ret
    exact ⟨rfl, B0⟩
  have g60 : len ≤ 60 := by omega
  have g60' : ¬ (60 : Int) < (len : Int) := by omega
  clear g1
  by_cases g3 : n < 1
  · have g3' : decide (n < 1) = true := decide_eq_true g3
    go_wp2
    go_ret
    exact ⟨rfl, B0⟩
  by_cases g4 : 300 < n
  · clear g3
    go_wp2
    go_ret
    exact ⟨rfl, B0⟩
  by_cases g5 : ow < 1
  · have g3' : ¬ n < 1 := g3
    go_wp2
    go_ret
    exact ⟨rfl, B0⟩
  by_cases g6 : 9 < ow
  · have g3' : ¬ n < 1 := g3
    go_wp2
    go_ret
    exact ⟨rfl, B0⟩
  obtain ⟨q, rfl⟩ := Int.eq_ofNat_of_zero_le (show 0 ≤ ow by omega)
  have v1 : 1 ≤ q := by omega
  have v9 : q ≤ 9 := by omega
  have v1' : ¬ (q : Int) < 1 := by omega
  have v9' : ¬ (9 : Int) < (q : Int) := by omega
  clear g5 g6
  obtain ⟨N, rfl⟩ := Int.eq_ofNat_of_zero_le (show 0 ≤ n by omega)
  have r1 : 1 ≤ N := by omega
  have r2 : N ≤ 300 := by omega
  have r3 : ¬ (N : Int) < 1 := by omega
  have r4 : ¬ (300 : Int) < (N : Int) := by omega
  clear g3 g4
  go_wp2_with fail
  refine (new_yes N w0 r1 (by omega)).mono ?_
  rintro e w1 ⟨rfl, T1, O1⟩
  have B1 := Lib.hid (B0.trans (O1.below B0.size (by simp)))
  obtain ⟨P, hP⟩ : ∃ p, p = w0.heap.size + 1 := ⟨_, rfl⟩
  obtain ⟨M, hM⟩ : ∃ p, p = w0.heap.size := ⟨_, rfl⟩
  rw [← hP, ← hM] at T1
  have q1 : w.heap.size ≤ P := by have := B0.size; omega
  have q2 : w.heap.size ≤ M := by have := B0.size; omega
  have z1 := T1.tb.lt
  have z2 := T1.tb.row.lt
  have T1' := Lib.hid T1
  rw [← hP]
  clear hP hM B0 O1 T1
  go_wp2_with fail
  refine (rnew_any N w1 (by omega)).mono ?_
  rintro e w2 ⟨rfl, R2, O2⟩
  have B2 := Lib.hid (B1.out.trans (O2.below B1.out.size (by simp)))
  have D2 := Lib.hid (show Both w2 P M (w1.heap.size + 1) w1.heap.size (List.replicate N 0) from ⟨T1'.out.kept O2 (by simp) (by simp), R2⟩)
  have A2 := Lib.hid (show Away w.heap.size P M (w1.heap.size + 1) w1.heap.size from ⟨by omega, by omega, by omega, by omega, q1, q2, by have := B1.out.size; omega, B1.out.size⟩)
  obtain ⟨r, hr⟩ : ∃ r, r = w1.heap.size + 1 := ⟨_, rfl⟩
  obtain ⟨g, hg⟩ : ∃ g, g = w1.heap.size := ⟨_, rfl⟩
  rw [← hr, ← hg] at D2 A2
  rw [← hr]
  clear hr hg B1 O2 R2 T1' z1 z2
  go_wp2_with fail
  go_loopw [10] (fun c wr => ∃ (i : Nat) (os : List Nat), c = .int .i64 i ∧ i ≤ len ∧ os.length = N ∧ Both wr P M r g os ∧ Below w.heap.size w wr) (fun c _ => len - (intOf c).toNat)
  case atStart => exact ⟨0, _, rfl, Nat.zero_le _, by simp, D2.out, B2.out⟩
  case round =>
    obtain ⟨i, os, rfl, hi, hos, hD, hB⟩ := hrel
    have DR := Lib.hid hD
    have BR := Lib.hid hB
    clear D2 B2
    by_cases hlt : i < len
    · obtain ⟨b, off, rfl, hbl, hC⟩ := HX.out.at hB hlt
      have c0 := hC.c0
      have c1 := hC.c1
      have c2 := hC.c2
      have c3 := hC.c3
      generalize y i = c at *
      have hi0 : (0 : Int) ≤ (i : Int) := by omega
      have hil : (i : Int) < (len : Int) := by omega
      have HOS := Lib.hid hos
      clear hC hD hB HX hi hos
      go_wp2_with fail
      refine (do_any w.heap.size P M r g c os _ DR.out A2.out).mono ?_
      rintro e w3 ⟨rfl, D3, O3⟩
      have hln := doP_len c os
      obtain ⟨ns, hns⟩ : ∃ ns, ns = doP c os := ⟨_, rfl⟩
      rw [← hns] at D3 hln
      clear hns c0 c1 c2 c3
      have hnl : ns.length = N := hln.trans HOS.out
      have a1 := A2.out.bt
      have a2 := A2.out.bF
      have a3 := A2.out.br
      have a4 := A2.out.bG
      have B3 := Lib.hid (BR.out.trans (O3.below (B := w.heap.size) BR.out.size (by simp; omega)))
      have D3' := Lib.hid D3
      clear DR BR O3 D3 hln
      go_wp2_with fail
      go_roundw
      case rel => exact ⟨i + 1, ns, by simp, by omega, hnl, D3'.out, B3.out⟩
      case measure => simp only [intOf, Int.toNat_natCast]; omega
    · obtain rfl : i = len := by omega
      have TZ := Lib.hid hD.tab
      have a1 := A2.out.bt
      have a2 := A2.out.bF
      obtain ⟨dP, dM, _, _⟩ := hD.lt
      clear hD hB HX DR hlt hi A2
      have CO := owners_any P M os wr TZ.out dP dM
      rw [hos] at CO
      go_wp2_with fail
      refine CO.mono ?_
      rintro e w4 ⟨v, rfl, S4x, b4⟩
      have S4 := Lib.hid S4x
      obtain ⟨va, vc, rfl⟩ := S4x.form
      have T4 := Lib.hid (TZ.out.keptB b4 dP dM)
      have B4 := Lib.hid (BR.out.trans (b4.mono BR.out.size))
      clear S4x b4 CO TZ BR
      obtain ⟨tp, htp⟩ : ∃ tp, tp = takeP 64 q os := ⟨_, rfl⟩
      have HP := Lib.hid htp
      have C1 := takeRun_any P M q os w4 T4.out
      rw [← htp] at C1
      clear htp
      go_wp2_with fail
      refine C1.mono ?_
      rintro e w5 ⟨rfl, T5x, O5⟩
      have S5 := Lib.hid (S4.out.kept O5 (by simp; omega))
      have T5 := Lib.hid T5x
      have B5 := Lib.hid (B4.out.trans (O5.below (B := w.heap.size) B4.out.size (by simp; omega)))
      clear C1 T5x O5 S4 T4 B4
      have HOS := Lib.hid hos
      rw [hos] at S5
      clear hos
      go_wp2_with fail
      obtain ⟨bb, hva, hbb, hCB⟩ := all_of S5.out (by rw [HOS.out]; omega)
      subst hva
      have CB := Lib.hid hCB
      clear hCB S5
      go_loopw [14] (fun c wx => ∃ k : Nat, c = .int .i64 ((64 * k : Nat) : Int) ∧ 64 * k ≤ N ∧ (∀ j, j < k → isRun 64 os j = false) ∧ w5 = wx) (fun c _ => N + 1 - (intOf c).toNat)
      case atStart => exact ⟨0, rfl, by omega, fun j hj => absurd hj (by omega), by trivial⟩
      case round =>
        obtain ⟨k, rfl, hk, hno, rfl⟩ := hrel
        have HNO := Lib.hid hno
        clear hno
        obtain ⟨a, ha⟩ : ∃ a, a = 64 * k := ⟨_, rfl⟩
        rw [← ha] at hk ⊢
        have HA := Lib.hid ha
        clear ha
        by_cases hfar : a + 64 ≤ N
        · have hfarI : (a : Int) + 64 ≤ (N : Int) := by omega
          go_wp2_with fail
          go_loopw [15, 16] (fun f c wx => ∃ j : Nat, c = .int .i64 j ∧ j ≤ 64 ∧ f = .bool (fr os a j) ∧ w5 = wx) (fun _ c _ => 64 - (intOf c).toNat)
          case atStart => exact ⟨0, rfl, Nat.zero_le _, by rw [fr_zero], by trivial⟩
          case round =>
            obtain ⟨j, rfl, hj, rfl, rfl⟩ := hrel
            by_cases hjn : j < 64
            · obtain ⟨x, hx⟩ : ∃ x, os[a + j]? = some x := ⟨_, List.getElem?_eq_getElem (by rw [HOS.out]; omega)⟩
              have hc := CB.out _ x hx
              have HF := Lib.hid (fr_next hx)
              clear hx
              have hj64 : (j : Int) < 64 := by omega
              have haj : (a : Int) + (j : Int) < (N : Int) := by omega
              cases hfr : fr os a j with
              | false =>
                go_wp2_with fail
                go_roundw
                case rel => exact ⟨j + 1, rfl, by omega, by rw [HF.out, hfr]; rfl, by trivial⟩
                case measure => simp only [intOf, Int.toNat_natCast]; omega
              | true =>
                have ex : (x == 0) = ((x : Int) == 0) := by rw [Bool.eq_iff_iff]; simp
                go_wp2_with fail
                go_roundw
                case rel => exact ⟨j + 1, rfl, by omega, by rw [HF.out, hfr, ex]; rfl, by trivial⟩
                case measure => simp only [intOf, Int.toNat_natCast]; omega
            · obtain rfl : j = 64 := by omega
              rw [show ((64 : Nat) : Int) = 64 from rfl]
              cases hfr : fr os a 64 with
              | false =>
                go_wp2_with fail
                go_roundw
                case rel =>
                  have := HA.out
                  refine ⟨k + 1, by rw [this]; simp [Nat.mul_add], by rw [Nat.mul_add]; omega, fun j hj => ?_, by trivial⟩
                  by_cases e : j = k
                  · subst e; rw [isRun_fr (by rw [HOS.out]; omega), ← this]; exact hfr
                  · exact HNO.out j (by omega)
                case measure => simp only [intOf, Int.toNat_natCast]; omega
              | true =>
                have hs : spot 64 os = some k := spot_at (by omega) (by have := HA.out; rw [isRun_fr (by rw [HOS.out]; omega), ← this]; exact hfr) HNO.out
                have hlo : a + 64 ≤ os.length := by rw [HOS.out]; exact hfar
                obtain ⟨ns, e, HG0⟩ := taken_run 64 a q k os v1 v9 HA.out hs hlo
                obtain rfl := HP.out.trans e
                have HG := Lib.hid HG0
                have T6 := Lib.hid (show Tab w5 P M ns from T5.out)
                clear HG0
                have hna : ((a : Int) != (a : Int)) = false := by simp
                clear e hs HP T5 HNO HA hlo
                go_wp2_with fail
                go_loopw [17] (fun c wx => ∃ j : Nat, c = .int .i64 j ∧ j ≤ 64 ∧ w5 = wx) (fun c _ => 64 - (intOf c).toNat)
                case atStart => exact ⟨0, rfl, Nat.zero_le _, by trivial⟩
                case round =>
                  obtain ⟨j, rfl, hj, rfl⟩ := hrel
                  by_cases hjn : j < 64
                  · have hj64 : (j : Int) < 64 := by omega
                    have C2 := Lib.hid (owner_yes P M (a + j) q _ w5 T6.out (HG.out j hjn))
                    go_wp2_with fail
                    refine C2.out.mono ?_
                    rintro e wq ⟨rfl, rfl⟩
                    go_wp2_with fail
                    go_roundw
                    case rel => exact ⟨j + 1, rfl, by omega, by trivial⟩
                    case measure => simp only [intOf, Int.toNat_natCast]; omega
                  · obtain rfl : j = 64 := by omega
                    go_wp2_with fail
                    go_ret
                    exact ⟨rfl, B5.out⟩
        · have e : takeP 64 q os = (-1, 15, os) := by
            have hs : spot 64 os = none := spot_no fun j => by
              by_cases e : j < k
              · exact HNO.out j e
              · have := HA.out
                refine isRun_far ?_
                have := HOS.out
                omega
            unfold takeP
            rw [tk_in v1 v9, hs]
            rfl
          obtain rfl := HP.out.trans e
          clear e
          have hfarI : ¬ (a : Int) + 64 ≤ (N : Int) := by omega
          go_wp2_with fail
          go_ret
          exact ⟨rfl, B5.out⟩
set_option maxRecDepth 100000 in
theorem lifted (os : Os) (started : os.Started) (H : Type) (enc : TypeId × Value → H) :
    ReturnsInHanded {} Try.checked os 6 .any (Rows.framesRunsSpec.pre6 enc Try.prog Try.f6 Rows.framesRunsRow.domain false) (Rows.framesRunsSpec.post enc Try.prog Try.f6 false true false false) := by
  refine returnsInHanded_of_change_sized (C := Try.checked) own started (by kernel_rfl) Try.func6
    (ChangeSpec.witness6 (enc := enc) (C := Try.checked) false ⟨#[], #[.int .i64 0, .slice none 0 0, .int .i64 0], []⟩ 8 (by kernel_rfl) (by kernel_rfl) (by kernel_rfl) (by kernel_rfl)) ?_
  intro W base args ds gs before hval0 hW hcnd hZ0 _
  have hval : ∀ (j : Nat) t v, Try.f6.params[j]? = some t → args[j]? = some v → Value.okWide Try.prog W .any base t v := hval0
  have hZ : ∀ n ∈ DataW.weightsEach Try.prog (Try.f6.params.toList ++ []) (ds ++ gs), n ≤ reachBytes := fun n hn => of_decide_eq_true (List.all_eq_true.1 hZ0 n hn)
  have hW' := hW
  obtain ⟨p, q, hA0, hV, rfl, hfz, hnd⟩ := hW
  have hA : DataW.TrodAll enc Try.prog W 0 (fun _ => true) true Try.f6.params.toList args.toList ds p := hA0
  rw [Try.params6] at hA hval hZ
  obtain ⟨v0, vs0, d0, ds0, p0, q0, hargs, rfl, rfl, h0, r0⟩ := trodAll_cons hA
  obtain ⟨v1, vs1, d1, ds1, p1, q1, rfl, rfl, rfl, h1, r1⟩ := trodAll_cons r0
  obtain ⟨v2, vs2, d2, ds2, p2, q2, rfl, rfl, rfl, h2, r2⟩ := trodAll_cons r1
  obtain ⟨rfl, rfl, rfl⟩ := trodAll_nil r2
  obtain rfl : args = #[v0, v1, v2] := by cases args; simp_all
  obtain ⟨rfl, rfl⟩ := trodVars_none hV
  obtain ⟨x0, rfl, rfl, rfl, w0⟩ := open_int Try.underlying3 (hval 0 3 v0 rfl rfl) h0
  have k1 := h1
  have hz1 : ∀ n ∈ d1.weights Try.prog 22, n ≤ reachBytes := fun n hn => hZ n (by simp only [List.append_nil, DataW.weightsEach, List.mem_append]; exact Or.inr (Or.inl hn))
  obtain ⟨a1, n1, c1, y1, rfl, m1, lt1, z1⟩ := fcalls_open (hval 1 22 v1 rfl rfl) h1 hz1
  obtain ⟨x2, rfl, rfl, rfl, w2⟩ := open_int Try.underlying3 (hval 2 3 v2 rfl rfl) h2
  clear hA0 hval0 hZ0
  refine (walk x0 a1 n1 c1 y1 x2 W m1 z1).mono fun e W' ⟨he, ho⟩ => ?_
  subst he
  have bel : Below W.heap.size W W' := ho
  exact ⟨_, rfl, _, _, _, [], _, [], hW', trodAll_mk1 (shut_bool Try.underlying4 _), (trodAll_cons_mk (shut_int Try.underlying3 w0) (trodAll_cons_mk (Below.trod laidOut (by kernel_rfl) (of_decide_eq_true (by kernel_rfl)) k1 bel lt1) (trodAll_cons_mk (shut_int Try.underlying3 w2) trodAll_mk0))), rfl, bel.frame _, fun h => by cases h⟩
theorem over : Rows.framesRunsRow.holds Try.pinned (OpenSpec.ofChange Rows.framesRunsSpec) :=
  OpenClaim.holds_of_wide 6 Try.f6 rfl rfl rfl rfl rfl rfl rfl ⟨rfl, rfl, rfl, rfl, rfl⟩ rfl rfl rfl rfl rfl (by kernel_rfl) Try.func6 (by kernel_rfl)
    (of_decide_eq_true (by kernel_rfl)) (by unfold Func.isWrapper; first | (rw [if_pos (by decide +kernel)]; kernel_rfl) | (rw [if_neg (by decide +kernel)]; exact ⟨rfl, rfl⟩))
    (fun os started H enc _ => lifted os started H enc)
end framesRuns
/-- The statement. -/
theorem framesRuns_holds : Rows.FramesRunsSaid := framesRuns.over
#print axioms framesRuns_holds
end Go.Proofs.Ytgeagnpgcjjifaa
