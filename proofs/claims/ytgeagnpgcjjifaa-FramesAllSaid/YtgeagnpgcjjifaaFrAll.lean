/-
  FramesAll: as many frames are taken as there are, each once, the least ones first; then there is none: for every input true, and the input reads as it did; no condition.
-/
import Derived.Test.YtgeagnpgcjjifaaFrLawMath
import Derived.Test.YtgeagnpgcjjifaaFrList
import Derived.Test.YtgeagnpgcjjifaaFrAlive
import Derived.Test.YtgeagnpgcjjifaaFrOpen
namespace Go.Proofs.Ytgeagnpgcjjifaa
open Go.ChangeShapes Go.WideShapes Go.ChangeAt Go.RowKit Go.Deep
namespace framesAll
open Fr
open Ph (Only)
set_option maxRecDepth 100000 in
set_option maxHeartbeats 8000000 in
theorem walk (n ow : Int) (w : World) :
    Calls Try.prog 5 #[.int .i64 n, .int .i64 ow] w fun e w' => e = .returned (.bool true) ∧ Below w.heap.size w w' := by
  go_enter Try.func5, Try.ntmps5
  go_wp2_with fail
  refine (alive_any _).mono ?_
  rintro e w0 ⟨rfl, B0⟩
  by_cases g3 : n < 1
  · have g3' : decide (n < 1) = true := decide_eq_true g3
    go_wp2
    go_ret
    exact ⟨rfl, B0⟩
  by_cases g4 : 300 < n
  · clear g3
    go_wp2
    go_ret
    exact ⟨rfl, B0⟩
  by_cases g5 : ow < 1
  · have g3' : ¬ n < 1 := g3
    go_wp2
    go_ret
    exact ⟨rfl, B0⟩
  by_cases g6 : 9 < ow
  · have g3' : ¬ n < 1 := g3
    go_wp2
    go_ret
    exact ⟨rfl, B0⟩
  obtain ⟨q, rfl⟩ := Int.eq_ofNat_of_zero_le (show 0 ≤ ow by omega)
  have v1 : 1 ≤ q := by omega
  have v9 : q ≤ 9 := by omega
  have v1' : ¬ (q : Int) < 1 := by omega
  have v9' : ¬ (9 : Int) < (q : Int) := by omega
  clear g5 g6
  obtain ⟨N, rfl⟩ := Int.eq_ofNat_of_zero_le (show 0 ≤ n by omega)
  have r1 : 1 ≤ N := by omega
  have r2 : N ≤ 300 := by omega
  have r3 : ¬ (N : Int) < 1 := by omega
  have r4 : ¬ (300 : Int) < (N : Int) := by omega
  clear g3 g4
  go_wp2_with fail
  refine (new_yes N w0 r1 (by omega)).mono ?_
  rintro e w1 ⟨rfl, T1, O1⟩
  have B1 := Lib.hid (B0.trans (O1.below B0.size (by simp)))
  obtain ⟨P, hP⟩ : ∃ p, p = w0.heap.size + 1 := ⟨_, rfl⟩
  obtain ⟨M, hM⟩ : ∃ p, p = w0.heap.size := ⟨_, rfl⟩
  rw [← hP, ← hM] at T1
  have q1 : w.heap.size ≤ P := by have := B0.size; omega
  have q2 : w.heap.size ≤ M := by have := B0.size; omega
  have z1 := T1.tb.lt
  have z2 := T1.tb.row.lt
  have T1' := Lib.hid T1
  rw [← hP]
  clear hP hM B0 O1 T1
  go_wp2_with fail
  go_loopw [7] (fun c wr => ∃ i : Nat, c = .int .i64 i ∧ i ≤ N ∧ Tab wr P M (prt N i q) ∧ Below w.heap.size w wr) (fun c _ => N - (intOf c).toNat)
  case atStart => exact ⟨0, rfl, Nat.zero_le _, T1'.out, B1.out⟩
  case round =>
    obtain ⟨i, rfl, hi, hT, hB⟩ := hrel
    have TR := Lib.hid hT
    have BR := Lib.hid hB
    clear hT hB T1' B1
    by_cases hlt : i < N
    · have C1 := take_any P M q _ _ TR.out
      rw [prt_take hlt v1 v9] at C1
      go_wp2_with fail
      refine C1.mono ?_
      rintro e w3 ⟨rfl, T3, O3⟩
      have B3 := Lib.hid (BR.out.trans (O3.below (B := w.heap.size) BR.out.size (by simp; omega)))
      have T3' := Lib.hid T3
      clear C1 T3 O3 TR BR
      go_wp2_with fail
      go_roundw
      case rel => exact ⟨i + 1, by simp, by omega, T3'.out, B3.out⟩
      case measure => simp only [intOf, Int.toNat_natCast]; omega
    · obtain rfl : i = N := by omega
      have C1 := take_any P M q _ _ TR.out
      rw [prt_full v1 v9] at C1
      go_wp2_with fail
      refine C1.mono ?_
      rintro e w3 ⟨rfl, T3, O3⟩
      have B3 := Lib.hid (BR.out.trans (O3.below (B := w.heap.size) BR.out.size (by simp; omega)))
      have T3' := Lib.hid T3
      have p1 := T3.tb.lt
      have p2 := T3.tb.row.lt
      clear C1 T3 O3 TR BR
      have htk : tk q = true := tk_in v1 v9
      have hga : (gaL q (prt i i q)).length = i := by
        unfold gaL
        rw [htk, if_pos rfl]
        have h1 := which_count q (prt i i q)
        rw [prt_cn v1 i (Nat.le_refl _)] at h1
        omega
      have hgo : gaO q (prt i i q) = List.replicate i 0 := by
        unfold gaO
        rw [htk, if_pos rfl]
        exact prt_gone v1
      go_wp2_with fail
      refine (giveAll_any P M q _ _ T3'.out p1 p2).mono ?_
      rintro e w4 ⟨v, rfl, S4, T4, O4⟩
      rw [hgo] at T4
      obtain ⟨va, vc, rfl⟩ := S4.form
      rw [hga]
      have B4 := Lib.hid (B3.out.trans (O4.below (B := w.heap.size) B3.out.size (by simp; omega)))
      have T4' := Lib.hid T4
      clear S4 T4 O4 T3' B3 hgo hga
      by_cases h64 : i < 64
      · have C2 := takeRun_any P M q _ _ T4'.out
        rw [none_run v1 v9 h64] at C2
        have h64' : (i : Int) < 64 := by omega
        go_wp2_with fail
        refine C2.mono ?_
        rintro e w5 ⟨rfl, T5, O5⟩
        have B5 := Lib.hid (B4.out.trans (O5.below (B := w.heap.size) B4.out.size (by simp; omega)))
        clear C2 T5 O5 T4' B4
        go_wp2_with fail
        go_ret
        exact ⟨rfl, B5.out⟩
      · have C2 := takeRun_any P M q _ _ T4'.out
        rw [first_run v1 v9 (by omega)] at C2
        have h64' : ¬ (i : Int) < 64 := by omega
        go_wp2_with fail
        refine C2.mono ?_
        rintro e w5 ⟨rfl, T5, O5⟩
        have B5 := Lib.hid (B4.out.trans (O5.below (B := w.heap.size) B4.out.size (by simp; omega)))
        have T5' := Lib.hid T5
        have C3 := count_yes P M q _ _ T5'.out (by omega)
        rw [prt_cn v1 64 (by omega)] at C3
        clear C2 T5 O5 T4' B4
        go_wp2_with fail
        refine C3.mono ?_
        rintro e w6 ⟨rfl, rfl⟩
        go_wp2_with fail
        go_ret
        exact ⟨rfl, B5.out⟩
set_option maxRecDepth 100000 in
theorem lifted (os : Os) (started : os.Started) (H : Type) (enc : TypeId × Value → H) :
    ReturnsInHanded {} Try.checked os 5 .any (Rows.framesAllSpec.pre6 enc Try.prog Try.f5 Rows.framesAllRow.domain false) (Rows.framesAllSpec.post enc Try.prog Try.f5 false true false false) := by
  refine returnsInHanded_of_change_sized (C := Try.checked) own started (by kernel_rfl) Try.func5
    (ChangeSpec.witness6 (enc := enc) (C := Try.checked) false ⟨#[], #[.int .i64 0, .int .i64 0], []⟩ 8 (by kernel_rfl) (by kernel_rfl) (by kernel_rfl) (by kernel_rfl)) ?_
  intro W base args ds gs before hval0 hW hcnd hZ0 _
  have hval : ∀ (j : Nat) t v, Try.f5.params[j]? = some t → args[j]? = some v → Value.okWide Try.prog W .any base t v := hval0
  have hZ : ∀ n ∈ DataW.weightsEach Try.prog (Try.f5.params.toList ++ []) (ds ++ gs), n ≤ reachBytes := fun n hn => of_decide_eq_true (List.all_eq_true.1 hZ0 n hn)
  have hW' := hW
  obtain ⟨p, q, hA0, hV, rfl, hfz, hnd⟩ := hW
  have hA : DataW.TrodAll enc Try.prog W 0 (fun _ => true) true Try.f5.params.toList args.toList ds p := hA0
  rw [Try.params5] at hA hval hZ
  obtain ⟨v0, vs0, d0, ds0, p0, q0, hargs, rfl, rfl, h0, r0⟩ := trodAll_cons hA
  obtain ⟨v1, vs1, d1, ds1, p1, q1, rfl, rfl, rfl, h1, r1⟩ := trodAll_cons r0
  obtain ⟨rfl, rfl, rfl⟩ := trodAll_nil r1
  obtain rfl : args = #[v0, v1] := by cases args; simp_all
  obtain ⟨rfl, rfl⟩ := trodVars_none hV
  obtain ⟨x0, rfl, rfl, rfl, w0⟩ := open_int Try.underlying3 (hval 0 3 v0 rfl rfl) h0
  obtain ⟨x1, rfl, rfl, rfl, w1⟩ := open_int Try.underlying3 (hval 1 3 v1 rfl rfl) h1
  clear hA0 hval0 hZ0
  simp only [List.append_nil] at hW'
  refine (walk x0 x1 W).mono fun e W' ⟨he, ho⟩ => ?_
  subst he
  have bel : Below W.heap.size W W' := ho
  exact ⟨_, rfl, _, _, _, [], [], [], hW', trodAll_mk1 (shut_bool Try.underlying4 _), (trodAll_cons_mk (shut_int Try.underlying3 w0) (trodAll_cons_mk (shut_int Try.underlying3 w1) trodAll_mk0)), rfl, bel.frame _, fun h => by cases h⟩
theorem over : Rows.framesAllRow.holds Try.pinned (OpenSpec.ofChange Rows.framesAllSpec) :=
  OpenClaim.holds_of_wide 5 Try.f5 rfl rfl rfl rfl rfl rfl rfl ⟨rfl, rfl, rfl, rfl, rfl⟩ rfl rfl rfl rfl rfl (by kernel_rfl) Try.func5 (by kernel_rfl)
    (of_decide_eq_true (by kernel_rfl)) (by unfold Func.isWrapper; first | (rw [if_pos (by decide +kernel)]; kernel_rfl) | (rw [if_neg (by decide +kernel)]; exact ⟨rfl, rfl⟩))
    (fun os started H enc _ => lifted os started H enc)
end framesAll
/-- The statement. -/
theorem framesAll_holds : Rows.FramesAllSaid := framesAll.over
#print axioms framesAll_holds
end Go.Proofs.Ytgeagnpgcjjifaa
