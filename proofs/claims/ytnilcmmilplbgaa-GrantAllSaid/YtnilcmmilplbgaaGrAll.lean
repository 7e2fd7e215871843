/-
  GrantAll: there are just 32 grants; each frame is offered once to each: for every input true, and the input reads as it did; no condition.
-/
import Derived.Test.YtnilcmmilplbgaaGrAlive
import Derived.Test.YtnilcmmilplbgaaGrOpen
namespace Go.Proofs.Ytnilcmmilplbgaa
open Go.ChangeShapes Go.WideShapes Go.ChangeAt Go.RowKit Go.Deep
namespace grantAll
open Gr
open Ph (Only)
set_option maxRecDepth 100000 in
set_option maxHeartbeats 8000000 in
theorem walk (o t : Int) (v : Bool) (w : World) :
    Calls Try.prog 5 #[.int .i64 o, .int .i64 t, .bool v] w fun e w' => e = .returned (.bool true) ∧ Below w.heap.size w w' := by
  have hz : ∀ w, (zeroValue 37).run Try.prog w = .ok (gV gz) w := fun _ => by kernel_rfl
  go_enter Try.func5, Try.ntmps5
  go_wp2_with fail
  refine (alive_any _).mono ?_
  rintro e w0 ⟨rfl, B0⟩
  by_cases gao : o < 2
  · have gdo : decide (o < 2) = true := decide_eq_true gao
    go_wp2
    go_ret
    exact ⟨rfl, B0⟩
  have gdo : decide (o < 2) = false := decide_eq_false gao
  by_cases gbo : 9 < o
  · have gfo : decide (9 < o) = true := decide_eq_true gbo
    go_wp2
    go_ret
    exact ⟨rfl, B0⟩
  have gfo : decide (9 < o) = false := decide_eq_false gbo
  by_cases gat : t < 2
  · have gdt : decide (t < 2) = true := decide_eq_true gat
    go_wp2
    go_ret
    exact ⟨rfl, B0⟩
  have gdt : decide (t < 2) = false := decide_eq_false gat
  by_cases gbt : 9 < t
  · have gft : decide (9 < t) = true := decide_eq_true gbt
    go_wp2
    go_ret
    exact ⟨rfl, B0⟩
  have gft : decide (9 < t) = false := decide_eq_false gbt
  by_cases ne : o = t
  · subst ne
    go_wp2
    go_ret
    exact ⟨rfl, B0⟩
  have dne : (o == t) = false := by simpa using ne
  have go : gst o = true := gst_iff.2 ⟨by omega, by omega⟩
  have gt : gst t = true := gst_iff.2 ⟨by omega, by omega⟩
  go_wp2_with fail
  refine (new_any w0).mono ?_
  rintro e w1 ⟨rfl, R1, O1⟩
  have B1 := Lib.hid (B0.trans (O1.below B0.size (by simp)))
  obtain ⟨P, hP⟩ : ∃ p, p = w0.heap.size := ⟨_, rfl⟩
  rw [← hP] at R1 ⊢
  have q1 : w.heap.size ≤ P := by have := B0.size; omega
  have R1' := Lib.hid R1
  clear hP B0 O1 R1
  clear gao gbo gat gbt
  go_wp2_with fail
  go_loopw [8] (fun c wr => ∃ i : Nat, c = .int .i64 i ∧ i ≤ 32 ∧ Row6 wr P (allG o t v i) ∧ Below w.heap.size w wr) (fun c _ => 32 - (intOf c).toNat)
  case atStart => exact ⟨0, rfl, Nat.zero_le _, by rw [allG_zero]; exact R1'.out, B1.out⟩
  case round =>
    obtain ⟨i, rfl, hi, hR, hB⟩ := hrel
    have RR := Lib.hid hR
    have BR := Lib.hid hB
    clear hR hB R1' B1
    by_cases hlt : i < 32
    · go_wp2_with fail
      have C1 := offer_any P o i t v _ _ RR.out
      rw [off_all go gt ne hlt] at C1
      refine C1.mono ?_
      rintro e w3 ⟨rfl, R3, O3⟩
      have B3 := Lib.hid (BR.out.trans (O3.below (B := w.heap.size) BR.out.size (by simp; omega)))
      have R3' := Lib.hid R3
      clear C1 R3 O3 RR BR
      go_wp2_with fail
      have C2 := offer_any P o i t (!v) _ _ R3'.out
      rw [off_twice go gt ne hlt] at C2
      refine C2.mono ?_
      rintro e w4 ⟨rfl, R4, O4⟩
      have B4 := Lib.hid (B3.out.trans (O4.below (B := w.heap.size) B3.out.size (by simp; omega)))
      have R4' := Lib.hid R4
      clear C2 R4 O4 R3' B3
      go_wp2_with fail
      go_roundw
      case rel => exact ⟨i + 1, by simp, by omega, R4'.out, B4.out⟩
      case measure => simp only [intOf, Int.toNat_natCast]; omega
    · obtain rfl : i = 32 := by omega
      go_wp2_with fail
      have C1 := offer_any P o 32 t v _ _ RR.out
      rw [off_full go gt ne] at C1
      refine C1.mono ?_
      rintro e w3 ⟨rfl, R3, O3⟩
      have B3 := Lib.hid (BR.out.trans (O3.below (B := w.heap.size) BR.out.size (by simp; omega)))
      have R3' := Lib.hid R3
      clear C1 R3 O3 RR BR
      go_wp2_with fail
      have C2 := revoke_any P 5 o _ _ R3'.out
      rw [rev_all go] at C2
      refine C2.mono ?_
      rintro e w4 ⟨rfl, R4, O4⟩
      have B4 := Lib.hid (B3.out.trans (O4.below (B := w.heap.size) B3.out.size (by simp; omega)))
      have R4' := Lib.hid R4
      clear C2 R4 O4 R3' B3
      have oA := Only.alloc [] w4 (.cells #[.int .i64 1, .int .i64 o, .int .i64 5, .int .i64 t, .int .i64 0, .bool v] 37)
      have R5 := Lib.hid (R4'.out.kept oA (by simp))
      have B5 := Lib.hid (B4.out.trans (oA.below (B := w.heap.size) B4.out.size (by simp)))
      clear oA R4' B4
      go_wp2_with fail
      generalize w4.alloc (.cells #[.int .i64 1, .int .i64 o, .int .i64 5, .int .i64 t, .int .i64 0, .bool v] 37) = w5 at *
      have C3 := offer_any P t 32 o v _ _ R5.out
      rw [off_back go gt ne] at C3
      refine C3.mono ?_
      rintro e w6 ⟨rfl, R6, O6⟩
      have B6 := Lib.hid (B5.out.trans (O6.below (B := w.heap.size) B5.out.size (by simp; omega)))
      have R6' := Lib.hid (show Row6 w6 P (fulG o t v) from R6)
      clear C3 R6 O6 R5 B5
      go_wp2_with fail
      refine (gone_any P o _ _ R6'.out).mono ?_
      rintro e w7 ⟨v7, rfl, S7, R7, O7⟩
      obtain ⟨va, vc, rfl⟩ := S7.form
      rw [ful_len o t v 32 (by omega)]
      have B7 := Lib.hid (B6.out.trans (O7.below (B := w.heap.size) B6.out.size (by simp; omega)))
      have R7' := Lib.hid R7
      clear S7 R7 O7 R6' B6
      go_wp2_with fail
      refine (gone_any P t _ _ R7'.out).mono ?_
      rintro e w8 ⟨v8, rfl, S8, R8, O8⟩
      obtain ⟨ua, uc, rfl⟩ := S8.form
      rw [ful_gone o t v 32 (by omega)]
      have B8 := Lib.hid (B7.out.trans (O8.below (B := w.heap.size) B7.out.size (by simp; omega)))
      clear S8 R8 O8 R7' B7
      go_wp2_with fail
      go_ret
      exact ⟨rfl, B8.out⟩
set_option maxRecDepth 100000 in
theorem lifted (os : Os) (started : os.Started) (H : Type) (enc : TypeId × Value → H) :
    ReturnsInHanded {} Try.checked os 5 .any (Rows.grantAllSpec.pre6 enc Try.prog Try.f5 Rows.grantAllRow.domain false) (Rows.grantAllSpec.post enc Try.prog Try.f5 false true false false) := by
  refine returnsInHanded_of_change_sized (C := Try.checked) ownK started (by kernel_rfl) Try.func5
    (ChangeSpec.witness6 (enc := enc) (C := Try.checked) false ⟨#[], #[.int .i64 0, .int .i64 0, .bool false], []⟩ 8 (by kernel_rfl) (by kernel_rfl) (by kernel_rfl) (by kernel_rfl)) ?_
  intro W base args ds gs before hval0 hW hcnd hZ0 _
  have hval : ∀ (j : Nat) t v, Try.f5.params[j]? = some t → args[j]? = some v → Value.okWide Try.prog W .any base t v := hval0
  have hZ : ∀ n ∈ DataW.weightsEach Try.prog (Try.f5.params.toList ++ []) (ds ++ gs), n ≤ reachBytes := fun n hn => of_decide_eq_true (List.all_eq_true.1 hZ0 n hn)
  have hW' := hW
  obtain ⟨p, q, hA0, hV, rfl, hfz, hnd⟩ := hW
  have hA : DataW.TrodAll enc Try.prog W 0 (fun _ => true) true Try.f5.params.toList args.toList ds p := hA0
  rw [Try.params5] at hA hval hZ
  obtain ⟨v0, vs0, d0, ds0, p0, q0, hargs, rfl, rfl, h0, r0⟩ := trodAll_cons hA
  obtain ⟨v1, vs1, d1, ds1, p1, q1, rfl, rfl, rfl, h1, r1⟩ := trodAll_cons r0
  obtain ⟨v2, vs2, d2, ds2, p2, q2, rfl, rfl, rfl, h2, r2⟩ := trodAll_cons r1
  obtain ⟨rfl, rfl, rfl⟩ := trodAll_nil r2
  obtain rfl : args = #[v0, v1, v2] := by cases args; simp_all
  obtain ⟨rfl, rfl⟩ := trodVars_none hV
  obtain ⟨x0, rfl, rfl, rfl, w0⟩ := open_int Try.underlying3 (hval 0 3 v0 rfl rfl) h0
  obtain ⟨x1, rfl, rfl, rfl, w1⟩ := open_int Try.underlying3 (hval 1 3 v1 rfl rfl) h1
  obtain ⟨x2, rfl, rfl, rfl⟩ := open_bool Try.underlying4 (hval 2 4 v2 rfl rfl) h2
  clear hA0 hval0 hZ0
  simp only [List.append_nil] at hW'
  refine (walk x0 x1 x2 W).mono fun e W' ⟨he, ho⟩ => ?_
  subst he
  have bel : Below W.heap.size W W' := ho
  exact ⟨_, rfl, _, _, _, [], [], [], hW', trodAll_mk1 (shut_bool Try.underlying4 _), (trodAll_cons_mk (shut_int Try.underlying3 w0) (trodAll_cons_mk (shut_int Try.underlying3 w1) (trodAll_cons_mk (shut_bool Try.underlying4 x2) trodAll_mk0))), rfl, bel.frame _, fun h => by cases h⟩
theorem over : Rows.grantAllRow.holds Try.pinned (OpenSpec.ofChange Rows.grantAllSpec) :=
  OpenClaim.holds_of_wide 5 Try.f5 rfl rfl rfl rfl rfl rfl rfl ⟨rfl, rfl, rfl, rfl, rfl⟩ rfl rfl rfl rfl rfl (by kernel_rfl) Try.func5 (by kernel_rfl)
    (of_decide_eq_true (by kernel_rfl)) (by unfold Func.isWrapper; first | (rw [if_pos (by decide +kernel)]; kernel_rfl) | (rw [if_neg (by decide +kernel)]; exact ⟨rfl, rfl⟩))
    (fun os started H enc _ => lifted os started H enc)
end grantAll
/-- The statement. -/
theorem grantAll_holds : Rows.GrantAllSaid := grantAll.over
#print axioms grantAll_holds
end Go.Proofs.Ytnilcmmilplbgaa
