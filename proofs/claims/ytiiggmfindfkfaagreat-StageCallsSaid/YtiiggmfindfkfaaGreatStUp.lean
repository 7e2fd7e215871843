/-
  What stage's replace, clearUp and whole do. Conditions: that a space lies there that tells its pages, and that each argument is of its Go type.
-/
import Derived.Test.YtiiggmfindfkfaaGreatStTab
import Derived.BigQuiet
namespace Go.Proofs.YtiiggmfindfkfaaGreat
open Go.RowKit Nt
namespace St
open Ph En Wk
variable {L : Loc} {v : Value} {x : Pl} {A : Nat → Fst}
theorem word_wd (t k : Nat) (Aa q : Int) (w : World) (hS : St L w v x) (hAa : Aa = 256 * (t : Int) + 4 * k) (ht : t < L.n) (hk : k < 64) (hq : wd L.n x.z t k = q) :
    Calls Tryz.prog 49 #[.pointer (some ⟨L.m, 0, none⟩), .int .u32 Aa] w fun e w' => e = .returned (.tuple #[.int .u32 q, .bool true]) ∧ ∃ k, w' = w.drewN k := by
  have hf := hS.mem.few
  have h := word_at L.m L.F L.n L.c (256 * t + 4 * k) Aa x.z w hS.mem (by rw [hAa]; omega) (by omega)
  rw [hwA_at ht hk] at h
  rw [← hq]
  exact h
theorem give_1 (t : Nat) (w : World) (hS : St L w v x) (ht : x.os[t]? = some 1) :
    Calls Tryz.prog 33 #[.pointer (some ⟨L.t, 0, none⟩), .int .i64 1, .int .i64 t] w fun e w' => e = .returned (.int .i64 0) ∧ St L w' v (x.gave t) ∧ Only L.S w w' := by
  have hl : t < x.os.length := (List.getElem?_eq_some_iff.1 ht).1
  have e1 : Fr.mvP t 1 0 x.os = (0, x.os.set t 0) := by
    unfold Fr.mvP
    rw [if_neg (by rintro (h | h | h | h) <;> first | omega | (revert h; decide) | exact h.1 rfl), if_neg (by simp [ht])]
    simp
  refine (Fr.give_any L.t L.tF 1 t x.os w hS.tab).mono ?_
  rw [e1]
  rintro e w' ⟨rfl, hT, hO⟩
  exact ⟨rfl, hS.withTab hT hO, hO.mono (by simp [Loc.S])⟩
set_option maxRecDepth 100000 in
theorem replace_any (i t : Nat) (pg : Pgs) (V W X B : Bool) (f y : Int) (w : World) (hS : St L w v x) (hR : Rep L.n x A) (hi : i < 64) (hA : A i = .tab t pg) (hl : x.log.length ≤ 900) (hy : encN V W X B f = y) :
    Calls Tryz.prog 71 #[.pointer (some ⟨L.s, 0, none⟩), .int .i64 i, .agg #[.bool V, .bool W, .bool X, .bool B, .int .i64 f]] w (Fin L v w (.tuple #[]) ((x.chg L.n L.vm (256 * x.root + 4 * i) y).gave t)) := by
  obtain ⟨htn, hto, _, _⟩ := hR.tabAt hi hA
  have hf := hR.few
  have hrt := hR.rt
  have HE := Lib.hid (show entOf (A i).W = ⟨true, false, false, false, t⟩ by rw [hA]; exact entOf_lw _ _ _ (by omega) (by omega))
  have HO := Lib.hid (show (x.chg L.n L.vm (256 * x.root + 4 * i) y).os[t]? = some 1 by rw [Pl.chg_os]; exact hto)
  have HY := Lib.hid hy
  have HR := Lib.hid hR
  have S1 := Lib.hid (hS.alloc (.cells #[.bool V, .bool W, .bool X, .bool B, .int .i64 f] 62))
  have O1 := Lib.hid (Only.alloc L.S w (.cells #[.bool V, .bool W, .bool X, .bool B, .int .i64 f] 62))
  have H1 := Lib.hid (five_new w V W X B f 62)
  have ff := fieldF
  clear hS hR hA hto hy
  go_enter Tryz.func71, Tryz.ntmps71
  go_wp2_with fail
  generalize w.alloc (.cells #[.bool V, .bool W, .bool X, .bool B, .int .i64 f] 62) = u at *
  refine (first_rep i u S1.out HR.out hi _ _ _ _ _ HE.out).mono ?_
  rintro e w1 ⟨rfl, b1⟩
  have S2 := Lib.hid ((S1.out.below b1).drewN 1)
  have O2 := Lib.hid ((O1.out.trans (Only.of b1 L.S)).trans (Only.drewN L.S w1 1))
  have H2 := Lib.hid ((H1.out.kept' b1).kept' (drewB (Below.refl w1.heap.size w1) 1))
  change Hid (St L w1.drew v _) at S2
  change Hid (Only L.S w w1.drew) at O2
  change Hid (Five w1.drew _ _ _ _ _ _) at H2
  clear S1 O1 H1 b1
  go_wp2_with fail
  refine wp_region_still_tail 8 (by kernel_rfl) (by kernel_rfl) ?_
  simp only [List.take_succ_cons, List.take_zero, List.drop_succ_cons, List.drop_zero]
  change wpStill _ _ w1.drew (fun a' => wpList _ _ _ _ a' w1.drew) _ _
  generalize w1.drew = u1 at *
  have c4 := S2.out.c4
  obtain ⟨x0, x1, x2, x3, x4⟩ := H2.out
  iterate 6 still_step
  still_call (slot_still x.root i _ (by omega) hi)
  repeat still_step
  refine wpStill_nil ?_
  clear c4 x0 x1 x2 x3 x4 H2
  go_wp2_with fail
  refine (change_at x.root i _ V W X B f y u1 rfl S2.out hrt hi hl HY.out).mono ?_
  rintro e w3 ⟨rfl, v3, hS, hP⟩
  have S3 := Lib.hid hS
  have P3 := Lib.hid ((Hop.of O2.out v).trans hP)
  have c1 := hS.c1
  clear S2 O2 hS hP
  go_wp2_with fail
  refine (give_1 t w3 S3.out HO.out).mono ?_
  rintro e w4 ⟨rfl, hS, hO⟩
  have F4 := Lib.hid (And.intro hS (P3.out.trans (Hop.of hO v3)))
  clear S3 P3 hS hO c1
  go_wp2
  go_end0
  exact ⟨rfl, v3, F4.out.1, F4.out.2⟩
/-- Does a table tell nothing, as far as k goes? -/
def noPg (pg : Pgs) (k : Nat) : Prop := ∀ j, j < k → pg j = none
theorem pgW_ne {n : Nat} {o : Option (Bool × Bool × Nat)} (h : o ≠ none) : pgW o ≠ 0 := by
  have _ := n
  cases o with
  | none => exact absurd rfl h
  | some q =>
    obtain ⟨w, e, F⟩ := q
    intro h0
    have := (lw_dec true w e false F).1
    rw [show lw true w e false F = pgW (some (w, e, F)) from rfl, h0] at this
    cases this
set_option maxRecDepth 100000 in
theorem clearUp_yes (i t : Nat) (pg : Pgs) (w : World) (hS : St L w v x) (hR : Rep L.n x A) (hi : i < 64) (hA : A i = .tab t pg) (hl : x.log.length ≤ 900) (hn : noPg pg 64) :
    Calls Tryz.prog 64 #[.pointer (some ⟨L.s, 0, none⟩), .int .i64 i] w (Fin L v w (.tuple #[]) ((x.chg L.n L.vm (256 * x.root + 4 * i) 0).gave t)) := by
  obtain ⟨htn, hto, _, hw⟩ := hR.tabAt hi hA
  have hf := hR.few
  have hrt := hR.rt
  have HE := Lib.hid (show entOf (A i).W = ⟨true, false, false, false, t⟩ by rw [hA]; exact entOf_lw _ _ _ (by omega) (by omega))
  have HW := Lib.hid (show ∀ j, j < 64 → wd L.n x.z t j = 0 from fun j hj => by rw [(hw j hj).1, hn j hj]; rfl)
  have HA := Lib.hid hA
  have HR := Lib.hid hR
  have HS := Lib.hid hS
  have ff := fieldF
  clear hS hR hA hto hw hn
  go_enter Tryz.func64, Tryz.ntmps64
  go_wp2_with fail
  refine (first_rep i w HS.out HR.out hi _ _ _ _ _ HE.out).mono ?_
  rintro e w1 ⟨rfl, b1⟩
  have S1 := Lib.hid (HS.out.below b1)
  have O1 := Lib.hid (Only.of b1 L.S)
  clear HS b1
  go_wp2_with fail
  go_loopw [12] (fun c wr => ∃ k : Nat, c = .int .i64 k ∧ k ≤ 64 ∧ St L wr v x ∧ Only L.S w wr) (fun c _ => 64 - (intOf c).toNat)
  case atStart => exact ⟨0, rfl, Nat.zero_le _, S1.out, O1.out⟩
  case round =>
    obtain ⟨k, rfl, hk, hS, hO⟩ := hrel
    have S2 := Lib.hid hS
    have O2 := Lib.hid hO
    clear S1 O1 hS hO
    by_cases hlt : k < 64
    · have c0 := S2.out.c0
      go_wp2_with fail
      go_quiet (first | (go_at_call 59; exact Calls.quiet_of_same (slot_still t k _ (by omega) hlt)) | (go_at_call 49; exact Calls.quiet_of (word_wd t k _ 0 _ (S2.out.drewN _) rfl htn hlt (HW.out k hlt))))
      clear c0
      go_wp2
      go_roundw
      case rel => exact ⟨k + 1, by go_num, by omega, S2.out.drewN _, O2.out.trans (Only.drewN L.S _ _)⟩
      case measure => simp [intOf]; omega
    · go_wp2_with fail
      refine (replace_any i t pg false false false false 0 0 wr S2.out HR.out hi HA.out hl encN_0).mono ?_
      rintro e w3 ⟨rfl, v3, hS, hP⟩
      have F4 := Lib.hid (And.intro hS ((Hop.of O2.out v).trans hP))
      clear S2 O2 hS hP
      go_wp2
      go_end0
      exact ⟨rfl, v3, F4.out.1, F4.out.2⟩
set_option maxRecDepth 100000 in
theorem clearUp_no (i t j0 : Nat) (pg : Pgs) (w : World) (hS : St L w v x) (hR : Rep L.n x A) (hi : i < 64) (hA : A i = .tab t pg) (hj : j0 < 64) (hn : pg j0 ≠ none) :
    Calls Tryz.prog 64 #[.pointer (some ⟨L.s, 0, none⟩), .int .i64 i] w fun e w' => e = .returned (.tuple #[]) ∧ St L w' v x ∧ Only L.S w w' := by
  obtain ⟨htn, hto, _, hw⟩ := hR.tabAt hi hA
  have hf := hR.few
  have hrt := hR.rt
  have HE := Lib.hid (show entOf (A i).W = ⟨true, false, false, false, t⟩ by rw [hA]; exact entOf_lw _ _ _ (by omega) (by omega))
  have HW := Lib.hid (show ∀ j, j < 64 → wd L.n x.z t j = pgW (pg j) from fun j hj => (hw j hj).1)
  have HN := Lib.hid hn
  have HR := Lib.hid hR
  have HS := Lib.hid hS
  have ff := fieldF
  clear hS hR hA hto hw hn
  go_enter Tryz.func64, Tryz.ntmps64
  go_wp2_with fail
  refine (first_rep i w HS.out HR.out hi _ _ _ _ _ HE.out).mono ?_
  rintro e w1 ⟨rfl, b1⟩
  have S1 := Lib.hid (HS.out.below b1)
  have O1 := Lib.hid (Only.of b1 L.S)
  clear HS b1
  go_wp2_with fail
  go_loopw [12] (fun c wr => ∃ k : Nat, c = .int .i64 k ∧ k ≤ j0 ∧ St L wr v x ∧ Only L.S w wr) (fun c _ => 64 - (intOf c).toNat)
  case atStart => exact ⟨0, rfl, Nat.zero_le _, S1.out, O1.out⟩
  case round =>
    obtain ⟨k, rfl, hk, hS, hO⟩ := hrel
    have S2 := Lib.hid hS
    have O2 := Lib.hid hO
    clear S1 O1 hS hO
    have hlt : k < 64 := by omega
    have c0 := S2.out.c0
    obtain ⟨q, hq⟩ : ∃ q, wd L.n x.z t k = q := ⟨_, rfl⟩
    by_cases h0 : q = 0
    · have hne : k ≠ j0 := by
        rintro rfl
        rw [HW.out k hlt, h0] at hq
        exact pgW_ne (n := 0) HN.out hq
      subst h0
      go_wp2_with fail
      go_quiet (first | (go_at_call 59; exact Calls.quiet_of_same (slot_still t k _ (by omega) hlt)) | (go_at_call 49; exact Calls.quiet_of (word_wd t k _ 0 _ (S2.out.drewN _) rfl htn hlt hq)))
      clear c0
      go_wp2
      go_roundw
      case rel => exact ⟨k + 1, by go_num, by omega, S2.out.drewN _, O2.out.trans (Only.drewN L.S _ _)⟩
      case measure => simp [intOf]; omega
    · have d0 : (q != 0) = true := by simpa using h0
      go_wp2_with fail
      go_quiet (first | (go_at_call 59; exact Calls.quiet_of_same (slot_still t k _ (by omega) hlt)) | (go_at_call 49; exact Calls.quiet_of (word_wd t k _ q _ (S2.out.drewN _) rfl htn hlt hq)))
      clear c0
      go_wp2
      refine bodyPost_ret (v := .tuple #[]) (by simp [results, Tryz.results64, go_sem]) rfl ⟨rfl, S2.out.drewN _, O2.out.trans (Only.drewN L.S _ _)⟩
end St
end Go.Proofs.YtiiggmfindfkfaaGreat
