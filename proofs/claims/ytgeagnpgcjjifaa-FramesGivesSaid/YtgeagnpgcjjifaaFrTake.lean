/-
  What slices.Index, and frames's freeRun, take, Take and TakeRun answer. Conditions: that a table lies there.
-/
import Derived.Test.YtgeagnpgcjjifaaFrMath
import Derived.Deep.LoopGhost
import Derived.WalkMore
namespace Go.Proofs.Ytgeagnpgcjjifaa
open Go.RowKit
namespace Fr
open Ph (Only)

/-- The first frame of the least run, or -1. -/
def spotI (n : Nat) (os : List Nat) : Int := match spot n os with
  | some k => ((n * k : Nat) : Int)
  | none => -1
theorem spotI_at {n : Nat} {os : List Nat} {k : Nat} (hn : 1 ≤ n) (h1 : isRun n os k = true) (h2 : ∀ j, j < k → isRun n os j = false) : spotI n os = ((n * k : Nat) : Int) := by
  unfold spotI
  rw [spot_at hn h1 h2]
theorem spotI_no {n : Nat} {os : List Nat} (h : ∀ j, isRun n os j = false) : spotI n os = -1 := by
  unfold spotI
  rw [spot_no h]
theorem isRun_one {os : List Nat} {k : Nat} : isRun 1 os k = true ↔ os[k]? = some 0 := by
  rw [isRun_iff]
  constructor
  · rintro ⟨_, h⟩
    simpa using h 0 (by omega)
  · intro h
    have := (List.getElem?_eq_some_iff.1 h).1
    refine ⟨by omega, fun i hi => ?_⟩
    obtain rfl : i = 0 := by omega
    simpa using h
theorem index_any (F cap : Nat) (os : List Nat) (w : World) (hR : IRow w F os) (hlen : os.length ≤ 1024) :
    Calls Try.prog 26 #[.slice (some ⟨F, 0, none⟩) os.length cap, .int .i64 0] w fun e w' => e = .returned (.int .i64 (spotI 1 os)) ∧ w = w' := by
  have HR := Lib.hid hR
  clear hR
  go_enter Try.func26, Try.ntmps26
  go_wp2_with fail
  go_loopw [8] (fun c wr => ∃ i : Nat, c = .int .i64 i ∧ i ≤ os.length ∧ (∀ j, j < i → isRun 1 os j = false) ∧ w = wr) (fun c _ => os.length - (intOf c).toNat)
  case atStart => exact ⟨0, rfl, Nat.zero_le _, fun j hj => absurd hj (by omega), rfl⟩
  case round =>
    obtain ⟨i, rfl, hi, hno, rfl⟩ := hrel
    have HNO := Lib.hid hno
    clear hno
    by_cases hil : i < os.length
    · obtain ⟨x, hx⟩ : ∃ x, os[i]? = some x := ⟨os[i], List.getElem?_eq_getElem hil⟩
      have hc := HR.out.cell i x hx
      have HX := Lib.hid hx
      clear hx
      by_cases h0 : x = 0
      · subst h0
        go_wp2_with fail
        go_ret
        refine ⟨?_, rfl⟩
        rw [spotI_at (Nat.le_refl _) (isRun_one.2 HX.out) HNO.out]
        simp
      · have hx0 : ((0 : Int) == (x : Int)) = false := by simp; omega
        go_wp2_with fail
        go_roundw
        case rel =>
          refine ⟨i + 1, rfl, by omega, fun j hj => ?_, trivial⟩
          by_cases e : j = i
          · subst e; exact isRun_no (i := 0) (by omega) (by simpa using HX.out) h0
          · exact HNO.out j (by omega)
        case measure => simp only [intOf, Int.toNat_natCast]; omega
    · obtain rfl : i = os.length := by omega
      go_wp2_with fail
      go_ret
      have e : spotI 1 os = -1 := by
        refine spotI_no fun j => ?_
        by_cases e : j < os.length
        · exact HNO.out j e
        · exact isRun_far (by omega)
      rw [e]
      exact ⟨rfl, rfl⟩
theorem freeRun_any (t F : Nat) (os : List Nat) (w : World) (hT : Tab w t F os) :
    Calls Try.prog 27 #[.pointer (some ⟨t, 0, none⟩)] w fun e w' => e = .returned (.int .i64 (spotI 64 os)) ∧ w = w' := by
  have hh := hT.tb.head
  have HR := Lib.hid hT.tb.row
  have hlen := hT.len
  clear hT
  go_enter Try.func27, Try.ntmps27
  go_wp2
  go_step3
  go_wp2
  go_step3
  go_wp2
  go_loopg [3] (os.length / 64) (fun g s3 wx => ∃ k : Nat, k + g = os.length / 64 ∧ s3 = .int .i64 ((64 * k : Nat) : Int) ∧ (∀ j, j < k → isRun 64 os j = false) ∧ w = wx)
  case atStart => exact ⟨0, by omega, rfl, fun j hj => absurd hj (by omega), rfl⟩
  case round =>
    obtain ⟨k, hkg, rfl, hno, rfl⟩ := hrel
    have HNO := Lib.hid hno
    clear hno
    obtain ⟨a, ha⟩ : ∃ a, a = 64 * k := ⟨_, rfl⟩
    rw [← ha]
    have HA := Lib.hid ha
    have ha1 : a ≤ 1024 := by omega
    cases gk with
    | zero =>
      have hz : ¬ ((a : Int) + 64 ≤ (os.length : Int)) := by omega
      clear hkg ha
      go_wp2_with fail
      go_ret
      have e : spotI 64 os = -1 := by
        refine spotI_no fun j => ?_
        by_cases e : j < k
        · exact HNO.out j e
        · have := HA.out
          exact isRun_far (by omega)
      rw [e]
      exact ⟨rfl, rfl⟩
    | succ g =>
      have hz : (a : Int) + 64 ≤ (os.length : Int) := by omega
      have hz0 : (0 : Int) ≤ (a : Int) := by omega
      have hz1 : ¬ os.length = a := by omega
      have HKG := Lib.hid hkg
      clear hkg ha
      go_wp2_with fail
      go_loopg [25] 64 (fun g2 s25 wy => ∃ j : Nat, j + g2 = 64 ∧ s25 = .int .i64 j ∧ (∀ i, i < j → os[a + i]? = some 0) ∧ w = wy)
      case atStart => exact ⟨0, by omega, rfl, fun j hj => absurd hj (by omega), rfl⟩
      case round =>
        obtain ⟨j, hjg, rfl, hzero, rfl⟩ := hrel
        have HZ := Lib.hid hzero
        clear hzero
        cases gk with
        | zero =>
          obtain rfl : j = 64 := by omega
          clear hjg
          go_wp2_with fail
          try rw [Exit.noGoto_ret]
          go_ret
          have e : spotI 64 os = (a : Int) := by
            have := HA.out
            rw [this]
            exact spotI_at (by omega) (isRun_iff.2 ⟨by omega, fun i hi => by rw [← this]; exact HZ.out i hi⟩) HNO.out
          rw [e]
          exact ⟨rfl, rfl⟩
        | succ g2 =>
          have hj64 : j < 64 := by omega
          have hjl : a + j < os.length := by omega
          obtain ⟨x, hx⟩ : ∃ x, os[a + j]? = some x := ⟨os[a + j], List.getElem?_eq_getElem hjl⟩
          have hc := HR.out.cell (a + j) x hx
          have HX := Lib.hid hx
          have HJ := Lib.hid hjg
          clear hx hjg
          by_cases h0 : x = 0
          · subst h0
            go_wp2_with fail
            go_roundg g2
            case measure => omega
            case rel =>
              have := HJ.out
              refine ⟨j + 1, by omega, by simp, fun i hi => ?_, rfl⟩
              by_cases e : i = j
              · subst e; exact HX.out
              · exact HZ.out i (by omega)
          · have hx0 : ((x : Int) == 0) = false := by simp; omega
            have hx1 : ¬ (x : Int) = 0 := by omega
            go_wp2_with fail
            go_roundg g
            case measure => omega
            case rel =>
              have h1 := HA.out
              have h2 := HKG.out
              refine ⟨k + 1, by omega, by rw [h1]; simp; omega, fun i hi => ?_, rfl⟩
              by_cases e : i = k
              · subst e; exact isRun_no (by omega) (by rw [← h1]; exact HX.out) h0
              · exact HNO.out i (by omega)
theorem inner_any (t F n : Nat) (o : Int) (os : List Nat) (w : World) (hT : Tab w t F os) (hn : 1 ≤ n) (hn64 : n ≤ 64) :
    Calls Try.prog 25 #[.pointer (some ⟨t, 0, none⟩), .int .i64 o, .int .i64 (spotI n os), .int .i64 n] w fun e w' => e = .returned (.tuple #[.int .i64 (takeP n o os).1, .int .i64 (takeP n o os).2.1]) ∧ Tab w' t F (takeP n o os).2.2 ∧ Only [t, F] w w' := by
  have HT := Lib.hid hT
  have hlen := hT.len
  clear hT
  cases htk : tk o with
  | false =>
    have e : takeP n o os = (-1, 11, os) := by unfold takeP; rw [htk]; rfl
    rw [e]
    clear e
    go_enter Try.func25, Try.ntmps25
    go_wp2_with (go_at_call 30; refine (takes_any o _).mono ?_; rintro e w1 ⟨rfl, rfl⟩; rw [htk])
    go_ret2
    exact ⟨rfl, HT.out, Only.refl _ _⟩
  | true =>
    obtain ⟨q, hq, hq1, hq9⟩ := tk_nat htk
    cases hs : spot n os with
    | none =>
      have e : takeP n o os = (-1, 15, os) := by unfold takeP; rw [htk, hs]; rfl
      have e2 : spotI n os = -1 := by unfold spotI; rw [hs]
      rw [e, e2]
      clear e e2 hq
      go_enter Try.func25, Try.ntmps25
      go_wp2_with (go_at_call 30; refine (takes_any o _).mono ?_; rintro e w1 ⟨rfl, rfl⟩; rw [htk])
      go_ret2
      exact ⟨rfl, HT.out, Only.refl _ _⟩
    | some k =>
      have e : takeP n o os = (((n * k : Nat) : Int), 0, setR os (n * k) n q) := by unfold takeP; rw [htk, hs, hq]; rfl
      have e2 : spotI n os = ((n * k : Nat) : Int) := by unfold spotI; rw [hs]
      have hr := (isRun_iff.1 (spot_inv hs).1).1
      rw [e, e2]
      clear e e2 hs
      subst hq
      obtain ⟨a, ha⟩ : ∃ a, a = n * k := ⟨_, rfl⟩
      rw [← ha] at hr ⊢
      clear ha
      have ha0 : ¬ (a : Int) < 0 := by omega
      go_enter Try.func25, Try.ntmps25
      go_wp2_with (go_at_call 30; refine (takes_any (q : Int) _).mono ?_; rintro e w1 ⟨rfl, rfl⟩; rw [htk])
      go_loopw [17] (fun c wr => ∃ i : Nat, c = .int .i64 i ∧ i ≤ n ∧ Tab wr t F (setR os a i q) ∧ Only [t, F] w wr) (fun c _ => n - (intOf c).toNat)
      case atStart => exact ⟨0, rfl, Nat.zero_le _, HT.out, Only.refl _ _⟩
      case round =>
        obtain ⟨i, rfl, hi, hTi, hOi⟩ := hrel
        have HTI := Lib.hid hTi
        have HOI := Lib.hid hOi
        clear hTi hOi
        by_cases hil : i < n
        · have hx : (setR os a i q)[a + i]? = some os[a + i] := by rw [setR_get _ _ _ _ _ (by omega), if_neg (by omega)]; exact List.getElem?_eq_getElem (by omega)
          have HX := Lib.hid hx
          clear hx
          go_wp2_with (go_at_call 29; refine (pass_any t F (a + i) _ q _ _ HTI.out HX.out hq9).mono ?_; rintro e w2 ⟨rfl, hT2, hO2⟩)
          go_roundw
          case rel => exact ⟨i + 1, rfl, by omega, hT2, HOI.out.trans hO2⟩
          case measure => simp only [intOf, Int.toNat_natCast]; omega
        · obtain rfl : i = n := by omega
          go_wp2_with fail
          go_ret2
          exact ⟨rfl, HTI.out, HOI.out⟩
theorem take_any (t F : Nat) (o : Int) (os : List Nat) (w : World) (hT : Tab w t F os) :
    Calls Try.prog 18 #[.pointer (some ⟨t, 0, none⟩), .int .i64 o] w fun e w' => e = .returned (.tuple #[.int .i64 (takeP 1 o os).1, .int .i64 (takeP 1 o os).2.1]) ∧ Tab w' t F (takeP 1 o os).2.2 ∧ Only [t, F] w w' := by
  have hh := hT.tb.head
  have HI := Lib.hid (index_any F os.length os w hT.tb.row hT.len)
  have HC := Lib.hid (inner_any t F 1 o os w hT (by omega) (by omega))
  clear hT
  generalize takeP 1 o os = tp at *
  generalize spotI 1 os = sp at *
  go_enter Try.func18, Try.ntmps18
  go_wp2_with (first | (go_at_call 26; refine HI.out.mono ?_; rintro e w1 ⟨rfl, rfl⟩) | (go_at_call 25; refine HC.out.mono ?_; rintro e w1 ⟨rfl, hT1, hO1⟩))
  go_ret2
  exact ⟨rfl, hT1, hO1⟩
theorem takeRun_any (t F : Nat) (o : Int) (os : List Nat) (w : World) (hT : Tab w t F os) :
    Calls Try.prog 19 #[.pointer (some ⟨t, 0, none⟩), .int .i64 o] w fun e w' => e = .returned (.tuple #[.int .i64 (takeP 64 o os).1, .int .i64 (takeP 64 o os).2.1]) ∧ Tab w' t F (takeP 64 o os).2.2 ∧ Only [t, F] w w' := by
  have HI := Lib.hid (freeRun_any t F os w hT)
  have HC := Lib.hid (inner_any t F 64 o os w hT (by omega) (by omega))
  clear hT
  generalize takeP 64 o os = tp at *
  generalize spotI 64 os = sp at *
  go_enter Try.func19, Try.ntmps19
  go_wp2_with (first | (go_at_call 27; refine HI.out.mono ?_; rintro e w1 ⟨rfl, rfl⟩) | (go_at_call 25; refine HC.out.mono ?_; rintro e w1 ⟨rfl, hT1, hO1⟩))
  go_ret2
  exact ⟨rfl, hT1, hO1⟩
end Fr
end Go.Proofs.Ytgeagnpgcjjifaa
