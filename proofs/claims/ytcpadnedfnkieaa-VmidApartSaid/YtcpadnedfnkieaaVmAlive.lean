/-
  What the laws' SameInts and alive answer. Conditions: that rows of numbers lie there; none for alive.
-/
import Derived.Test.YtcpadnedfnkieaaVmRef
import Derived.Deep.LoopGhost
import Derived.WalkMore
namespace Go.Proofs.Ytcpadnedfnkieaa
open Go.RowKit
namespace Vm
open Ph (Only)
theorem eq_upto {l m : List Nat} (hl : l.length = m.length) (h : ∀ i, i < l.length → l[i]? = m[i]?) : l = m := by
  refine List.ext_getElem? fun i => ?_
  by_cases hi : i < l.length
  · exact h i hi
  · rw [List.getElem?_eq_none (by omega), List.getElem?_eq_none (by omega)]
set_option maxRecDepth 100000 in
theorem same_any (B C : Nat) (va vb : Value) (l m : List Nat) (w : World) (hl : l.length ≤ 1024) (_ : m.length ≤ 1024) (ha : Seen B w va l) (hb : Seen C w vb m) :
    Calls Try.prog 17 #[va, vb] w fun e w' => e = .returned (.bool (decide (l = m))) ∧ Below w.heap.size w w' := by
  obtain ⟨ans, hans⟩ : ∃ ans, ans = decide (l = m) := ⟨_, rfl⟩
  rw [← hans]
  have HN := Lib.hid hans
  clear hans
  have HA := Lib.hid ha
  have HB := Lib.hid hb
  obtain ⟨aa, ca, rfl⟩ := ha.form
  obtain ⟨ab, cb, rfl⟩ := hb.form
  clear ha hb
  by_cases hlm : l.length = m.length
  · go_enter Try.func17, Try.ntmps17
    have d : ((l.length : Int) != (m.length : Int)) = false := by simp; omega
    have HLM := Lib.hid hlm
    clear hlm
    go_wp2_with fail
    go_loopw [5] (fun c wr => ∃ i : Nat, c = .int .i64 i ∧ i ≤ l.length ∧ (∀ j, j < i → l[j]? = m[j]?) ∧ Below w.heap.size w wr) (fun c _ => l.length - (intOf c).toNat)
    case atStart => exact ⟨0, rfl, Nat.zero_le _, fun j hj => absurd hj (by omega), Below.refl _ _⟩
    case round =>
      obtain ⟨i, rfl, hi, hE, hBw⟩ := hrel
      have HE := Lib.hid hE
      have HW := Lib.hid hBw
      clear hE hBw
      by_cases hil : i < l.length
      · have him : i < m.length := by have := HLM.out; omega
        obtain ⟨x, hx⟩ : ∃ x, l[i]? = some x := ⟨l[i], List.getElem?_eq_getElem hil⟩
        obtain ⟨y, hy⟩ : ∃ y, m[i]? = some y := ⟨m[i], List.getElem?_eq_getElem him⟩
        obtain ⟨ba, cap, hv, hblt, hc⟩ := (HA.out.kept (Only.of HW.out []) (by simp)).at hx
        obtain ⟨bb, cap', hv', hblt', hc'⟩ := (HB.out.kept (Only.of HW.out []) (by simp)).at hy
        injection hv with hv1 _ hv2
        injection hv' with hv1' _ hv2'
        subst hv1 hv2 hv1' hv2'
        have HX := Lib.hid hx
        have HY := Lib.hid hy
        clear hx hy d
        by_cases hxy : x = y
        · subst hxy
          go_wp2_with fail
          go_region
          go_wp2_with fail
          go_roundw
          case rel =>
            have st : ∀ j, j < i + 1 → l[j]? = m[j]? := fun j hj => by
              by_cases e : j = i
              · subst e; rw [HX.out, HY.out]
              · exact HE.out j (by omega)
            have hbd := HW.out.drew
            generalize wr.drewN 1 = wq at *
            first | exact ⟨i + 1, rfl, by omega, st, hbd⟩ | ((repeat apply Exists.intro); exact ⟨⟨i + 1, rfl, by omega, st, hbd⟩, rfl⟩)
          case measure => simp only [intOf, Int.toNat_natCast]; omega
        · have dx : ((x : Int) == (y : Int)) = false := by simp; omega
          have hxy' : ¬ (x : Int) = (y : Int) := by omega
          have e : decide (l = m) = false := decide_eq_false (fun e => by
            have := HX.out
            rw [e, HY.out] at this
            injection this with this
            exact hxy this.symm)
          obtain rfl : ans = false := HN.out.trans e
          clear e
          go_wp2_with fail
          go_region
          go_wp2_with fail
          go_ret
          exact ⟨rfl, HW.out.drew⟩
      · obtain rfl : i = l.length := by omega
        have e : decide (l = m) = true := decide_eq_true (eq_upto HLM.out HE.out)
        obtain rfl : ans = true := HN.out.trans e
        clear e
        go_wp2_with fail
        go_ret
        exact ⟨rfl, HW.out⟩
  · have d : ((l.length : Int) == (m.length : Int)) = false := by simp; omega
    have e : decide (l = m) = false := decide_eq_false (fun e => hlm (by rw [e]))
    obtain rfl : ans = false := HN.out.trans e
    clear e
    go_enter Try.func17, Try.ntmps17
    go_wp2_with fail
    go_ret
    exact ⟨rfl, Below.refl _ _⟩
def s0 : Nat → Int := fun _ => 0
def s1 : Nat → Int := upd s0 0 1
def s2 : Nat → Int := upd s1 0 2
def s3 : Nat → Int := drN s2 1
def s4 : Nat → Int := upd s3 0 1
theorem t1 : tkP s0 1 = (1, 0, s1) := by kernel_rfl
theorem t2 : tkP s1 1 = (0, 15, s1) := by kernel_rfl
theorem t3 : gvP s1 1 1 = (0, s2) := by kernel_rfl
theorem t4 : tkP s2 1 = (0, 17, s2) := by kernel_rfl
theorem t5 : drP s2 1 = (1, s3) := by kernel_rfl
theorem t6 : tkP s3 1 = (1, 0, s4) := by kernel_rfl
theorem t7 : stP s4 1 1 = 1 := by kernel_rfl
theorem t8 : stP s4 1 2 = -1 := by kernel_rfl
theorem t9 : tnL s4 1 = [1] := by kernel_rfl
theorem is3_s1 : Is3 s1 1 := fun j hj => by
  obtain rfl : j = 0 := by omega
  exact Or.inr (Or.inl rfl)
theorem one_seen (w : World) (z : Nat) : Seen w.heap.size (w.alloc (.cells #[.int .i64 (z : Int)] 3)) (.slice (some ⟨w.heap.size, 0, none⟩) 1 1) [z] :=
  ⟨_, 1, rfl, by simp, fun _ => ⟨w.heap.size, rfl, Nat.le_refl _, by simp, fun i x hx => by
    have hi := (List.getElem?_eq_some_iff.1 hx).1
    obtain rfl : i = 0 := by simpa using hi
    obtain rfl : z = x := by simpa using hx
    rw [World.cell?_alloc_new]
    rfl⟩⟩
set_option maxRecDepth 100000 in
set_option maxHeartbeats 1000000 in
theorem alive_any (w : World) : Calls Try.prog 7 #[] w fun e w' => e = .returned (.bool true) ∧ Below w.heap.size w w' := by
  go_enter Try.func7, Try.ntmps7
  go_wp2_with fail
  refine (new_yes 1 _ (by omega) (by omega)).mono ?_
  rintro e v1 ⟨rfl, hT1, hO1⟩
  have hB1 : Below w.heap.size w v1 := hO1.below (B := w.heap.size) (Nat.le_refl _) (by simp)
  rw [show (fun _ => 0) = s0 from rfl] at hT1
  clear hO1
  go_wp2_with fail
  refine (take_any _ _ 1 s0 _ (by omega) hT1).mono ?_
  rintro e v2 ⟨he, hT2, hO2⟩
  rw [t1] at he hT2
  replace he : e = .returned (.tuple #[.int .i64 1, .int .i64 0]) := he
  subst he
  have hB2 : Below w.heap.size w v2 := hB1.trans (hO2.below (B := w.heap.size) hB1.size (by simp))
  clear hT1 hO2 hB1
  go_wp2_with fail
  refine (take_any _ _ 1 s1 _ (by omega) hT2).mono ?_
  rintro e v3 ⟨he, hT3, hO3⟩
  rw [t2] at he hT3
  replace he : e = .returned (.tuple #[.int .i64 0, .int .i64 15]) := he
  subst he
  have hB3 : Below w.heap.size w v3 := hB2.trans (hO3.below (B := w.heap.size) hB2.size (by simp))
  clear hT2 hO3 hB2
  go_wp2_with fail
  refine (give_any _ _ 1 s1 1 _ (by omega) is3_s1 hT3).mono ?_
  rintro e v4 ⟨he, hT4, hO4⟩
  rw [t3] at he hT4
  replace he : e = .returned (.int .i64 0) := he
  subst he
  have hB4 : Below w.heap.size w v4 := hB3.trans (hO4.below (B := w.heap.size) hB3.size (by simp))
  clear hT3 hO4 hB3
  go_wp2_with fail
  refine (take_any _ _ 1 s2 _ (by omega) hT4).mono ?_
  rintro e v5 ⟨he, hT5, hO5⟩
  rw [t4] at he hT5
  replace he : e = .returned (.tuple #[.int .i64 0, .int .i64 17]) := he
  subst he
  have hB5 : Below w.heap.size w v5 := hB4.trans (hO5.below (B := w.heap.size) hB4.size (by simp))
  clear hT4 hO5 hB4
  go_wp2_with fail
  refine (dropped_any _ _ 1 s2 _ (by omega) hT5).mono ?_
  rintro e v6 ⟨he, hT6, hO6⟩
  rw [t5] at he hT6
  replace he : e = .returned (.int .i64 1) := he
  subst he
  have hB6 : Below w.heap.size w v6 := hB5.trans (hO6.below (B := w.heap.size) hB5.size (by simp))
  clear hT5 hO6 hB5
  go_wp2_with fail
  refine (take_any _ _ 1 s3 _ (by omega) hT6).mono ?_
  rintro e v7 ⟨he, hT7, hO7⟩
  rw [t6] at he hT7
  replace he : e = .returned (.tuple #[.int .i64 1, .int .i64 0]) := he
  subst he
  have hB7 : Below w.heap.size w v7 := hB6.trans (hO7.below (B := w.heap.size) hB6.size (by simp))
  clear hT6 hO7 hB6
  go_wp2_with fail
  refine (state_any _ _ 1 s4 1 _ (by omega) hT7).mono ?_
  rintro e v8 ⟨he, rfl⟩
  rw [t7] at he
  subst he
  go_wp2_with fail
  refine (state_any _ _ 1 s4 2 _ (by omega) hT7).mono ?_
  rintro e v9 ⟨he, rfl⟩
  rw [t8] at he
  subst he
  go_wp2_with fail
  refine (taken_any _ _ 1 s4 _ (by omega) hT7).mono ?_
  rintro e v10 ⟨v, rfl, hS, hO⟩
  rw [t9] at hS
  have hB : Below w.heap.size w v10 := hB7.trans (hO.below (B := w.heap.size) hB7.size (by simp))
  have h1s := one_seen v10 1
  rw [show ((1 : Nat) : Int) = 1 from rfl] at h1s
  have HS2 := Lib.hid h1s
  clear h1s
  have HS1 := Lib.hid (hS.kept (Only.alloc [] v10 (.cells #[.int .i64 1] 3)) (by simp))
  have HBB := Lib.hid (hB.alloc hB.size (.cells #[.int .i64 1] 3))
  clear hT7 hO hB hS hB7
  go_wp2_with fail
  refine (same_any _ _ _ _ [1] [1] _ (by simp) (by simp) HS1.out HS2.out).mono ?_
  rintro e v11 ⟨he, hb⟩
  replace he : e = .returned (.bool true) := he
  subst he
  have hBe := HBB.out.trans (hb.mono HBB.out.size)
  clear hb
  go_wp2_with fail
  go_ret
  exact ⟨rfl, hBe⟩
end Vm
end Go.Proofs.Ytcpadnedfnkieaa
