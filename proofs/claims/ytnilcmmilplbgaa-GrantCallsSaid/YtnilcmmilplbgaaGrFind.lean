/-
  What grant's isGuest, slices.IndexFunc and find answer, whatever closure tells what fits. Conditions: that the grants lie there, and the closure writes nothing that lay.
-/
import Derived.Test.YtnilcmmilplbgaaGrRow
import Derived.Deep.LoopGhost
import Derived.WalkMore
namespace Go.Proofs.Ytnilcmmilplbgaa
open Go.RowKit
namespace Gr
open Ph (Only)
theorem guest_any (n : Int) (w : World) :
    Calls Try.prog 29 #[.int .i64 n] w fun e w' => e = .returned (.bool (gst n)) ∧ w = w' := by
  by_cases h : 2 ≤ n
  · have d : decide (2 ≤ n) = true := decide_eq_true h
    have e : gst n = decide (n ≤ 9) := by unfold gst; rw [d]; simp
    rw [e]
    clear e
    go_enter Try.func29, Try.ntmps29
    go_wp2
    go_ret
    exact ⟨rfl, rfl⟩
  · have d : decide (2 ≤ n) = false := decide_eq_false h
    have e : gst n = false := by unfold gst; rw [d]; simp
    rw [e]
    clear e
    go_enter Try.func29, Try.ntmps29
    go_wp2
    go_ret
    exact ⟨rfl, rfl⟩
/-- The number that is found, or -1. -/
def lsI (o : Option Nat) : Int := match o with
  | none => -1
  | some i => (i : Int)
set_option maxRecDepth 100000 in
theorem index_any (K : Nat) (caps : Array Value) (P : GtT → Bool) (b : Nat) (g : Nat → GtT) (w : World) (hR : Row6 w b g) (hK : ∀ (args : Array Value) (w : World), (callFunc K args).run Try.prog w = .ok (.enter K args) w)
    (hC : ∀ (u : World) (x : GtT), Only [] w u → Calls Try.prog K (#[gV x] ++ caps) u fun e w' => e = .returned (.bool (P x)) ∧ Only [] u w') :
    Calls Try.prog 38 #[.slice (some ⟨b, 0, none⟩) 32 32, .func (.func K) #[] caps] w fun e w' => e = .returned (.int .i64 (lsI (lst P g 32))) ∧ Only [] w w' := by
  have HR := Lib.hid hR
  have HC := Lib.hid hC
  clear hR hC
  go_enter Try.func38, Try.ntmps38
  go_wp2_with fail
  go_loopw [8] (fun c wr => ∃ i : Nat, c = .int .i64 i ∧ i ≤ 32 ∧ (∀ j, j < i → P (g j) = false) ∧ Only [] w wr) (fun c _ => 32 - (intOf c).toNat)
  case atStart => exact ⟨0, rfl, Nat.zero_le _, fun j hj => absurd hj (by omega), Only.refl _ _⟩
  case round =>
    obtain ⟨i, rfl, hi, hno, hO⟩ := hrel
    have HNO := Lib.hid hno
    have HO := Lib.hid hO
    clear hno hO
    by_cases hil : i < 32
    · have HW := Lib.hid (HR.out.kept HO.out (by simp))
      have k0 := HW.out.c0 hil
      have k1 := HW.out.c1 hil
      have k2 := HW.out.c2 hil
      have k3 := HW.out.c3 hil
      have k4 := HW.out.c4 hil
      have k5 := HW.out.c5 hil
      go_wp2_with fail
      refine (HC.out wr (g i) HO.out).mono ?_
      rintro e w2 ⟨rfl, hO2⟩
      have O2 := Lib.hid (HO.out.trans hO2)
      clear hO2 HW k0 k1 k2 k3 k4 k5
      cases hp : P (g i) with
      | true =>
        go_wp2_with fail
        go_ret
        rw [lst_at hil hp HNO.out]
        exact ⟨rfl, O2.out⟩
      | false =>
        have HP := Lib.hid hp
        clear hp
        go_wp2_with fail
        go_roundw
        case rel =>
          refine ⟨i + 1, rfl, by omega, fun j hj => ?_, O2.out⟩
          by_cases e : j = i
          · subst e; exact HP.out
          · exact HNO.out j (by omega)
        case measure => simp only [intOf, Int.toNat_natCast]; omega
    · obtain rfl : i = 32 := by omega
      go_wp2_with fail
      go_ret
      rw [lst_no HNO.out]
      exact ⟨rfl, HO.out⟩
theorem find_any (K : Nat) (caps : Array Value) (P : GtT → Bool) (b : Nat) (g : Nat → GtT) (w : World) (hR : Row6 w b g) (hK : ∀ (args : Array Value) (w : World), (callFunc K args).run Try.prog w = .ok (.enter K args) w)
    (hC : ∀ (u : World) (x : GtT), Only [] w u → Calls Try.prog K (#[gV x] ++ caps) u fun e w' => e = .returned (.bool (P x)) ∧ Only [] u w') :
    Calls Try.prog 26 #[.pointer (some ⟨b, 0, none⟩), .func (.func K) #[] caps] w fun e w' => e = .returned (.int .i64 (lsI (lst P g 32))) ∧ Only [] w w' := by
  have I1 := Lib.hid (index_any K caps P b g w hR hK hC)
  have hlt := hR.lt
  clear hR hK hC
  go_enter Try.func26, Try.ntmps26
  go_wp2_with fail
  refine I1.out.mono ?_
  rintro e w1 ⟨rfl, hO⟩
  go_wp2
  go_ret
  exact ⟨rfl, hO⟩
/-- A box: one value in a block of its own. -/
structure Bx1 (w : World) (b : Nat) (v : Value) : Prop where
  lt : b < w.heap.size
  c : w.cell? ⟨b, 0, none⟩ = some v
theorem Bx1.kept {w w' : World} {b : Nat} {v : Value} {S : List Nat} (h : Bx1 w b v) (ho : Only S w w') (hb : b ∉ S) : Bx1 w' b v := ⟨Nat.lt_of_lt_of_le h.lt ho.size, (ho.cell h.lt hb 0).trans h.c⟩
theorem Bx1.new (w : World) (v : Value) (t : TypeId) : Bx1 (w.alloc (.cells #[v] t)) w.heap.size v := ⟨by simp, by rw [World.cell?_alloc_new]; rfl⟩
theorem may1_any (x : GtT) (t f : Int) (v : Bool) (b0 b1 b2 : Nat) (u : World) (h0 : Bx1 u b0 (.int .i64 t)) (h1 : Bx1 u b1 (.int .i64 f)) (h2 : Bx1 u b2 (.bool v)) :
    Calls Try.prog 27 (#[gV x] ++ #[.pointer (some ⟨b0, 0, none⟩), .pointer (some ⟨b1, 0, none⟩), .pointer (some ⟨b2, 0, none⟩)]) u fun e w' => e = .returned (.bool ((isMay t f v) x)) ∧ Only [] u w' := by
  have l0 := h0.lt
  have k0 := h0.c
  have l1 := h1.lt
  have k1 := h1.c
  have l2 := h2.lt
  have k2 := h2.c
  clear h0 h1 h2
  obtain ⟨xs, xo, xf, xt, xp, xw⟩ := x
  obtain ⟨q, hq⟩ : ∃ q, q = (isMay t f v) (xs, xo, xf, xt, xp, xw) := ⟨_, rfl⟩
  rw [← hq]
  have ho := Only.alloc [] u (.cells #[.int .i64 xs, .int .i64 xo, .int .i64 xf, .int .i64 xt, .int .i64 xp, .bool xw] 37)
  cases d0 : (xs == 2) with
  | false =>
    obtain rfl : q = false := by rw [hq]; simp [isMay, d0]
    clear hq
    go_enter Try.func27, Try.ntmps27
    go_wp2
    go_ret
    exact ⟨rfl, ho⟩
  | true =>
    cases d1 : (xt == t) with
    | false =>
      obtain rfl : q = false := by rw [hq]; simp [isMay, d0, d1]
      clear hq
      go_enter Try.func27, Try.ntmps27
      go_wp2
      go_ret
      exact ⟨rfl, ho⟩
    | true =>
      cases d2 : (xf == f) with
      | false =>
        obtain rfl : q = false := by rw [hq]; simp [isMay, d0, d1, d2]
        clear hq
        go_enter Try.func27, Try.ntmps27
        go_wp2
        go_ret
        exact ⟨rfl, ho⟩
      | true =>
        cases xw with
        | true =>
          obtain rfl : q = true := by rw [hq]; simp [isMay, d0, d1, d2]
          clear hq
          go_enter Try.func27, Try.ntmps27
          go_wp2
          go_ret
          exact ⟨rfl, ho⟩
        | false =>
          cases v with
          | false =>
            obtain rfl : q = true := by rw [hq]; simp [isMay, d0, d1, d2]
            clear hq
            go_enter Try.func27, Try.ntmps27
            go_wp2
            go_ret
            exact ⟨rfl, ho⟩
          | true =>
            obtain rfl : q = false := by rw [hq]; simp [isMay, d0, d1, d2]
            clear hq
            go_enter Try.func27, Try.ntmps27
            go_wp2
            go_ret
            exact ⟨rfl, ho⟩
theorem at1_any (x : GtT) (t p : Int) (b0 b1 : Nat) (u : World) (h0 : Bx1 u b0 (.int .i64 t)) (h1 : Bx1 u b1 (.int .i64 p)) :
    Calls Try.prog 28 (#[gV x] ++ #[.pointer (some ⟨b0, 0, none⟩), .pointer (some ⟨b1, 0, none⟩)]) u fun e w' => e = .returned (.bool ((isAt t p) x)) ∧ Only [] u w' := by
  have l0 := h0.lt
  have k0 := h0.c
  have l1 := h1.lt
  have k1 := h1.c
  clear h0 h1
  obtain ⟨xs, xo, xf, xt, xp, xw⟩ := x
  obtain ⟨q, hq⟩ : ∃ q, q = (isAt t p) (xs, xo, xf, xt, xp, xw) := ⟨_, rfl⟩
  rw [← hq]
  have ho := Only.alloc [] u (.cells #[.int .i64 xs, .int .i64 xo, .int .i64 xf, .int .i64 xt, .int .i64 xp, .bool xw] 37)
  cases d0 : (xs == 2) with
  | false =>
    obtain rfl : q = false := by rw [hq]; simp [isAt, d0]
    clear hq
    go_enter Try.func28, Try.ntmps28
    go_wp2
    go_ret
    exact ⟨rfl, ho⟩
  | true =>
    cases d1 : (xt == t) with
    | false =>
      obtain rfl : q = false := by rw [hq]; simp [isAt, d0, d1]
      clear hq
      go_enter Try.func28, Try.ntmps28
      go_wp2
      go_ret
      exact ⟨rfl, ho⟩
    | true =>
      cases d2 : (xp == p) with
      | false =>
        obtain rfl : q = false := by rw [hq]; simp [isAt, d0, d1, d2]
        clear hq
        go_enter Try.func28, Try.ntmps28
        go_wp2
        go_ret
        exact ⟨rfl, ho⟩
      | true =>
        obtain rfl : q = true := by rw [hq]; simp [isAt, d0, d1, d2]
        clear hq
        go_enter Try.func28, Try.ntmps28
        go_wp2
        go_ret
        exact ⟨rfl, ho⟩
theorem off1_any (x : GtT) (o f t : Int) (b0 b1 b2 : Nat) (u : World) (h0 : Bx1 u b0 (.int .i64 o)) (h1 : Bx1 u b1 (.int .i64 f)) (h2 : Bx1 u b2 (.int .i64 t)) :
    Calls Try.prog 30 (#[gV x] ++ #[.pointer (some ⟨b0, 0, none⟩), .pointer (some ⟨b1, 0, none⟩), .pointer (some ⟨b2, 0, none⟩)]) u fun e w' => e = .returned (.bool ((isSame o f t) x)) ∧ Only [] u w' := by
  have l0 := h0.lt
  have k0 := h0.c
  have l1 := h1.lt
  have k1 := h1.c
  have l2 := h2.lt
  have k2 := h2.c
  clear h0 h1 h2
  obtain ⟨xs, xo, xf, xt, xp, xw⟩ := x
  obtain ⟨q, hq⟩ : ∃ q, q = (isSame o f t) (xs, xo, xf, xt, xp, xw) := ⟨_, rfl⟩
  rw [← hq]
  have ho := Only.alloc [] u (.cells #[.int .i64 xs, .int .i64 xo, .int .i64 xf, .int .i64 xt, .int .i64 xp, .bool xw] 37)
  cases d0 : (xs != 0) with
  | false =>
    obtain rfl : q = false := by rw [hq]; simp [isSame, d0]
    clear hq
    go_enter Try.func30, Try.ntmps30
    go_wp2
    go_ret
    exact ⟨rfl, ho⟩
  | true =>
    cases d1 : (xo == o) with
    | false =>
      obtain rfl : q = false := by rw [hq]; simp [isSame, d0, d1]
      clear hq
      go_enter Try.func30, Try.ntmps30
      go_wp2
      go_ret
      exact ⟨rfl, ho⟩
    | true =>
      cases d2 : (xf == f) with
      | false =>
        obtain rfl : q = false := by rw [hq]; simp [isSame, d0, d1, d2]
        clear hq
        go_enter Try.func30, Try.ntmps30
        go_wp2
        go_ret
        exact ⟨rfl, ho⟩
      | true =>
        cases d3 : (xt == t) with
        | false =>
          obtain rfl : q = false := by rw [hq]; simp [isSame, d0, d1, d2, d3]
          clear hq
          go_enter Try.func30, Try.ntmps30
          go_wp2
          go_ret
          exact ⟨rfl, ho⟩
        | true =>
          obtain rfl : q = true := by rw [hq]; simp [isSame, d0, d1, d2, d3]
          clear hq
          go_enter Try.func30, Try.ntmps30
          go_wp2
          go_ret
          exact ⟨rfl, ho⟩
theorem off2_any (x : GtT)  (u : World) :
    Calls Try.prog 31 (#[gV x] ++ #[]) u fun e w' => e = .returned (.bool (isFree x)) ∧ Only [] u w' := by
  obtain ⟨xs, xo, xf, xt, xp, xw⟩ := x
  obtain ⟨q, hq⟩ : ∃ q, q = isFree (xs, xo, xf, xt, xp, xw) := ⟨_, rfl⟩
  rw [← hq]
  have ho := Only.alloc [] u (.cells #[.int .i64 xs, .int .i64 xo, .int .i64 xf, .int .i64 xt, .int .i64 xp, .bool xw] 37)
  cases d0 : (xs == 0) with
  | false =>
    obtain rfl : q = false := by rw [hq]; simp [isFree, d0]
    clear hq
    go_enter Try.func31, Try.ntmps31
    go_wp2
    go_ret
    exact ⟨rfl, ho⟩
  | true =>
    obtain rfl : q = true := by rw [hq]; simp [isFree, d0]
    clear hq
    go_enter Try.func31, Try.ntmps31
    go_wp2
    go_ret
    exact ⟨rfl, ho⟩
theorem gone1_any (x : GtT) (t : Int) (b0 : Nat) (u : World) (h0 : Bx1 u b0 (.int .i64 t)) :
    Calls Try.prog 35 (#[gV x] ++ #[.pointer (some ⟨b0, 0, none⟩)]) u fun e w' => e = .returned (.bool ((isOf t) x)) ∧ Only [] u w' := by
  have l0 := h0.lt
  have k0 := h0.c
  clear h0
  obtain ⟨xs, xo, xf, xt, xp, xw⟩ := x
  obtain ⟨q, hq⟩ : ∃ q, q = (isOf t) (xs, xo, xf, xt, xp, xw) := ⟨_, rfl⟩
  rw [← hq]
  have ho := Only.alloc [] u (.cells #[.int .i64 xs, .int .i64 xo, .int .i64 xf, .int .i64 xt, .int .i64 xp, .bool xw] 37)
  cases d0 : (xs != 0) with
  | false =>
    obtain rfl : q = false := by rw [hq]; simp [isOf, d0]
    clear hq
    go_enter Try.func35, Try.ntmps35
    go_wp2
    go_ret
    exact ⟨rfl, ho⟩
  | true =>
    cases d10 : (xo == t) with
    | true =>
      obtain rfl : q = true := by rw [hq]; simp [isOf, d0, d10]
      clear hq
      go_enter Try.func35, Try.ntmps35
      go_wp2
      go_ret
      exact ⟨rfl, ho⟩
    | false =>
      cases d11 : (xt == t) with
      | true =>
        obtain rfl : q = true := by rw [hq]; simp [isOf, d0, d10, d11]
        clear hq
        go_enter Try.func35, Try.ntmps35
        go_wp2
        go_ret
        exact ⟨rfl, ho⟩
      | false =>
        obtain rfl : q = false := by rw [hq]; simp [isOf, d0, d10, d11]
        clear hq
        go_enter Try.func35, Try.ntmps35
        go_wp2
        go_ret
        exact ⟨rfl, ho⟩
end Gr
end Go.Proofs.Ytnilcmmilplbgaa
