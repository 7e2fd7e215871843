/-
  What the laws' same answers of rows that hold the same timers. Conditions: that both lie there.
-/
import Derived.Test.YtddiapihopgpbaaWhRef5
import Derived.BigQuiet
namespace Go.Proofs.Ytddiapihopgpbaa
open Go.RowKit
namespace Wh
open Ph (Only)
set_option maxRecDepth 100000 in
set_option maxHeartbeats 4000000 in
theorem same_any (B C : Nat) (F G : List Nat) (va vb : Value) (l : List DuT) (w : World) (hl : l.length ≤ 2000) (ha : Seen B F w va l) (hb : Seen C G w vb l) :
    Calls Try.prog 14 #[va, vb] w fun e w' => e = .returned (.bool true) ∧ Only [] w w' := by
  have HA := Lib.hid ha
  have HB := Lib.hid hb
  obtain ⟨aa, ca, rfl⟩ := ha.form
  obtain ⟨ab, cb, rfl⟩ := hb.form
  clear ha hb
  have d0 : (((l.length : Nat) : Int) != ((l.length : Nat) : Int)) = false := by simp
  go_enter Try.func14, Try.ntmps14
  go_wp2_with fail
  go_loopw [5] (fun c wr => ∃ i : Nat, c = .int .i64 i ∧ i ≤ l.length ∧ Hid (Only [] w wr)) (fun c _ => l.length - (intOf c).toNat)
  case atStart => exact ⟨0, rfl, Nat.zero_le _, Lib.hid (Only.refl _ _)⟩
  case round =>
    obtain ⟨i, rfl, hi, OR⟩ := hrel
    by_cases hil : i < l.length
    · obtain ⟨x, hx⟩ : ∃ x, l[i]? = some x := ⟨l[i], List.getElem?_eq_getElem hil⟩
      obtain ⟨ba, oa, rfl, la, -, -, x0, x1⟩ := (HA.out.kept OR.out (by simp)).at hx
      obtain ⟨bb, ob, rfl, lb, -, -, y0, y1⟩ := (HB.out.kept OR.out (by simp)).at hx
      obtain ⟨xd, xt⟩ := x
      simp only at x0 x1 y0 y1
      have d1 : (((xd : Nat) : Int) != ((xd : Nat) : Int)) = false := by simp
      have d2 : (((xt : Nat) : Int) != ((xt : Nat) : Int)) = false := by simp
      clear hx
      go_upto_region 6 with fail
      go_quiet (fail)
      have OQ := Lib.hid (OR.out.trans (Only.drewN [] wr nq))
      clear OR x0 x1 y0 y1 la lb
      generalize wr.drewN nq = wq at *
      go_wp2_with fail
      go_roundw
      case rel => exact ⟨i + 1, by push_cast; rfl, by omega, OQ⟩
      case measure => simp only [intOf]; omega
    · obtain rfl : i = l.length := by omega
      go_wp2_with fail
      go_ret
      exact ⟨rfl, OR.out⟩
end Wh
end Go.Proofs.Ytddiapihopgpbaa
