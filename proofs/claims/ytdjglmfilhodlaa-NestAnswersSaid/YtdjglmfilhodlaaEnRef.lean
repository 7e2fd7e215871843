/-
  What the document's own Encode, Decode and Allows of entries answer, at every argument; no condition but that each argument is of its Go type.
-/
import Derived.Test.YtdjglmfilhodlaaEnEq
namespace Go.Proofs.Ytdjglmfilhodlaa
open Go.RowKit Nt
namespace En
/-! ### Going over, and the document's own -/
set_option maxHeartbeats 1000000 in
theorem rdecode_any (v : Int) (w : World) (h0 : 0 ≤ v) (h1 : v < 4294967296) :
    Calls Try.prog 54 #[.int .u32 v] w fun e w' => e = .returned (.agg #[.bool (dV v), .bool (dW v), .bool (dX v), .bool (dB v), .int .i64 (dF v)]) ∧ Below w.heap.size w w' := by
  by_cases h : v % 2 = 0
  · have d : (v % 2 == 0) = true := by simpa using h
    go_enter Try.func54, Try.ntmps54
    go_wp2
    have e0 : (v % 2 == 1) = false := by simp; omega
    refine bodyPost_ret (v := .agg #[.bool false, .bool false, .bool false, .bool false, .int .i64 0]) (by simp [results, Try.results54, go_sem]) rfl ⟨?_, ?_⟩
    · unfold dV dW dX dB dF
      rw [e0, if_neg (by omega)]
      rfl
    · exact (Below.refl _ _).alloc (Nat.le_refl _) _
  · have d : (v % 2 == 0) = false := by simpa using h
    have e0 : (v % 2 == 1) = true := by simp; omega
    have r1 : 0 ≤ v / 256 % 65536 := by omega
    have r2 : v / 256 % 65536 < 65536 := by omega
    go_enter Try.func54, Try.ntmps54
    go_wp2
    refine bodyPost_ret (v := .agg #[.bool true, .bool (v / 2 % 2 == 1), .bool (v / 4 % 2 == 1), .bool (v / 8 % 2 == 1), .int .i64 (v / 256 % 65536)]) (by simp [results, Try.results54, go_sem]) rfl ⟨?_, ?_⟩
    · unfold dV dW dX dB dF
      rw [e0, if_pos (by omega)]
      rfl
    · exact (Below.refl _ _).alloc (Nat.le_refl _) _
theorem rallows_any (V W X B : Bool) (F a : Int) (w : World) :
    Calls Try.prog 34 #[.agg #[.bool V, .bool W, .bool X, .bool B, .int .i64 F], .int .i64 a] w fun e w' => e = .returned (.bool (alw V W X a)) ∧ Below w.heap.size w w' := by
  have bel := fun o => (Below.refl w.heap.size w).alloc (Nat.le_refl _) o
  cases V
  · go_enter Try.func34, Try.ntmps34
    go_wp2
    go_ret
    exact ⟨rfl, bel _⟩
  by_cases h0 : a = 0
  · subst h0
    go_enter Try.func34, Try.ntmps34
    go_wp2
    go_ret
    exact ⟨rfl, bel _⟩
  have d0 : (a == 0) = false := by simpa using h0
  by_cases h1 : a = 1
  · subst h1
    cases W
    all_goals
      go_enter Try.func34, Try.ntmps34
      go_wp2
      go_ret
      exact ⟨rfl, bel _⟩
  have d1 : (a == 1) = false := by simpa using h1
  by_cases h2 : a = 2
  · subst h2
    go_enter Try.func34, Try.ntmps34
    go_wp2
    go_ret
    exact ⟨rfl, bel _⟩
  have d2 : (a == 2) = false := by simpa using h2
  go_enter Try.func34, Try.ntmps34
  go_wp2
  go_ret
  exact ⟨by unfold alw; rw [d0, d1, d2]; rfl, bel _⟩
end En
end Go.Proofs.Ytdjglmfilhodlaa
