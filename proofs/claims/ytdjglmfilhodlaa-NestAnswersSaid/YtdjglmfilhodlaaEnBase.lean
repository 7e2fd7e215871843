/-
  What entry's Decode, Encode, Allows, Both, Inside, First, Second, Offset, PageOf and Join answer, at every argument; no condition but that each argument is of its Go type.
-/
import Derived.Test.YtdjglmfilhodlaaEnField
import Derived.Below
import Derived.Lib.QuietBelow
import Derived.Deep.RegionHeld3
namespace Go.Proofs.Ytdjglmfilhodlaa
open Go.RowKit Nt
namespace En

/-! ### Numbers -/
/-- A word's bit. -/
def bt (v : Int) (i : Nat) : Bool := v / 2 ^ i % 2 == 1
theorem fieldW (at' n : Nat) (v : Int) (r : Int) (w : World) (h0 : 0 ≤ v) (h1 : v < 4294967296) (hn : 1 ≤ n) (hn2 : at' + n ≤ 32) (hr : r = ((v.toNat / 2 ^ at' % 2 ^ n : Nat) : Int)) :
    Calls Try.prog 57 #[.int .u32 v, .int .i64 at', .int .i64 n] w fun e w' => e = .returned (.int .u32 r) ∧ ∃ k, w' = w.drewN k := by
  obtain ⟨v, rfl⟩ := Int.eq_ofNat_of_zero_le h0
  subst hr
  exact field_yes v at' n w (by omega) (by omega) (by omega) (by omega)

/-! ### The parts of an address -/
theorem first_any (v : Int) (w : World) (h0 : 0 ≤ v) (h1 : v < 4294967296) :
    Calls Try.prog 61 #[.int .u32 v] w fun e w' => e = .returned (.int .i64 (v / 16384 % 64)) ∧ ∃ k, w' = w.drewN k := by
  go_enter Try.func61, Try.ntmps61
  go_wp2_with fail
  refine (fieldW 14 6 v (v / 16384 % 64) _ h0 h1 (by omega) (by omega) (by omega)).mono ?_
  rintro e w1 ⟨rfl, k1, rfl⟩
  have g0 : 0 ≤ v / 16384 % 64 := by omega
  have g1 : v / 16384 % 64 < 64 := by omega
  go_wp2
  go_ret
  exact ⟨rfl, _, rfl⟩
theorem second_any (v : Int) (w : World) (h0 : 0 ≤ v) (h1 : v < 4294967296) :
    Calls Try.prog 62 #[.int .u32 v] w fun e w' => e = .returned (.int .i64 (v / 256 % 64)) ∧ ∃ k, w' = w.drewN k := by
  go_enter Try.func62, Try.ntmps62
  go_wp2_with fail
  refine (fieldW 8 6 v (v / 256 % 64) _ h0 h1 (by omega) (by omega) (by omega)).mono ?_
  rintro e w1 ⟨rfl, k1, rfl⟩
  have g0 : 0 ≤ v / 256 % 64 := by omega
  have g1 : v / 256 % 64 < 64 := by omega
  go_wp2
  go_ret
  exact ⟨rfl, _, rfl⟩
theorem offset_any (v : Int) (w : World) (h0 : 0 ≤ v) (h1 : v < 4294967296) :
    Calls Try.prog 51 #[.int .u32 v] w fun e w' => e = .returned (.int .i64 (v % 256)) ∧ ∃ k, w' = w.drewN k := by
  go_enter Try.func51, Try.ntmps51
  go_wp2_with fail
  refine (fieldW 0 8 v (v % 256) _ h0 h1 (by omega) (by omega) (by omega)).mono ?_
  rintro e w1 ⟨rfl, k1, rfl⟩
  have g0 : 0 ≤ v % 256 := by omega
  have g1 : v % 256 < 256 := by omega
  go_wp2
  go_ret
  exact ⟨rfl, _, rfl⟩
theorem pageOf_any (v : Int) (w : World) (h0 : 0 ≤ v) (h1 : v < 4294967296) :
    Calls Try.prog 65 #[.int .u32 v] w fun e w' => e = .returned (.int .i64 (v / 256 % 4096)) ∧ ∃ k, w' = w.drewN k := by
  go_enter Try.func65, Try.ntmps65
  go_wp2_with fail
  refine (fieldW 8 12 v (v / 256 % 4096) _ h0 h1 (by omega) (by omega) (by omega)).mono ?_
  rintro e w1 ⟨rfl, k1, rfl⟩
  have g0 : 0 ≤ v / 256 % 4096 := by omega
  have g1 : v / 256 % 4096 < 4096 := by omega
  go_wp2
  go_ret
  exact ⟨rfl, _, rfl⟩
theorem inside_any (v : Int) (w : World) :
    Calls Try.prog 59 #[.int .u32 v] w fun e w' => e = .returned (.bool (decide (v < 1048576))) ∧ w = w' := by
  go_enter Try.func59, Try.ntmps59
  go_wp2
  go_ret
  exact ⟨rfl, rfl⟩
theorem join_yes (p o : Int) (w : World) (h0 : 0 ≤ p) (h1 : p < 4096) (h2 : 0 ≤ o) (h3 : o < 256) :
    Calls Try.prog 38 #[.int .i64 p, .int .i64 o] w fun e w' => e = .returned (.tuple #[.int .u32 (p * 256 + o), .bool true]) ∧ w = w' := by
  have e0 : decide (p < 0) = false := by simpa using h0
  have e1 : decide (4096 ≤ p) = false := by simpa using h1
  have e2 : decide (o < 0) = false := by simpa using h2
  have e3 : decide (256 ≤ o) = false := by simpa using h3
  have e4 : 0 ≤ p * 256 + o := by omega
  have e5 : p * 256 + o < 1048576 := by omega
  go_enter Try.func38, Try.ntmps38
  go_wp2
  go_ret2
  exact ⟨rfl, rfl⟩
theorem join_no (p o : Int) (w : World) (h : ¬ (0 ≤ p ∧ p < 4096 ∧ 0 ≤ o ∧ o < 256)) :
    Calls Try.prog 38 #[.int .i64 p, .int .i64 o] w fun e w' => e = .returned (.tuple #[.int .u32 0, .bool false]) ∧ w = w' := by
  by_cases h0 : p < 0
  · clear h
    go_enter Try.func38, Try.ntmps38
    go_wp2
    go_ret2
    exact ⟨rfl, rfl⟩
  have d0 : decide (p < 0) = false := by simpa using h0
  by_cases h1 : 4096 ≤ p
  · clear h
    go_enter Try.func38, Try.ntmps38
    go_wp2
    go_ret2
    exact ⟨rfl, rfl⟩
  have d1 : decide (4096 ≤ p) = false := by simpa using h1
  by_cases h2 : o < 0
  · clear h
    go_enter Try.func38, Try.ntmps38
    go_wp2
    go_ret2
    exact ⟨rfl, rfl⟩
  have d2 : decide (o < 0) = false := by simpa using h2
  have h3 : 256 ≤ o := by omega
  clear h
  go_enter Try.func38, Try.ntmps38
  go_wp2
  go_ret2
  exact ⟨rfl, rfl⟩
/-! ### Decode -/
theorem bit_any (b : Nat) (v : Int) (i : Nat) (w : World) (hc : w.cell? ⟨b, 0, none⟩ = some (.int .u32 v)) (h0 : 0 ≤ v) (h1 : v < 4294967296) (hi : i < 32) :
    Calls Try.prog 56 #[.int .i64 i, .pointer (some ⟨b, 0, none⟩)] w fun e w' => e = .returned (.bool (bt v i)) ∧ ∃ k, w' = w.drewN k := by
  obtain ⟨v, rfl⟩ := Int.eq_ofNat_of_zero_le h0
  go_enter Try.func56, Try.ntmps56
  go_wp2_with fail
  refine (field_yes v i 1 _ (by omega) (by omega) (by omega) (by omega)).mono ?_
  rintro e w1 ⟨rfl, k1, rfl⟩
  go_wp2
  go_ret
  refine ⟨congrArg (fun x => Ending.returned (.bool x)) ?_, _, rfl⟩
  unfold bt fieldN
  rw [Bool.eq_iff_iff]
  simp only [beq_iff_eq, div_cast]
  omega
theorem bit_at (b : Nat) (v : Int) (i : Nat) (I : Int) (w : World) (hc : w.cell? ⟨b, 0, none⟩ = some (.int .u32 v)) (h0 : 0 ≤ v) (h1 : v < 4294967296) (hI : I = i) (hi : i < 32) :
    Calls Try.prog 56 #[.int .i64 I, .pointer (some ⟨b, 0, none⟩)] w fun e w' => e = .returned (.bool (bt v i)) ∧ ∃ k, w' = w.drewN k := by
  subst hI
  exact bit_any b v i w hc h0 h1 hi
/-- A row of five is written. -/
theorem below5 {B b : Nat} {a w : World} (h : Below B a w) (hb : B ≤ b) (v0 v1 v2 v3 v4 : Value) :
    Below B a (((((w.setCell ⟨b, 0, none⟩ v0).setCell ⟨b, 1, none⟩ v1).setCell ⟨b, 2, none⟩ v2).setCell ⟨b, 3, none⟩ v3).setCell ⟨b, 4, none⟩ v4) :=
  ((((h.setCell hb _).setCell hb _).setCell hb _).setCell hb _).setCell hb _
set_option maxHeartbeats 1000000 in
theorem decode_no (v : Int) (w : World) (h0 : 0 ≤ v) (h1 : v < 4294967296) (h : v % 2 = 0) :
    Calls Try.prog 40 #[.int .u32 v] w fun e w' => e = .returned (.agg #[.bool false, .bool false, .bool false, .bool false, .int .i64 0]) ∧ Below w.heap.size w w' := by
  have e0 : bt v 0 = false := by unfold bt; simp; omega
  go_enter Try.func40, Try.ntmps40
  go_wp2_with (go_at_call 56; refine (bit_any _ v 0 _ (by simp) h0 h1 (by omega)).mono ?_; rintro e w1 ⟨rfl, k1, rfl⟩)
  refine bodyPost_ret (v := .agg #[.bool false, .bool false, .bool false, .bool false, .int .i64 0]) (by simp [results, Try.results40, go_sem]) rfl ⟨rfl, ?_⟩
  exact below5 (below_drewN (((Below.refl _ _).alloc (Nat.le_refl _) _).alloc (by simp) _) _) (by omega) _ _ _ _ _
set_option maxHeartbeats 1000000 in
theorem decode_yes (v : Int) (w : World) (h0 : 0 ≤ v) (h1 : v < 4294967296) (h : v % 2 = 1) :
    Calls Try.prog 40 #[.int .u32 v] w fun e w' => e = .returned (.agg #[.bool true, .bool (bt v 1), .bool (bt v 2), .bool (bt v 3), .int .i64 (v / 256 % 65536)]) ∧ Below w.heap.size w w' := by
  have e0 : bt v 0 = true := by unfold bt; simp; omega
  have z : IntKind.i64.wrap (v / 256 % 65536) = v / 256 % 65536 := IntWalk.i64_in _ (by omega)
  go_enter Try.func40, Try.ntmps40
  go_wp2_with (go_at_call 56; refine (bit_any _ v 0 _ (by simp) h0 h1 (by omega)).mono ?_; rintro e w1 ⟨rfl, k1, rfl⟩)
  go_region_held3 (fun w' => w'.cell? ⟨w.heap.size, 0, none⟩ = some (.int .u32 v)) (go_keep) (first
    | (go_at_call 56; with_reducible refine (bit_at _ v 1 1 _ (by simp) h0 h1 rfl (by omega)).mono ?_; rintro e w1 ⟨rfl, k2, rfl⟩)
    | (go_at_call 56; with_reducible refine (bit_at _ v 2 2 _ (by simp) h0 h1 rfl (by omega)).mono ?_; rintro e w1 ⟨rfl, k3, rfl⟩)
    | (go_at_call 56; with_reducible refine (bit_at _ v 3 3 _ (by simp) h0 h1 rfl (by omega)).mono ?_; rintro e w1 ⟨rfl, k4, rfl⟩)
    | (go_at_call 57; refine (fieldW 8 16 v (v / 256 % 65536) _ h0 h1 (by omega) (by omega) (by omega)).mono ?_; rintro e w1 ⟨rfl, k5, rfl⟩))
  clear z
  go_wp2
  refine bodyPost_ret (v := .agg #[.bool true, .bool (bt v 1), .bool (bt v 2), .bool (bt v 3), .int .i64 (v / 256 % 65536)]) (by simp [results, Try.results40, go_sem]) rfl ⟨rfl, ?_⟩
  exact below5 (below_drewN (((Below.refl _ _).alloc (Nat.le_refl _) _).alloc (by simp) _) _) (by omega) _ _ _ _ _
/-- The fields of a word's entry. -/
def dV (v : Int) : Bool := v % 2 == 1
def dW (v : Int) : Bool := v % 2 == 1 && v / 2 % 2 == 1
def dX (v : Int) : Bool := v % 2 == 1 && v / 4 % 2 == 1
def dB (v : Int) : Bool := v % 2 == 1 && v / 8 % 2 == 1
def dF (v : Int) : Int := if v % 2 = 1 then v / 256 % 65536 else 0
theorem decode_any (v : Int) (w : World) (h0 : 0 ≤ v) (h1 : v < 4294967296) :
    Calls Try.prog 40 #[.int .u32 v] w fun e w' => e = .returned (.agg #[.bool (dV v), .bool (dW v), .bool (dX v), .bool (dB v), .int .i64 (dF v)]) ∧ Below w.heap.size w w' := by
  by_cases h : v % 2 = 1
  · have e0 : (v % 2 == 1) = true := by simpa using h
    unfold dV dW dX dB dF
    rw [if_pos h]
    simp only [e0, Bool.true_and]
    exact decode_yes v w h0 h1 h
  · have e0 : (v % 2 == 1) = false := by simpa using h
    unfold dV dW dX dB dF
    rw [if_neg h]
    simp only [e0, Bool.false_and]
    exact decode_no v w h0 h1 (by omega)
end En
end Go.Proofs.Ytdjglmfilhodlaa
