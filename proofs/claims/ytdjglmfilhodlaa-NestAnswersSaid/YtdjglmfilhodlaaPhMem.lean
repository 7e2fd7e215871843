/-
  What phys's New, Byte, Word, PutByte, PutWord do with a memory; conditions: that a memory lies there, and that each argument is of its Go type.
-/
import Derived.Test.YtdjglmfilhodlaaPhWord
namespace Go.Proofs.Ytdjglmfilhodlaa
open Go.RowKit
namespace Ph

/-! ### Plain functions of a memory's bytes -/
/-- Is there a byte? -/
def inB (n a : Nat) : Bool := decide (a < 256 * n)
/-- Does a word stand there? -/
def hwA (n a : Nat) : Bool := a % 4 == 0 && decide (a < 256 * n)
def rd (n : Nat) (z : Nat → Int) (a : Nat) : Int := if inB n a = true then z a else 0
def rdw (n : Nat) (z : Nat → Int) (a : Nat) : Int := if hwA n a = true then word4 (z a) (z (a + 1)) (z (a + 2)) (z (a + 3)) else 0
def pb (n : Nat) (z : Nat → Int) (a : Nat) (x : Int) : Nat → Int := if inB n a = true then put1 z a x else z
def pw (n : Nat) (z : Nat → Int) (a : Nat) (x : Int) : Nat → Int := if hwA n a = true then putw z a x else z
theorem hw_eq (n q r : Nat) (hr : r < 256) : hw n q r = hwA n (256 * q + r) := by
  unfold hw hwA
  rw [show (256 * q + r) % 4 = r % 4 by omega, show decide (256 * q + r < 256 * n) = decide (q < n) by rw [decide_eq_decide]; omega]
theorem inB_eq (n q r : Nat) (hr : r < 256) : inB n (256 * q + r) = decide (q < n) := by
  unfold inB
  rw [decide_eq_decide]; omega
theorem split_addr (a : Nat) : ∃ q r, r < 256 ∧ a = 256 * q + r := ⟨a / 256, a % 256, by omega, by omega⟩

theorem word_no (m F n c q r : Nat) (z : Nat → Int) (w : World) (hM : Mem w m F n c z) (hr : r < 256) (hq : 256 * q + r < 4294967296) (hk : hw n q r = false) :
    Calls Try.prog 35 #[.pointer (some ⟨m, 0, none⟩), .int .u32 (256 * (q : Int) + r)] w fun e w' => e = .returned (.tuple #[.int .u32 0, .bool false]) ∧ ∃ k, w' = w.drewN k := by
  have hh := hM.head
  go_enter Try.func35, Try.ntmps35
  go_wp2_with (go_at_call 42; refine (hasWord4 m F n c q r _ hh hr hq).mono ?_; rintro e w' ⟨rfl, rfl⟩)
  go_ret2
  exact ⟨rfl, 0, rfl⟩
theorem hw_true {n q r : Nat} (h : hw n q r = true) : r % 4 = 0 ∧ q < n := by
  unfold hw at h
  simpa using h
theorem word_yes (m F n c q r : Nat) (z : Nat → Int) (w : World) (hM : Mem w m F n c z) (hr : r < 256) (hk : hw n q r = true) :
    Calls Try.prog 35 #[.pointer (some ⟨m, 0, none⟩), .int .u32 (256 * (q : Int) + r)] w fun e w' => e = .returned (.tuple #[.int .u32 (word4 (z (256 * q + r)) (z (256 * q + r + 1)) (z (256 * q + r + 2)) (z (256 * q + r + 3))), .bool true]) ∧ ∃ k, w' = w.drewN k := by
  obtain ⟨h4, hq⟩ := hw_true hk
  have hf := hM.few
  have hh := hM.head
  have hR := Lib.hid hM.row
  have H4 := Lib.hid h4
  clear h4
  go_enter Try.func35, Try.ntmps35
  go_wp2_with (first | (go_at_call 42; refine (hasWord4 m F n c q r _ hh hr (by omega)).mono ?_; rintro e w' ⟨rfl, rfl⟩) | (go_at_call 43; refine (place_any q r _ hr (by omega)).mono ?_; rintro e w' ⟨rfl, rfl⟩) | (go_at_call 55; refine (get_yes F (q * 256) 256 256 r (z (256 * q + r)) (z (256 * q + r + 1)) (z (256 * q + r + 2)) (z (256 * q + r + 3)) _ (by omega) (by have := H4.out; omega) (by omega) (hR.out.b8 _ (by omega)) (hR.out.b8 _ (by have := H4.out; omega)) (hR.out.b8 _ (by have := H4.out; omega)) (hR.out.b8 _ (by have := H4.out; omega)) (by rw [Int.toNat_natCast, Nat.mul_comm q]; exact hR.out.cell _ (by omega)) (by rw [Int.toNat_natCast, Nat.mul_comm q]; exact hR.out.cell (256 * q + r + 1) (by have := H4.out; omega)) (by rw [Int.toNat_natCast, Nat.mul_comm q]; exact hR.out.cell (256 * q + r + 2) (by have := H4.out; omega)) (by rw [Int.toNat_natCast, Nat.mul_comm q]; exact hR.out.cell (256 * q + r + 3) (by have := H4.out; omega))).mono ?_; rintro e w' ⟨rfl, kk, rfl⟩))
  go_ret2
  exact ⟨rfl, _, rfl⟩
theorem word_any (m F n c a : Nat) (z : Nat → Int) (w : World) (hM : Mem w m F n c z) (ha : a < 4294967296) :
    Calls Try.prog 35 #[.pointer (some ⟨m, 0, none⟩), .int .u32 a] w fun e w' => e = .returned (.tuple #[.int .u32 (rdw n z a), .bool (hwA n a)]) ∧ ∃ k, w' = w.drewN k := by
  obtain ⟨q, r, hr, rfl⟩ := split_addr a
  have ec : ((256 * q + r : Nat) : Int) = 256 * (q : Int) + r := by omega
  rw [ec]
  unfold rdw
  rw [← hw_eq n q r hr]
  cases hk : hw n q r
  · exact word_no m F n c q r z w hM hr ha hk
  · exact word_yes m F n c q r z w hM hr hk
/-- How a call that changes a memory's bytes ends. -/
def PutEnd (v : Value) (m F n c : Nat) (z' : Nat → Int) (w : World) (e : Ending) (w' : World) : Prop := e = .returned v ∧ Mem w' m F n c z' ∧ Only [F] w w'
theorem putWord_no (m F n c q r : Nat) (z : Nat → Int) (x : Int) (w : World) (hM : Mem w m F n c z) (hr : r < 256) (hq : 256 * q + r < 4294967296) (hk : hw n q r = false) :
    Calls Try.prog 22 #[.pointer (some ⟨m, 0, none⟩), .int .u32 (256 * (q : Int) + r), .int .u32 x] w fun e w' => e = .returned (.bool false) ∧ w = w' := by
  have hh := hM.head
  go_enter Try.func22, Try.ntmps22
  go_wp2_with (go_at_call 42; refine (hasWord4 m F n c q r _ hh hr hq).mono ?_; rintro e w' ⟨rfl, rfl⟩)
  go_ret
  exact ⟨rfl, rfl⟩
theorem putWord_yes (m F n c q r : Nat) (z : Nat → Int) (x : Int) (w : World) (hM : Mem w m F n c z) (hr : r < 256) (hk : hw n q r = true) (x0 : 0 ≤ x) (x1 : x < 4294967296) :
    Calls Try.prog 22 #[.pointer (some ⟨m, 0, none⟩), .int .u32 (256 * (q : Int) + r), .int .u32 x] w fun e w' => e = .returned (.bool true) ∧ w' = set4 w F (q * 256 + r) x := by
  obtain ⟨h4, hq⟩ := hw_true hk
  have hf := hM.few
  have hh := hM.head
  have hR := Lib.hid hM.row
  have H4 := Lib.hid h4
  clear h4
  go_enter Try.func22, Try.ntmps22
  go_wp2_with (first | (go_at_call 42; refine (hasWord4 m F n c q r _ hh hr (by omega)).mono ?_; rintro e w' ⟨rfl, rfl⟩) | (go_at_call 43; refine (place_any q r _ hr (by omega)).mono ?_; rintro e w' ⟨rfl, rfl⟩) | (go_at_call 44; refine (set_off F (q * 256) 256 256 (256 * n) r z x _ hR.out (by have := H4.out; omega) (by omega) (by omega) x0 x1).mono ?_; rintro e w' ⟨rfl, rfl⟩))
  go_ret
  exact ⟨rfl, rfl⟩
theorem putWord_any (m F n c a : Nat) (z : Nat → Int) (x : Int) (w : World) (hM : Mem w m F n c z) (ha : a < 4294967296) (x0 : 0 ≤ x) (x1 : x < 4294967296) :
    Calls Try.prog 22 #[.pointer (some ⟨m, 0, none⟩), .int .u32 a, .int .u32 x] w (PutEnd (.bool (hwA n a)) m F n c (pw n z a x) w) := by
  obtain ⟨q, r, hr, rfl⟩ := split_addr a
  have ec : ((256 * q + r : Nat) : Int) = 256 * (q : Int) + r := by omega
  rw [ec]
  unfold pw
  rw [← hw_eq n q r hr]
  have hmF := hM.apart
  cases hk : hw n q r
  · refine (putWord_no m F n c q r z x w hM hr ha hk).mono ?_
    rintro e w' ⟨rfl, rfl⟩
    exact ⟨rfl, hM, Only.refl _ _⟩
  · refine (putWord_yes m F n c q r z x w hM hr hk x0 x1).mono ?_
    rintro e w' ⟨rfl, rfl⟩
    obtain ⟨h4, hq⟩ := hw_true hk
    have ho := set4_only (S := [F]) w (List.mem_singleton.2 rfl) (q * 256 + r) x
    rw [if_pos rfl, ← Nat.mul_comm q]
    exact ⟨rfl, hM.with ho (by simpa using hmF) (set4_rowN hM.row (by omega) x x0 x1), ho⟩
end Ph
end Go.Proofs.Ytdjglmfilhodlaa
