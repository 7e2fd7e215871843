/-
  What word.Get, word.Set and word.Bytes and the helper SameBytes do, at every argument; no condition but that each argument is of its Go type.
-/
import Derived.Test.YtlfhcnpbgbnadaaDoorRows
import Derived.WalkKit
import Derived.WalkSpells
import Derived.WalkLawsBesides
import Derived.Outline
import Derived.IntWalk
import Derived.Below
import Derived.Lib.Hide
import Derived.Deep.QuietTactic
import Derived.BigQuiet
import Derived.Laws.BitsAllLaws
import Derived.Deep.OwnRows
namespace Go.Proofs.YtlfhcnpbgbnadaaDoor.Wd
open Go.RowKit

theorem hasWord_yes (a : Option Addr) (len cap : Nat) (i : Int) (w : World) (h0 : 0 ≤ i) (h1 : i ≤ len - 4) (hl : len ≤ 9223372036854775807) :
    Calls Tryd.prog 41 #[.slice a len cap, .int .i64 i] w fun e w' => e = .returned (.bool true) ∧ w = w' := by
  have h5 : decide (i ≤ (len : Int) - 4) = true := by simpa using h1
  go_enter Tryd.func41, Tryd.ntmps41
  go_wp2
  go_ret
  exact ⟨rfl, rfl⟩
theorem hasWord_no (a : Option Addr) (len cap : Nat) (i : Int) (w : World) (h : ¬ (0 ≤ i ∧ i ≤ len - 4)) (hl : len ≤ 9223372036854775807) :
    Calls Tryd.prog 41 #[.slice a len cap, .int .i64 i] w fun e w' => e = .returned (.bool false) ∧ w = w' := by
  by_cases h0 : 0 ≤ i
  · have h1 : ¬ i ≤ (len : Int) - 4 := by omega
    have h5 : decide (i ≤ (len : Int) - 4) = false := by simpa using h1
    clear h
    go_enter Tryd.func41, Tryd.ntmps41
    go_wp2
    go_ret
    exact ⟨rfl, rfl⟩
  · have h5 : decide (0 ≤ i) = false := by simpa using h0
    clear h
    go_enter Tryd.func41, Tryd.ntmps41
    go_wp2
    go_ret
    exact ⟨rfl, rfl⟩
theorem get_no (a : Option Addr) (len cap : Nat) (i : Int) (w : World) (h : ¬ (0 ≤ i ∧ i ≤ len - 4)) (hl : len ≤ 9223372036854775807) :
    Calls Tryd.prog 29 #[.slice a len cap, .int .i64 i] w fun e w' => e = .returned (.tuple #[.int .u32 0, .bool false]) ∧ w = w' := by
  go_enter Tryd.func29, Tryd.ntmps29
  go_wp2_with (go_at_call 41; refine (hasWord_no _ _ _ _ _ h hl).mono ?_; rintro e w' ⟨rfl, rfl⟩)
  go_ret2
  exact ⟨rfl, rfl⟩
/-- A byte. -/
def B8 (z : Int) : Prop := 0 ≤ z ∧ z < 256
theorem or_join (a b : Int) (k : Nat) (h0 : 0 ≤ a) (h1 : a < (2 ^ k : Nat)) (h2 : 0 ≤ b) (h3 : b * (2 ^ k : Nat) < 4294967296) (h4 : a < 4294967296) : bits .or .u32 a (b * (2 ^ k : Nat)) = a + b * (2 ^ k : Nat) := by
  obtain ⟨A, rfl⟩ := Int.eq_ofNat_of_zero_le h0
  obtain ⟨B, rfl⟩ := Int.eq_ofNat_of_zero_le h2
  rw [← Int.natCast_mul] at h3 ⊢
  rw [u32_or_nat _ _ (by omega) (by omega), Nat.or_comm, nat_join k (B * 2 ^ k) A (Nat.mul_mod_left _ _) (by omega)]
  omega
/-- The word of four bytes. -/
def word4 (z0 z1 z2 z3 : Int) : Int := z0 + z1 * 256 + z2 * 65536 + z3 * 16777216
theorem word_eq (z0 z1 z2 z3 : Int) (k0 : B8 z0) (k1 : B8 z1) (k2 : B8 z2) (k3 : B8 z3) :
    bits .or .u32 (bits .or .u32 (bits .or .u32 z0 (z1 * 256)) (z2 * 65536)) (z3 * 16777216) = word4 z0 z1 z2 z3 := by
  obtain ⟨a0, b0⟩ := k0; obtain ⟨a1, b1⟩ := k1; obtain ⟨a2, b2⟩ := k2; obtain ⟨a3, b3⟩ := k3
  have e1 : bits .or .u32 z0 (z1 * 256) = z0 + z1 * 256 := or_join z0 z1 8 a0 (by omega) a1 (by omega) (by omega)
  have e2 : bits .or .u32 (z0 + z1 * 256) (z2 * 65536) = z0 + z1 * 256 + z2 * 65536 := or_join _ z2 16 (by omega) (by omega) a2 (by omega) (by omega)
  have e3 : bits .or .u32 (z0 + z1 * 256 + z2 * 65536) (z3 * 16777216) = z0 + z1 * 256 + z2 * 65536 + z3 * 16777216 := or_join _ z3 24 (by omega) (by omega) a3 (by omega) (by omega)
  rw [e1, e2, e3]
  rfl
theorem ret_u32b {a b : Int} {c : Bool} (h : a = b) : Ending.returned (.tuple #[.int .u32 a, .bool c]) = .returned (.tuple #[.int .u32 b, .bool c]) := by rw [h]
theorem get_yes (b off len cap : Nat) (i : Int) (z0 z1 z2 z3 : Int) (w : World) (h0 : 0 ≤ i) (h : i + 4 ≤ len) (hl : len ≤ 9223372036854775807)
    (k0 : B8 z0) (k1 : B8 z1) (k2 : B8 z2) (k3 : B8 z3)
    (c0 : w.cell? ⟨b, off + i.toNat, none⟩ = some (.int .u8 z0)) (c1 : w.cell? ⟨b, off + (i.toNat + 1), none⟩ = some (.int .u8 z1))
    (c2 : w.cell? ⟨b, off + (i.toNat + 2), none⟩ = some (.int .u8 z2)) (c3 : w.cell? ⟨b, off + (i.toNat + 3), none⟩ = some (.int .u8 z3)) :
    Calls Tryd.prog 29 #[.slice (some ⟨b, off, none⟩) len cap, .int .i64 i] w fun e w' => e = .returned (.tuple #[.int .u32 (word4 z0 z1 z2 z3), .bool true]) ∧ ∃ k, w' = w.drewN k := by
  obtain ⟨i, rfl⟩ := Int.eq_ofNat_of_zero_le h0
  rw [Int.toNat_natCast] at c0 c1 c2 c3
  have E := Lib.hid (word_eq z0 z1 z2 z3 k0 k1 k2 k3)
  obtain ⟨a0, b0⟩ := k0; obtain ⟨a1, b1⟩ := k1; obtain ⟨a2, b2⟩ := k2; obtain ⟨a3, b3⟩ := k3
  go_enter Tryd.func29, Tryd.ntmps29
  go_wp2_with (go_at_call 41; refine (hasWord_yes _ _ _ _ _ (by omega) (by omega) hl).mono ?_; rintro e w' ⟨rfl, rfl⟩)
  go_quiet (fail)
  go_wp2
  go_ret2
  exact ⟨ret_u32b E.out, _, rfl⟩
theorem set_no (a : Option Addr) (len cap : Nat) (i x : Int) (w : World) (h : ¬ (0 ≤ i ∧ i ≤ len - 4)) (hl : len ≤ 9223372036854775807) :
    Calls Tryd.prog 59 #[.slice a len cap, .int .i64 i, .int .u32 x] w fun e w' => e = .returned (.bool false) ∧ w = w' := by
  go_enter Tryd.func59, Tryd.ntmps59
  go_wp2_with (go_at_call 41; refine (hasWord_no _ _ _ _ _ h hl).mono ?_; rintro e w' ⟨rfl, rfl⟩)
  go_ret
  exact ⟨rfl, rfl⟩
/-- A world in which a word's bytes were put into a row. -/
def set4 (w : World) (b i : Nat) (x : Int) : World :=
  (((w.setCell ⟨b, i, none⟩ (.int .u8 (x % 256))).setCell ⟨b, i + 1, none⟩ (.int .u8 (x / 256 % 256))).setCell ⟨b, i + 2, none⟩ (.int .u8 (x / 65536 % 256))).setCell ⟨b, i + 3, none⟩ (.int .u8 (x / 16777216))
/-- A word's byte. -/
def byte4 (x : Int) : Nat → Int
  | 0 => x % 256
  | 1 => x / 256 % 256
  | 2 => x / 65536 % 256
  | _ => x / 16777216
/-- A row's values, a word's bytes having been put into it. -/
def put4 (f : Nat → Value) (i : Nat) (x : Int) (j : Nat) : Value := if i ≤ j ∧ j < i + 4 then .int .u8 (byte4 x (j - i)) else f j
theorem set4_row {w : World} {b n i : Nat} {t : TypeId} {f : Nat → Value} (h : w.rowIs b t n f) (x : Int) : (set4 w b i x).rowIs b t n (put4 f i x) := by
  refine ((((h.set i _).set (i + 1) _).set (i + 2) _).set (i + 3) _).congr ?_
  intro j _
  unfold put4
  by_cases h3 : j = i + 3
  · subst h3
    rw [if_pos rfl, if_pos (by omega), show i + 3 - i = 3 by omega]
    rfl
  · rw [if_neg h3]
    by_cases h2 : j = i + 2
    · subst h2
      rw [if_pos rfl, if_pos (by omega), show i + 2 - i = 2 by omega]
      rfl
    · rw [if_neg h2]
      by_cases h1 : j = i + 1
      · subst h1
        rw [if_pos rfl, if_pos (by omega), show i + 1 - i = 1 by omega]
        rfl
      · rw [if_neg h1]
        by_cases h0 : j = i
        · subst h0
          rw [if_pos rfl, if_pos (by omega), Nat.sub_self]
          rfl
        · rw [if_neg h0, if_neg (by omega)]
theorem set4_below {B : Nat} {a w : World} (h : Below B a w) {b : Nat} (hb : B ≤ b) (i : Nat) (x : Int) : Below B a (set4 w b i x) :=
  (((h.setCell hb _).setCell hb _).setCell hb _).setCell hb _
theorem set4_size (w : World) (b i : Nat) (x : Int) : (set4 w b i x).heap.size = w.heap.size := by simp [set4]
theorem set4_other (w : World) (b i k : Nat) (x : Int) (h : k ≠ b) : (set4 w b i x).heap[k]? = w.heap[k]? := by
  unfold set4
  rw [Below.heap_setCell _ _ _ _ h, Below.heap_setCell _ _ _ _ h, Below.heap_setCell _ _ _ _ h, Below.heap_setCell _ _ _ _ h]
theorem set_row (b len cap n : Nat) (t : TypeId) (f : Nat → Value) (i x : Int) (w : World) (hrow : w.rowIs b t n f) (h0 : 0 ≤ i) (h : i + 4 ≤ len) (hn : len ≤ n) (hl : len ≤ 9223372036854775807) (x0 : 0 ≤ x) (x1 : x < 4294967296) :
    Calls Tryd.prog 59 #[.slice (some ⟨b, 0, none⟩) len cap, .int .i64 i, .int .u32 x] w fun e w' => e = .returned (.bool true) ∧ w' = set4 w b i.toNat x := by
  obtain ⟨i, rfl⟩ := Int.eq_ofNat_of_zero_le h0
  rw [Int.toNat_natCast]
  have c0 := hrow.cell (i := i) (by omega)
  have c1 := hrow.cell (i := i + 1) (by omega)
  have c2 := hrow.cell (i := i + 2) (by omega)
  have c3 := hrow.cell (i := i + 3) (by omega)
  have f0 := hrow.frozen i
  have f1 := hrow.frozen (i + 1)
  have f2 := hrow.frozen (i + 2)
  have f3 := hrow.frozen (i + 3)
  clear hrow
  go_enter Tryd.func59, Tryd.ntmps59
  go_wp2_with (go_at_call 41; refine (hasWord_yes _ _ _ _ _ (by omega) (by omega) hl).mono ?_; rintro e w' ⟨rfl, rfl⟩)
  go_ret
  exact ⟨rfl, rfl⟩
/-- The byte at a place of words' bytes. -/
def byteOf (z : Nat → Int) (j : Nat) : Int := byte4 (z (j / 4)) (j % 4)
/-- The first k words' bytes, and noughts. -/
def upto (z : Nat → Int) (k j : Nat) : Value := if j < 4 * k then .int .u8 (byteOf z j) else .int .u8 0
theorem upto_step (z : Nat → Int) (k j : Nat) : put4 (upto z k) (4 * k) (z k) j = upto z (k + 1) j := by
  unfold put4 upto
  by_cases h : 4 * k ≤ j ∧ j < 4 * k + 4
  · rw [if_pos h, if_pos (by omega)]
    unfold byteOf
    rw [show j / 4 = k by omega, show j - 4 * k = j % 4 by omega]
  · rw [if_neg h]
    by_cases h2 : j < 4 * k
    · rw [if_pos h2, if_pos (by omega)]
    · rw [if_neg h2, if_neg (by omega)]
theorem info5 : (Tryd.prog.info? 5).map (fun i => (i.zero, i.size, i.bytes)) = some (some (.int .u8 0), 1, 1) := by kernel_rfl
theorem bytes_any (b off n cap : Nat) (z : Nat → Int) (w : World) (hn : n ≤ 1000000) (hz : ∀ j, j < n → 0 ≤ z j ∧ z j < 4294967296) (hb : b < w.heap.size)
    (hc : ∀ j, j < n → w.cell? ⟨b, off + j, none⟩ = some (.int .u32 (z j))) :
    Calls Tryd.prog 45 #[.slice (some ⟨b, off, none⟩) n cap] w fun e w' => e = .returned (.slice (some ⟨w.heap.size, 0, none⟩) (4 * n) (4 * n)) ∧
      w'.rowIs w.heap.size 5 (4 * n) (fun j => .int .u8 (byteOf z j)) ∧ Below w.heap.size w w' := by
  have HC := Lib.hid hc
  have HZ := Lib.hid hz
  clear hc hz
  have ec : ((4 * n : Nat) : Int) = 4 * (n : Int) := by omega
  have hmk := fun wx => run_make_row' (P := Tryd.prog) 41 5 (.int .u8 0) 1 Tryd.underlying41 info5 rfl .i64 .i64 (4 * n) (by omega) (by omega) wx
  rw [ec] at hmk
  clear ec
  go_enter Tryd.func45, Tryd.ntmps45
  go_wp2
  go_loopw [12] (fun i wr => ∃ k : Nat, k ≤ n ∧ i = .int .i64 k ∧ wr.rowIs w.heap.size 5 (4 * n) (upto z k) ∧ Below w.heap.size w wr) (fun i _ => n - (intOf i).toNat)
  case atStart => exact ⟨0, Nat.zero_le _, rfl, (World.rowIs_made w _ _ _).congr (fun j _ => by unfold upto; rw [if_neg (by omega)]), (Below.refl _ _).alloc (Nat.le_refl _) _⟩
  case round =>
    obtain ⟨k, hk, rfl, hrow, hbel⟩ := hrel
    have HR := Lib.hid hrow
    have HB := Lib.hid hbel
    clear hrow hbel
    by_cases hlt : k < n
    · have hcx := (HB.out.cell (p := ⟨b, off + k, none⟩) hb).trans (HC.out k hlt)
      obtain ⟨z0, z1⟩ := HZ.out k hlt
      go_wp2_with (go_at_call 59; refine (set_row _ _ _ (4 * n) _ _ _ _ _ HR.out (by omega) (by omega) (by omega) (by omega) (by omega) (by omega)).mono ?_; rintro e w' ⟨rfl, rfl⟩)
      go_roundw
      case rel =>
        exact ⟨k + 1, by omega, by go_num, (set4_row HR.out _).congr (fun j _ => upto_step z k j), set4_below HB.out (Nat.le_refl _) _ _⟩
      case measure => simp [intOf]; omega
    · have e : k = n := by omega
      subst e
      go_wp2
      go_ret
      exact ⟨rfl, HR.out.congr (fun j hj => by unfold upto; rw [if_pos (by omega)]), HB.out⟩
end Go.Proofs.YtlfhcnpbgbnadaaDoor.Wd
