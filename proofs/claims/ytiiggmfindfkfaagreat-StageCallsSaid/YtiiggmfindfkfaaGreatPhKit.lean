/-
  Memories as they lie in a world; what phys's place, has, hasWord, Frames, Byte and New answer. Conditions: that a memory lies there.
  What word.Get and word.Set, the document's own Get and Four, SameBytes, SameInts and CopyBytes do; no condition but that each argument is of its Go type, and that the bytes are no more than 20,000.
  What phys's New, Byte, Word, PutByte, PutWord do with a memory; conditions: that a memory lies there, and that each argument is of its Go type.
  What phys's New, Frame, Clone and Fill do with a memory; conditions: that a memory lies there, and that each argument is of its Go type.
  What phys's Clone and Fill do with a memory; conditions: that a memory lies there, and that each argument is of its Go type.
  Two frames are held against each other; no condition.
  What phys's Differ answers of two memories of as many frames; conditions: that the memories lie there.
  What the document's own memory does; conditions: that such a memory lies there, and that each argument is of its Go type.
  What the statements' told does with a memory and the document's own; conditions: that the memories lie there, with the same bytes, and that the call is of its Go type.
-/
import Derived.Test.YtiiggmfindfkfaaGreatRows
import Derived.WalkKit
import Derived.WalkSpells
import Derived.WalkLawsBesides
import Derived.Outline
import Derived.IntWalk
import Derived.Below
import Derived.Lib.Hide
import Derived.Deep.QuietTactic
import Derived.BigQuiet
import Derived.Laws.BitsAllLaws
import Derived.Deep.OwnRows
import Derived.Deep.MidRow
import Derived.Lib.QuietBelow
import Derived.Deep.AppendLies
import Derived.Laws.CopyOwn
import Derived.Great.Walk
import Derived.Lib.SliceRun
import Derived.StillTailTactics
import Derived.Deep.RegionHeld3
namespace Go.Proofs.YtiiggmfindfkfaaGreat
open Go.RowKit
namespace Ph

/-! ### Worlds that differ in some blocks alone -/
/-- But for some blocks the world w' is as w was; the streams are as they were; no block has gone. -/
structure Only (S : List Nat) (w w' : World) : Prop where
  os : w'.os = w.os
  tape : w'.tape = w.tape
  output : w'.output = w.output
  size : w.heap.size ≤ w'.heap.size
  block : ∀ k, k < w.heap.size → k ∉ S → w'.heap[k]? = w.heap[k]?
theorem Only.refl (S : List Nat) (w : World) : Only S w w := ⟨rfl, rfl, rfl, Nat.le_refl _, fun _ _ _ => rfl⟩
theorem Only.trans {S : List Nat} {a b c : World} (h : Only S a b) (k : Only S b c) : Only S a c :=
  ⟨k.os.trans h.os, k.tape.trans h.tape, k.output.trans h.output, Nat.le_trans h.size k.size, fun i hi hs => (k.block i (Nat.lt_of_lt_of_le hi h.size) hs).trans (h.block i hi hs)⟩
theorem Only.mono {S S' : List Nat} {w w' : World} (h : Only S w w') (hs : ∀ x ∈ S, x ∈ S') : Only S' w w' :=
  ⟨h.os, h.tape, h.output, h.size, fun k hk hn => h.block k hk (fun x => hn (hs _ x))⟩
theorem Only.of {w w' : World} (h : Below w.heap.size w w') (S : List Nat) : Only S w w' := ⟨h.os, h.tape, h.output, h.size, fun k hk _ => h.block k hk⟩
theorem Only.drewN (S : List Nat) (w : World) (k : Nat) : Only S w (w.drewN k) := ⟨rfl, rfl, rfl, Nat.le_refl _, fun _ _ _ => rfl⟩
theorem Only.alloc (S : List Nat) (w : World) (o : Obj) : Only S w (w.alloc o) := Only.of ((Below.refl _ _).alloc (Nat.le_refl _) _) S
theorem Only.setCell {S : List Nat} (w : World) {b : Nat} (hb : b ∈ S) (j : Nat) (v : Value) : Only S w (w.setCell ⟨b, j, none⟩ v) :=
  ⟨rfl, rfl, rfl, by simp [World.setCell], fun k _ hk => Below.heap_setCell _ _ _ _ (fun e => hk (by rw [show k = b from e]; exact hb))⟩
theorem Only.below {S : List Nat} {w w' : World} (h : Only S w w') {B : Nat} (hB : B ≤ w.heap.size) (hs : ∀ x ∈ S, B ≤ x) : Below B w w' :=
  ⟨h.os, h.tape, h.output, h.size, fun k hk => h.block k (by omega) (fun x => by have := hs k x; omega)⟩
theorem Only.cell {S : List Nat} {w w' : World} (h : Only S w w') {b : Nat} (hb : b < w.heap.size) (hn : b ∉ S) (j : Nat) : w'.cell? ⟨b, j, none⟩ = w.cell? ⟨b, j, none⟩ :=
  World.cell?_of_block (w := w) (h.block b hb hn)
theorem Only.frozen {S : List Nat} {w w' : World} (h : Only S w w') {b : Nat} (hb : b < w.heap.size) (hn : b ∉ S) (j : Nat) : w'.frozen? ⟨b, j, none⟩ = w.frozen? ⟨b, j, none⟩ :=
  World.frozen?_of_block (w := w) (h.block b hb hn)
theorem Only.back {S S' : List Nat} {a b : World} {n : Nat} (h : Only S a b) (hs : ∀ x ∈ S, x ∈ S' ∨ n ≤ x) (hn : a.heap.size ≤ n) : Only S' a b :=
  ⟨h.os, h.tape, h.output, h.size, fun k hk hk' => h.block k hk (fun x => (hs k x).elim hk' (fun g => by omega))⟩

/-! ### Bytes in a block, and memories -/
/-- A byte. -/
def B8 (z : Int) : Prop := 0 ≤ z ∧ z < 256
/-- Bytes lie in a block from its head on, and may be written. -/
structure Row (w : World) (b N : Nat) (z : Nat → Int) : Prop where
  lt : b < w.heap.size
  cell : ∀ j, j < N → w.cell? ⟨b, j, none⟩ = some (.int .u8 (z j))
  free : ∀ j, j < N → w.frozen? ⟨b, j, none⟩ = false
  b8 : ∀ j, j < N → B8 (z j)
theorem Row.kept {w w' : World} {b N : Nat} {z : Nat → Int} {S : List Nat} (h : Row w b N z) (ho : Only S w w') (hb : b ∉ S) : Row w' b N z :=
  ⟨Nat.lt_of_lt_of_le h.lt ho.size, fun j hj => (ho.cell h.lt hb j).trans (h.cell j hj), fun j hj => (ho.frozen h.lt hb j).trans (h.free j hj), h.b8⟩
theorem Row.congr {w : World} {b N : Nat} {z z' : Nat → Int} (h : Row w b N z) (e : ∀ j, j < N → z j = z' j) : Row w b N z' :=
  ⟨h.lt, fun j hj => by rw [h.cell j hj, e j hj], h.free, fun j hj => by rw [← e j hj]; exact h.b8 j hj⟩
/-- One byte is put. -/
def put1 (z : Nat → Int) (i : Nat) (x : Int) (j : Nat) : Int := if j = i then x else z j
theorem Row.set {w : World} {b N : Nat} {z : Nat → Int} (h : Row w b N z) (i : Nat) (x : Int) (hi : i < N) (hx : B8 x) : Row (w.setCell ⟨b, i, none⟩ (.int .u8 x)) b N (put1 z i x) := by
  have hs : ∀ j, j < N → (w.cell? ⟨b, j, none⟩).isSome = true := fun j hj => by rw [h.cell j hj]; rfl
  refine ⟨by rw [World.size_setCell]; exact h.lt, fun j hj => ?_, fun j hj => ?_, fun j hj => ?_⟩
  · unfold put1
    by_cases e : j = i
    · subst e
      rw [if_pos rfl, World.cell?_setCell_same' _ _ _ (hs j hj)]
    · rw [if_neg e, World.cell?_setCell_other _ _ _ _ (fun x => e (by injection x with _ x; exact x.symm))]
      exact h.cell j hj
  · have := World.there_setCells (w := w) (b' := b) (o' := 0) (n := N) (fun j hj => by rw [Nat.zero_add]; exact ⟨hs j hj, h.free j hj⟩) b i [.int .u8 x] j hj
    rw [Nat.zero_add] at this
    exact this.2
  · unfold put1
    split
    · exact hx
    · exact h.b8 j hj
/-- A memory: its own place, its frames' block, how many there are, the room. -/
structure Mem (w : World) (m F n c : Nat) (z : Nat → Int) : Prop where
  lt : m < w.heap.size
  head : w.cell? ⟨m, 0, none⟩ = some (.slice (some ⟨F, 0, none⟩) n c)
  row : Row w F (256 * n) z
  apart : m ≠ F
  few : n ≤ 1024
theorem Mem.kept {w w' : World} {m F n c : Nat} {z : Nat → Int} {S : List Nat} (h : Mem w m F n c z) (ho : Only S w w') (hm : m ∉ S) (hF : F ∉ S) : Mem w' m F n c z :=
  ⟨Nat.lt_of_lt_of_le h.lt ho.size, (ho.cell h.lt hm 0).trans h.head, h.row.kept ho hF, h.apart, h.few⟩
/-- Its bytes are turned. -/
theorem Mem.with {w w' : World} {m F n c : Nat} {z z' : Nat → Int} {S : List Nat} (h : Mem w m F n c z) (ho : Only S w w') (hm : m ∉ S) (hr : Row w' F (256 * n) z') : Mem w' m F n c z' :=
  ⟨Nat.lt_of_lt_of_le h.lt ho.size, (ho.cell h.lt hm 0).trans h.head, hr, h.apart, h.few⟩

theorem place_any (q r : Nat) (w : World) (hr : r < 256) (hq : 256 * q + r < 4294967296) :
    Calls Tryz.prog 87 #[.int .u32 (256 * (q : Int) + r)] w fun e w' => e = .returned (.tuple #[.int .i64 q, .int .i64 r]) ∧ w = w' := by
  have e1 : (256 * (q : Int) + r) / 256 = q := by omega
  have e2 : (256 * (q : Int) + r) % 256 = r := by omega
  go_enter Tryz.func87, Tryz.ntmps87
  go_wp2
  go_ret2
  exact ⟨rfl, rfl⟩
theorem has_yes (m F n c k : Nat) (w : World) (hh : w.cell? ⟨m, 0, none⟩ = some (.slice (some ⟨F, 0, none⟩) n c)) (hk : k < n) :
    Calls Tryz.prog 47 #[.pointer (some ⟨m, 0, none⟩), .int .i64 k] w fun e w' => e = .returned (.bool true) ∧ w = w' := by
  have h5 : decide (k < n) = true := by simpa using hk
  go_enter Tryz.func47, Tryz.ntmps47
  go_wp2
  go_ret
  exact ⟨rfl, rfl⟩
theorem has_no (m F n c : Nat) (k : Int) (w : World) (hh : w.cell? ⟨m, 0, none⟩ = some (.slice (some ⟨F, 0, none⟩) n c)) (hk : ¬ (0 ≤ k ∧ k < n)) :
    Calls Tryz.prog 47 #[.pointer (some ⟨m, 0, none⟩), .int .i64 k] w fun e w' => e = .returned (.bool false) ∧ w = w' := by
  by_cases h0 : 0 ≤ k
  · have h1 : ¬ k < n := by omega
    have h5 : decide (k < (n : Int)) = false := by simpa using h1
    clear hk
    go_enter Tryz.func47, Tryz.ntmps47
    go_wp2
    go_ret
    exact ⟨rfl, rfl⟩
  · have h5 : decide (0 ≤ k) = false := by simpa using h0
    clear hk
    go_enter Tryz.func47, Tryz.ntmps47
    go_wp2
    go_ret
    exact ⟨rfl, rfl⟩
theorem frames_any (m F n c : Nat) (w : World) (hh : w.cell? ⟨m, 0, none⟩ = some (.slice (some ⟨F, 0, none⟩) n c)) :
    Calls Tryz.prog 96 #[.pointer (some ⟨m, 0, none⟩)] w fun e w' => e = .returned (.int .i64 n) ∧ w = w' := by
  go_enter Tryz.func96, Tryz.ntmps96
  go_wp2
  go_ret
  exact ⟨rfl, rfl⟩
/-- Does a word stand at a place? -/
def hw (n q r : Nat) : Bool := r % 4 == 0 && decide (q < n)
theorem hasWord4 (m F n c q r : Nat) (w : World) (hh : w.cell? ⟨m, 0, none⟩ = some (.slice (some ⟨F, 0, none⟩) n c)) (hr : r < 256) (hq : 256 * q + r < 4294967296) :
    Calls Tryz.prog 86 #[.pointer (some ⟨m, 0, none⟩), .int .u32 (256 * (q : Int) + r)] w fun e w' => e = .returned (.bool (hw n q r)) ∧ w = w' := by
  by_cases h4 : r % 4 = 0
  · have e4 : (256 * (q : Int) + r) % 4 = 0 := by omega
    by_cases hk : q < n
    · have H := Lib.hid (show hw n q r = true by unfold hw; simp [h4, hk])
      clear h4
      go_enter Tryz.func86, Tryz.ntmps86
      go_wp2_with (first | (go_at_call 87; refine (place_any q r _ hr hq).mono ?_; rintro e w' ⟨rfl, rfl⟩) | (go_at_call 47; refine (has_yes m F n c q _ hh hk).mono ?_; rintro e w' ⟨rfl, rfl⟩))
      go_ret
      exact ⟨by rw [H.out]; rfl, rfl⟩
    · have H := Lib.hid (show hw n q r = false by unfold hw; simp [h4, hk])
      clear h4
      go_enter Tryz.func86, Tryz.ntmps86
      go_wp2_with (first | (go_at_call 87; refine (place_any q r _ hr hq).mono ?_; rintro e w' ⟨rfl, rfl⟩) | (go_at_call 47; refine (has_no m F n c q _ hh (by omega)).mono ?_; rintro e w' ⟨rfl, rfl⟩))
      go_ret
      exact ⟨by rw [H.out]; rfl, rfl⟩
  · have e4 : ((256 * (q : Int) + r) % 4 == 0) = false := by simp; omega
    have H := Lib.hid (show hw n q r = false by unfold hw; simp [h4])
    clear h4
    go_enter Tryz.func86, Tryz.ntmps86
    go_wp2_with (go_at_call 87; refine (place_any q r _ hr hq).mono ?_; rintro e w' ⟨rfl, rfl⟩)
    go_ret
    exact ⟨by rw [H.out]; rfl, rfl⟩
end Ph
end Go.Proofs.YtiiggmfindfkfaaGreat
namespace Go.Proofs.YtiiggmfindfkfaaGreat
open Go.RowKit
namespace Ph
theorem hasWord_yes (a : Option Addr) (len cap : Nat) (i : Int) (w : World) (h0 : 0 ≤ i) (h1 : i ≤ len - 4) (hl : len ≤ 9223372036854775807) :
    Calls Tryz.prog 105 #[.slice a len cap, .int .i64 i] w fun e w' => e = .returned (.bool true) ∧ w = w' := by
  have h5 : decide (i ≤ (len : Int) - 4) = true := by simpa using h1
  go_enter Tryz.func105, Tryz.ntmps105
  go_wp2
  go_ret
  exact ⟨rfl, rfl⟩
theorem hasWord_no (a : Option Addr) (len cap : Nat) (i : Int) (w : World) (h : ¬ (0 ≤ i ∧ i ≤ len - 4)) (hl : len ≤ 9223372036854775807) :
    Calls Tryz.prog 105 #[.slice a len cap, .int .i64 i] w fun e w' => e = .returned (.bool false) ∧ w = w' := by
  by_cases h0 : 0 ≤ i
  · have h1 : ¬ i ≤ (len : Int) - 4 := by omega
    have h5 : decide (i ≤ (len : Int) - 4) = false := by simpa using h1
    clear h
    go_enter Tryz.func105, Tryz.ntmps105
    go_wp2
    go_ret
    exact ⟨rfl, rfl⟩
  · have h5 : decide (0 ≤ i) = false := by simpa using h0
    clear h
    go_enter Tryz.func105, Tryz.ntmps105
    go_wp2
    go_ret
    exact ⟨rfl, rfl⟩
theorem get_no (a : Option Addr) (len cap : Nat) (i : Int) (w : World) (h : ¬ (0 ≤ i ∧ i ≤ len - 4)) (hl : len ≤ 9223372036854775807) :
    Calls Tryz.prog 88 #[.slice a len cap, .int .i64 i] w fun e w' => e = .returned (.tuple #[.int .u32 0, .bool false]) ∧ w = w' := by
  go_enter Tryz.func88, Tryz.ntmps88
  go_wp2_with (go_at_call 105; refine (hasWord_no _ _ _ _ _ h hl).mono ?_; rintro e w' ⟨rfl, rfl⟩)
  go_ret2
  exact ⟨rfl, rfl⟩
theorem or_join (a b : Int) (k : Nat) (h0 : 0 ≤ a) (h1 : a < (2 ^ k : Nat)) (h2 : 0 ≤ b) (h3 : b * (2 ^ k : Nat) < 4294967296) (h4 : a < 4294967296) : bits .or .u32 a (b * (2 ^ k : Nat)) = a + b * (2 ^ k : Nat) := by
  obtain ⟨A, rfl⟩ := Int.eq_ofNat_of_zero_le h0
  obtain ⟨B, rfl⟩ := Int.eq_ofNat_of_zero_le h2
  rw [← Int.natCast_mul] at h3 ⊢
  rw [u32_or_nat _ _ (by omega) (by omega), Nat.or_comm, nat_join k (B * 2 ^ k) A (Nat.mul_mod_left _ _) (by omega)]
  omega
/-- The word of four bytes. -/
def word4 (z0 z1 z2 z3 : Int) : Int := z0 + z1 * 256 + z2 * 65536 + z3 * 16777216
theorem word_eq (z0 z1 z2 z3 : Int) (k0 : B8 z0) (k1 : B8 z1) (k2 : B8 z2) (k3 : B8 z3) :
    bits .or .u32 (bits .or .u32 (bits .or .u32 z0 (z1 * 256)) (z2 * 65536)) (z3 * 16777216) = word4 z0 z1 z2 z3 := by
  obtain ⟨a0, b0⟩ := k0; obtain ⟨a1, b1⟩ := k1; obtain ⟨a2, b2⟩ := k2; obtain ⟨a3, b3⟩ := k3
  have e1 : bits .or .u32 z0 (z1 * 256) = z0 + z1 * 256 := or_join z0 z1 8 a0 (by omega) a1 (by omega) (by omega)
  have e2 : bits .or .u32 (z0 + z1 * 256) (z2 * 65536) = z0 + z1 * 256 + z2 * 65536 := or_join _ z2 16 (by omega) (by omega) a2 (by omega) (by omega)
  have e3 : bits .or .u32 (z0 + z1 * 256 + z2 * 65536) (z3 * 16777216) = z0 + z1 * 256 + z2 * 65536 + z3 * 16777216 := or_join _ z3 24 (by omega) (by omega) a3 (by omega) (by omega)
  rw [e1, e2, e3]
  rfl
theorem ret_u32b {a b : Int} {c : Bool} (h : a = b) : Ending.returned (.tuple #[.int .u32 a, .bool c]) = .returned (.tuple #[.int .u32 b, .bool c]) := by rw [h]
theorem get_yes (b off len cap : Nat) (i : Int) (z0 z1 z2 z3 : Int) (w : World) (h0 : 0 ≤ i) (h : i + 4 ≤ len) (hl : len ≤ 9223372036854775807)
    (k0 : B8 z0) (k1 : B8 z1) (k2 : B8 z2) (k3 : B8 z3)
    (c0 : w.cell? ⟨b, off + i.toNat, none⟩ = some (.int .u8 z0)) (c1 : w.cell? ⟨b, off + (i.toNat + 1), none⟩ = some (.int .u8 z1))
    (c2 : w.cell? ⟨b, off + (i.toNat + 2), none⟩ = some (.int .u8 z2)) (c3 : w.cell? ⟨b, off + (i.toNat + 3), none⟩ = some (.int .u8 z3)) :
    Calls Tryz.prog 88 #[.slice (some ⟨b, off, none⟩) len cap, .int .i64 i] w fun e w' => e = .returned (.tuple #[.int .u32 (word4 z0 z1 z2 z3), .bool true]) ∧ ∃ k, w' = w.drewN k := by
  obtain ⟨i, rfl⟩ := Int.eq_ofNat_of_zero_le h0
  rw [Int.toNat_natCast] at c0 c1 c2 c3
  have E := Lib.hid (word_eq z0 z1 z2 z3 k0 k1 k2 k3)
  obtain ⟨a0, b0⟩ := k0; obtain ⟨a1, b1⟩ := k1; obtain ⟨a2, b2⟩ := k2; obtain ⟨a3, b3⟩ := k3
  go_enter Tryz.func88, Tryz.ntmps88
  go_wp2_with (go_at_call 105; refine (hasWord_yes _ _ _ _ _ (by omega) (by omega) hl).mono ?_; rintro e w' ⟨rfl, rfl⟩)
  go_quiet (fail)
  go_wp2
  go_ret2
  exact ⟨ret_u32b E.out, _, rfl⟩
theorem set_no (a : Option Addr) (len cap : Nat) (i x : Int) (w : World) (h : ¬ (0 ≤ i ∧ i ≤ len - 4)) (hl : len ≤ 9223372036854775807) :
    Calls Tryz.prog 91 #[.slice a len cap, .int .i64 i, .int .u32 x] w fun e w' => e = .returned (.bool false) ∧ w = w' := by
  go_enter Tryz.func91, Tryz.ntmps91
  go_wp2_with (go_at_call 105; refine (hasWord_no _ _ _ _ _ h hl).mono ?_; rintro e w' ⟨rfl, rfl⟩)
  go_ret
  exact ⟨rfl, rfl⟩
/-- A world in which a word's bytes were put into a row. -/
def set4 (w : World) (b i : Nat) (x : Int) : World :=
  (((w.setCell ⟨b, i, none⟩ (.int .u8 (x % 256))).setCell ⟨b, i + 1, none⟩ (.int .u8 (x / 256 % 256))).setCell ⟨b, i + 2, none⟩ (.int .u8 (x / 65536 % 256))).setCell ⟨b, i + 3, none⟩ (.int .u8 (x / 16777216))
/-- A word's byte. -/
def byte4 (x : Int) : Nat → Int
  | 0 => x % 256
  | 1 => x / 256 % 256
  | 2 => x / 65536 % 256
  | _ => x / 16777216
/-- A row's values, a word's bytes having been put into it. -/
def put4 (f : Nat → Value) (i : Nat) (x : Int) (j : Nat) : Value := if i ≤ j ∧ j < i + 4 then .int .u8 (byte4 x (j - i)) else f j
theorem set4_row {w : World} {b n i : Nat} {t : TypeId} {f : Nat → Value} (h : w.rowIs b t n f) (x : Int) : (set4 w b i x).rowIs b t n (put4 f i x) := by
  refine ((((h.set i _).set (i + 1) _).set (i + 2) _).set (i + 3) _).congr ?_
  intro j _
  unfold put4
  by_cases h3 : j = i + 3
  · subst h3
    rw [if_pos rfl, if_pos (by omega), show i + 3 - i = 3 by omega]
    rfl
  · rw [if_neg h3]
    by_cases h2 : j = i + 2
    · subst h2
      rw [if_pos rfl, if_pos (by omega), show i + 2 - i = 2 by omega]
      rfl
    · rw [if_neg h2]
      by_cases h1 : j = i + 1
      · subst h1
        rw [if_pos rfl, if_pos (by omega), show i + 1 - i = 1 by omega]
        rfl
      · rw [if_neg h1]
        by_cases h0 : j = i
        · subst h0
          rw [if_pos rfl, if_pos (by omega), Nat.sub_self]
          rfl
        · rw [if_neg h0, if_neg (by omega)]
theorem set4_below {B : Nat} {a w : World} (h : Below B a w) {b : Nat} (hb : B ≤ b) (i : Nat) (x : Int) : Below B a (set4 w b i x) :=
  (((h.setCell hb _).setCell hb _).setCell hb _).setCell hb _
theorem set4_size (w : World) (b i : Nat) (x : Int) : (set4 w b i x).heap.size = w.heap.size := by simp [set4]
theorem set4_other (w : World) (b i k : Nat) (x : Int) (h : k ≠ b) : (set4 w b i x).heap[k]? = w.heap[k]? := by
  unfold set4
  rw [Below.heap_setCell _ _ _ _ h, Below.heap_setCell _ _ _ _ h, Below.heap_setCell _ _ _ _ h, Below.heap_setCell _ _ _ _ h]
theorem info5 : (Tryz.prog.info? 5).map (fun i => (i.zero, i.size, i.bytes)) = some (some (.int .u8 0), 1, 1) := by kernel_rfl
/-- Bytes, as values. -/
def vs (zs : List Int) : List Value := zs.map (Value.int .u8)
/-- A slice that came in reads as a list of bytes. -/
def Reads (w : World) (pa : Option Addr) (n : Nat) (zs : List Int) : Prop :=
  zs.length = n ∧ (0 < n → ∃ b off, pa = some ⟨b, off, none⟩ ∧ ∀ j, j < n → w.cell? ⟨b, off + j, none⟩ = some (.int .u8 (zs.getD j 0)))
theorem add_eq (b off j : Nat) : (⟨b, off, none⟩ : Addr).add j = ⟨b, off + j, none⟩ := by unfold Addr.add; split <;> simp_all
/-- A row's bytes, a word having been put in. -/
def putw (z : Nat → Int) (i : Nat) (x : Int) (j : Nat) : Int := if i ≤ j ∧ j < i + 4 then byte4 x (j - i) else z j
theorem byte4_8 (x : Int) (k : Nat) (x0 : 0 ≤ x) (x1 : x < 4294967296) : B8 (byte4 x k) := by
  unfold B8
  match k with
  | 0 => show 0 ≤ x % 256 ∧ x % 256 < 256; omega
  | 1 => show 0 ≤ x / 256 % 256 ∧ x / 256 % 256 < 256; omega
  | 2 => show 0 ≤ x / 65536 % 256 ∧ x / 65536 % 256 < 256; omega
  | (k + 3) => show 0 ≤ x / 16777216 ∧ x / 16777216 < 256; omega
theorem set4_rowN {w : World} {b N i : Nat} {z : Nat → Int} (h : Row w b N z) (hi : i + 4 ≤ N) (x : Int) (x0 : 0 ≤ x) (x1 : x < 4294967296) : Row (set4 w b i x) b N (putw z i x) := by
  refine ((((h.set i _ (by omega) (byte4_8 x 0 x0 x1)).set (i + 1) _ (by omega) (byte4_8 x 1 x0 x1)).set (i + 2) _ (by omega) (byte4_8 x 2 x0 x1)).set (i + 3) _ (by omega) (byte4_8 x 3 x0 x1)).congr ?_
  intro j _
  unfold putw put1
  by_cases h3 : j = i + 3
  · subst h3
    rw [if_pos rfl, if_pos (by omega), show i + 3 - i = 3 by omega]
  · rw [if_neg h3]
    by_cases h2 : j = i + 2
    · subst h2
      rw [if_pos rfl, if_pos (by omega), show i + 2 - i = 2 by omega]
    · rw [if_neg h2]
      by_cases h1 : j = i + 1
      · subst h1
        rw [if_pos rfl, if_pos (by omega), show i + 1 - i = 1 by omega]
      · rw [if_neg h1]
        by_cases h0 : j = i
        · subst h0
          rw [if_pos rfl, if_pos (by omega), Nat.sub_self]
        · rw [if_neg h0, if_neg (by omega)]
theorem set4_only {S : List Nat} (w : World) {b : Nat} (hb : b ∈ S) (i : Nat) (x : Int) : Only S w (set4 w b i x) :=
  (((Only.setCell _ hb _ _).trans (Only.setCell _ hb _ _)).trans (Only.setCell _ hb _ _)).trans (Only.setCell _ hb _ _)
theorem set_off (b off len cap N i : Nat) (z : Nat → Int) (x : Int) (w : World) (hrow : Row w b N z) (h : i + 4 ≤ len) (hn : off + len ≤ N) (hl : len ≤ 9223372036854775807) (x0 : 0 ≤ x) (x1 : x < 4294967296) :
    Calls Tryz.prog 91 #[.slice (some ⟨b, off, none⟩) len cap, .int .i64 i, .int .u32 x] w fun e w' => e = .returned (.bool true) ∧ w' = set4 w b (off + i) x := by
  have c0 := hrow.cell (off + i) (by omega)
  have c1 := hrow.cell (off + (i + 1)) (by omega)
  have c2 := hrow.cell (off + (i + 2)) (by omega)
  have c3 := hrow.cell (off + (i + 3)) (by omega)
  have f0 := hrow.free (off + i) (by omega)
  have f1 := hrow.free (off + (i + 1)) (by omega)
  have f2 := hrow.free (off + (i + 2)) (by omega)
  have f3 := hrow.free (off + (i + 3)) (by omega)
  clear hrow
  go_enter Tryz.func91, Tryz.ntmps91
  go_wp2_with (go_at_call 105; refine (hasWord_yes _ _ _ _ _ (by omega) (by omega) hl).mono ?_; rintro e w' ⟨rfl, rfl⟩)
  go_ret
  exact ⟨rfl, rfl⟩
/-- Are two rows of bytes the same, as far as n goes? -/
def eqN (n : Nat) (z z' : Nat → Int) : Bool := decide (∀ j, j < n → z j = z' j)
theorem eqN_yes {n : Nat} {z z' : Nat → Int} (h : ∀ j, j < n → z j = z' j) : eqN n z z' = true := by unfold eqN; simpa using h
theorem eqN_no {n : Nat} {z z' : Nat → Int} (j : Nat) (hj : j < n) (h : z j ≠ z' j) : eqN n z z' = false := by
  unfold eqN
  rw [decide_eq_false_iff_not]
  exact fun x => h (x j hj)
/-- A slice of integers reads as a list. -/
def ReadsI (w : World) (pa : Option Addr) (l : List Nat) : Prop := 0 < l.length → ∃ b off, pa = some ⟨b, off, none⟩ ∧ ∀ j, j < l.length → w.cell? ⟨b, off + j, none⟩ = some (.int .i64 (l.getD j 0 : Nat))
end Ph
end Go.Proofs.YtiiggmfindfkfaaGreat
namespace Go.Proofs.YtiiggmfindfkfaaGreat
open Go.RowKit
namespace Ph

/-! ### Plain functions of a memory's bytes -/
/-- Is there a byte? -/
def inB (n a : Nat) : Bool := decide (a < 256 * n)
/-- Does a word stand there? -/
def hwA (n a : Nat) : Bool := a % 4 == 0 && decide (a < 256 * n)
def rd (n : Nat) (z : Nat → Int) (a : Nat) : Int := if inB n a = true then z a else 0
def rdw (n : Nat) (z : Nat → Int) (a : Nat) : Int := if hwA n a = true then word4 (z a) (z (a + 1)) (z (a + 2)) (z (a + 3)) else 0
def pb (n : Nat) (z : Nat → Int) (a : Nat) (x : Int) : Nat → Int := if inB n a = true then put1 z a x else z
def pw (n : Nat) (z : Nat → Int) (a : Nat) (x : Int) : Nat → Int := if hwA n a = true then putw z a x else z
theorem hw_eq (n q r : Nat) (hr : r < 256) : hw n q r = hwA n (256 * q + r) := by
  unfold hw hwA
  rw [show (256 * q + r) % 4 = r % 4 by omega, show decide (256 * q + r < 256 * n) = decide (q < n) by rw [decide_eq_decide]; omega]
theorem inB_eq (n q r : Nat) (hr : r < 256) : inB n (256 * q + r) = decide (q < n) := by
  unfold inB
  rw [decide_eq_decide]; omega
theorem split_addr (a : Nat) : ∃ q r, r < 256 ∧ a = 256 * q + r := ⟨a / 256, a % 256, by omega, by omega⟩

theorem word_no (m F n c q r : Nat) (z : Nat → Int) (w : World) (hM : Mem w m F n c z) (hr : r < 256) (hq : 256 * q + r < 4294967296) (hk : hw n q r = false) :
    Calls Tryz.prog 49 #[.pointer (some ⟨m, 0, none⟩), .int .u32 (256 * (q : Int) + r)] w fun e w' => e = .returned (.tuple #[.int .u32 0, .bool false]) ∧ ∃ k, w' = w.drewN k := by
  have hh := hM.head
  go_enter Tryz.func49, Tryz.ntmps49
  go_wp2_with (go_at_call 86; refine (hasWord4 m F n c q r _ hh hr hq).mono ?_; rintro e w' ⟨rfl, rfl⟩)
  go_ret2
  exact ⟨rfl, 0, rfl⟩
theorem hw_true {n q r : Nat} (h : hw n q r = true) : r % 4 = 0 ∧ q < n := by
  unfold hw at h
  simpa using h
theorem word_yes (m F n c q r : Nat) (z : Nat → Int) (w : World) (hM : Mem w m F n c z) (hr : r < 256) (hk : hw n q r = true) :
    Calls Tryz.prog 49 #[.pointer (some ⟨m, 0, none⟩), .int .u32 (256 * (q : Int) + r)] w fun e w' => e = .returned (.tuple #[.int .u32 (word4 (z (256 * q + r)) (z (256 * q + r + 1)) (z (256 * q + r + 2)) (z (256 * q + r + 3))), .bool true]) ∧ ∃ k, w' = w.drewN k := by
  obtain ⟨h4, hq⟩ := hw_true hk
  have hf := hM.few
  have hh := hM.head
  have hR := Lib.hid hM.row
  have H4 := Lib.hid h4
  clear h4
  go_enter Tryz.func49, Tryz.ntmps49
  go_wp2_with (first | (go_at_call 86; refine (hasWord4 m F n c q r _ hh hr (by omega)).mono ?_; rintro e w' ⟨rfl, rfl⟩) | (go_at_call 87; refine (place_any q r _ hr (by omega)).mono ?_; rintro e w' ⟨rfl, rfl⟩) | (go_at_call 88; refine (get_yes F (q * 256) 256 256 r (z (256 * q + r)) (z (256 * q + r + 1)) (z (256 * q + r + 2)) (z (256 * q + r + 3)) _ (by omega) (by have := H4.out; omega) (by omega) (hR.out.b8 _ (by omega)) (hR.out.b8 _ (by have := H4.out; omega)) (hR.out.b8 _ (by have := H4.out; omega)) (hR.out.b8 _ (by have := H4.out; omega)) (by rw [Int.toNat_natCast, Nat.mul_comm q]; exact hR.out.cell _ (by omega)) (by rw [Int.toNat_natCast, Nat.mul_comm q]; exact hR.out.cell (256 * q + r + 1) (by have := H4.out; omega)) (by rw [Int.toNat_natCast, Nat.mul_comm q]; exact hR.out.cell (256 * q + r + 2) (by have := H4.out; omega)) (by rw [Int.toNat_natCast, Nat.mul_comm q]; exact hR.out.cell (256 * q + r + 3) (by have := H4.out; omega))).mono ?_; rintro e w' ⟨rfl, kk, rfl⟩))
  go_ret2
  exact ⟨rfl, _, rfl⟩
theorem word_any (m F n c a : Nat) (z : Nat → Int) (w : World) (hM : Mem w m F n c z) (ha : a < 4294967296) :
    Calls Tryz.prog 49 #[.pointer (some ⟨m, 0, none⟩), .int .u32 a] w fun e w' => e = .returned (.tuple #[.int .u32 (rdw n z a), .bool (hwA n a)]) ∧ ∃ k, w' = w.drewN k := by
  obtain ⟨q, r, hr, rfl⟩ := split_addr a
  have ec : ((256 * q + r : Nat) : Int) = 256 * (q : Int) + r := by omega
  rw [ec]
  unfold rdw
  rw [← hw_eq n q r hr]
  cases hk : hw n q r
  · exact word_no m F n c q r z w hM hr ha hk
  · exact word_yes m F n c q r z w hM hr hk
/-- How a call that changes a memory's bytes ends. -/
def PutEnd (v : Value) (m F n c : Nat) (z' : Nat → Int) (w : World) (e : Ending) (w' : World) : Prop := e = .returned v ∧ Mem w' m F n c z' ∧ Only [F] w w'
theorem putWord_no (m F n c q r : Nat) (z : Nat → Int) (x : Int) (w : World) (hM : Mem w m F n c z) (hr : r < 256) (hq : 256 * q + r < 4294967296) (hk : hw n q r = false) :
    Calls Tryz.prog 51 #[.pointer (some ⟨m, 0, none⟩), .int .u32 (256 * (q : Int) + r), .int .u32 x] w fun e w' => e = .returned (.bool false) ∧ w = w' := by
  have hh := hM.head
  go_enter Tryz.func51, Tryz.ntmps51
  go_wp2_with (go_at_call 86; refine (hasWord4 m F n c q r _ hh hr hq).mono ?_; rintro e w' ⟨rfl, rfl⟩)
  go_ret
  exact ⟨rfl, rfl⟩
theorem putWord_yes (m F n c q r : Nat) (z : Nat → Int) (x : Int) (w : World) (hM : Mem w m F n c z) (hr : r < 256) (hk : hw n q r = true) (x0 : 0 ≤ x) (x1 : x < 4294967296) :
    Calls Tryz.prog 51 #[.pointer (some ⟨m, 0, none⟩), .int .u32 (256 * (q : Int) + r), .int .u32 x] w fun e w' => e = .returned (.bool true) ∧ w' = set4 w F (q * 256 + r) x := by
  obtain ⟨h4, hq⟩ := hw_true hk
  have hf := hM.few
  have hh := hM.head
  have hR := Lib.hid hM.row
  have H4 := Lib.hid h4
  clear h4
  go_enter Tryz.func51, Tryz.ntmps51
  go_wp2_with (first | (go_at_call 86; refine (hasWord4 m F n c q r _ hh hr (by omega)).mono ?_; rintro e w' ⟨rfl, rfl⟩) | (go_at_call 87; refine (place_any q r _ hr (by omega)).mono ?_; rintro e w' ⟨rfl, rfl⟩) | (go_at_call 91; refine (set_off F (q * 256) 256 256 (256 * n) r z x _ hR.out (by have := H4.out; omega) (by omega) (by omega) x0 x1).mono ?_; rintro e w' ⟨rfl, rfl⟩))
  go_ret
  exact ⟨rfl, rfl⟩
theorem putWord_any (m F n c a : Nat) (z : Nat → Int) (x : Int) (w : World) (hM : Mem w m F n c z) (ha : a < 4294967296) (x0 : 0 ≤ x) (x1 : x < 4294967296) :
    Calls Tryz.prog 51 #[.pointer (some ⟨m, 0, none⟩), .int .u32 a, .int .u32 x] w (PutEnd (.bool (hwA n a)) m F n c (pw n z a x) w) := by
  obtain ⟨q, r, hr, rfl⟩ := split_addr a
  have ec : ((256 * q + r : Nat) : Int) = 256 * (q : Int) + r := by omega
  rw [ec]
  unfold pw
  rw [← hw_eq n q r hr]
  have hmF := hM.apart
  cases hk : hw n q r
  · refine (putWord_no m F n c q r z x w hM hr ha hk).mono ?_
    rintro e w' ⟨rfl, rfl⟩
    exact ⟨rfl, hM, Only.refl _ _⟩
  · refine (putWord_yes m F n c q r z x w hM hr hk x0 x1).mono ?_
    rintro e w' ⟨rfl, rfl⟩
    obtain ⟨h4, hq⟩ := hw_true hk
    have ho := set4_only (S := [F]) w (List.mem_singleton.2 rfl) (q * 256 + r) x
    rw [if_pos rfl, ← Nat.mul_comm q]
    exact ⟨rfl, hM.with ho (by simpa using hmF) (set4_rowN hM.row (by omega) x x0 x1), ho⟩
end Ph
end Go.Proofs.YtiiggmfindfkfaaGreat
namespace Go.Proofs.YtiiggmfindfkfaaGreat
open Go.RowKit
namespace Ph
/-- A frame of noughts. -/
def zeroL : List Value := List.replicate 256 (.int .u8 0)
theorem infoF : (Tryz.prog.info? 86).map (fun i => (i.zero, i.size, i.bytes)) = some (some (.agg zeroL.toArray), 256, 256) := by kernel_rfl
theorem zeroL_len : zeroL.length = 256 := by unfold zeroL; exact List.length_replicate
theorem zeroL_at (j : Nat) (h : j < 256) : zeroL[j]? = some (.int .u8 0) := by unfold zeroL; rw [List.getElem?_replicate, if_pos h]
theorem made_frames (n : Nat) (wx : World) (hn : n ≤ 1024) :
    (Instr.makeSlice 83 (.int .i64 (n : Int)) (.int .i64 (n : Int))).run Tryz.prog wx = .ok (.slice (some ⟨wx.heap.size, 0, none⟩) n n) (wx.alloc (.cells (madeCells zeroL.toArray (n * 256)) 86)) := by
  obtain ⟨i, hi, hz0, hz1, hz2⟩ := info_parts infoF
  have hr := run_make (P := Tryz.prog) wx 83 86 i _ Tryz.underlying83 hi hz0 .i64 .i64 n n (by omega) (Int.le_refl _) (by rw [hz2]; omega) (by omega)
  simp only [Int.toNat_natCast, hz1] at hr
  exact hr
theorem made_row (n : Nat) (w : World) : Row (w.alloc (.cells (madeCells zeroL.toArray (n * 256)) 86)) w.heap.size (256 * n) (fun _ => 0) := by
  refine ⟨by simp, fun j hj => ?_, fun j hj => World.frozen?_alloc_new w _ _ _, fun j hj => ⟨by decide, by decide⟩⟩
  rw [World.cell?_alloc_new]
  unfold madeCells
  rw [Array.getElem?_map, Array.getElem?_range, if_pos (by omega)]
  have e : zeroL.toArray.size = 256 := by rw [List.size_toArray, zeroL_len]
  have := zeroL_at (j % 256) (by omega)
  simp only [Option.map_some, e]
  rw [getElem!_def, List.getElem?_toArray, this]
theorem new_run (n : Nat) (w : World) (h1 : 1 ≤ n) (hn : n ≤ 1024) :
    Calls Tryz.prog 29 #[.int .i64 n] w fun e w' => e = .returned (.tuple #[.pointer (some ⟨w.heap.size + 1, 0, none⟩), .int .i64 0]) ∧
      w' = (w.alloc (.cells (madeCells zeroL.toArray (n * 256)) 86)).alloc (.cells #[.slice (some ⟨w.heap.size, 0, none⟩) n n] 88) := by
  have d1 : decide ((n : Int) < 1) = false := by simp; omega
  have d2 : decide ((1024 : Int) < (n : Int)) = false := by simp; omega
  have hmk := fun wx => made_frames n wx hn
  go_enter Tryz.func29, Tryz.ntmps29
  go_wp2
  go_ret2
  exact ⟨rfl, rfl⟩
theorem new_no (n : Int) (w : World) (h : n < 1 ∨ 1024 < n) :
    Calls Tryz.prog 29 #[.int .i64 n] w fun e w' => e = .returned (.tuple #[.pointer none, .int .i64 11]) ∧ w = w' := by
  by_cases h1 : n < 1
  · have d1 : decide (n < 1) = true := by simpa using h1
    clear h
    go_enter Tryz.func29, Tryz.ntmps29
    go_wp2
    go_ret2
    exact ⟨rfl, rfl⟩
  · have d1 : decide (n < 1) = false := by simpa using h1
    have d2 : decide (1024 < n) = true := by simp; omega
    clear h
    go_enter Tryz.func29, Tryz.ntmps29
    go_wp2
    go_ret2
    exact ⟨rfl, rfl⟩
/-- How a call that makes a memory ends. -/
def NewEnd (n : Nat) (z : Nat → Int) (w : World) (f : Value → Value) (e : Ending) (w' : World) : Prop :=
  ∃ m F c, e = .returned (f (.pointer (some ⟨m, 0, none⟩))) ∧ Mem w' m F n c z ∧ Only [] w w' ∧ w.heap.size ≤ m ∧ w.heap.size ≤ F
theorem new_any (n : Nat) (w : World) (h1 : 1 ≤ n) (hn : n ≤ 1024) :
    Calls Tryz.prog 29 #[.int .i64 n] w (NewEnd n (fun _ => 0) w (fun p => .tuple #[p, .int .i64 0])) := by
  refine (new_run n w h1 hn).mono ?_
  rintro e w' ⟨rfl, rfl⟩
  have hr := made_row n w
  have ho := Only.alloc [] w (.cells (madeCells zeroL.toArray (n * 256)) 86)
  refine ⟨w.heap.size + 1, w.heap.size, n, rfl, ⟨by simp, ?_, hr.kept (Only.alloc [] _ _) (by simp), by omega, hn⟩, ho.trans (Only.alloc _ _ _), by omega, Nat.le_refl _⟩
  simp
/-- Bytes as values. -/
def vsN (N : Nat) (z : Nat → Int) : List Value := (List.range N).map (fun j => Value.int .u8 (z j))
theorem vsN_len (N : Nat) (z : Nat → Int) : (vsN N z).length = N := by unfold vsN; simp
theorem vsN_at (N : Nat) (z : Nat → Int) (j : Nat) (h : j < N) : (vsN N z)[j]? = some (.int .u8 (z j)) := by unfold vsN; simp [h]
theorem vsN_one (N : Nat) (z : Nat → Int) : ∀ u ∈ vsN N z, u.oneCell' = true := by
  unfold vsN
  intro u hu
  simp at hu
  obtain ⟨j, _, rfl⟩ := hu
  rfl
theorem vsN_news {w : World} {b off N : Nat} {z : Nat → Int} (h : ∀ j, j < N → w.cell? ⟨b, off + j, none⟩ = some (.int .u8 (z j))) : ∀ j u, (vsN N z)[j]? = some u → w.cell? ((⟨b, off, none⟩ : Addr).add j) = some u := by
  intro j u hu
  have hj : j < N := by
    rcases Nat.lt_or_ge j N with h | h
    · exact h
    · rw [List.getElem?_eq_none (by rw [vsN_len]; exact h)] at hu
      cases hu
  rw [add_eq, h j hj, ← hu, vsN_at _ _ _ hj]
theorem own_row {w : World} {base n c g size : Nat} {t : TypeId} {N : Nat} {z : Nat → Int} (h : w.ownsRow base t size (.slice (some ⟨g, 0, none⟩) n c) n (vsN N z)) (hN : N = n * size) (h8 : ∀ j, j < N → B8 (z j)) : Row w g N z ∧ base ≤ g := by
  obtain ⟨h1, h2⟩ := h
  rcases h2 with ⟨h2, _⟩ | ⟨g2, cap, cur, hv, hg, hb2, hnc, hm, hs, ht⟩
  · cases h2
  · injection hv with e1 e2 e3
    injection e1 with e1
    injection e1 with e1
    subst e1 e3
    refine ⟨⟨?_, fun j hj => ?_, fun j hj => ?_, h8⟩, hg⟩
    · obtain ⟨hlt, _⟩ := Array.getElem?_eq_some_iff.1 hb2
      exact hlt
    · have : w.cell? ⟨g, j, none⟩ = cur[j]? := by simp [World.cell?, hb2]
      rw [this, ← Array.getElem?_toList, ← List.getElem?_take_of_lt (show j < n * size by omega), ht, vsN_at _ _ _ hj]
    · simp [World.frozen?, hb2]
/-- How a copy of bytes ends. -/
def CopyEnd (n : Nat) (z : Nat → Int) (w : World) (e : Ending) (w' : World) : Prop :=
  ∃ g c, e = .returned (.slice (some ⟨g, 0, none⟩) n c) ∧ Row w' g n z ∧ Only [] w w' ∧ w.heap.size ≤ g
theorem not_nil (wx : World) (x : Addr) (n cap : Nat) (t e : TypeId) (hu : Tryz.prog.underlying t = some (.slice e)) : (binOp .eql t (.slice (some x) n cap) (.slice none 0 0)).run Tryz.prog wx = .ok (.bool false) wx :=
  Lib.run_eql_slice_nil (P := Tryz.prog) wx t e (some x) n cap 0 0 hu
/-- A slice of bytes reads so. -/
def Rd (w : World) (pa : Option Addr) (n : Nat) (z : Nat → Int) : Prop :=
  (0 < n → ∃ b off, pa = some ⟨b, off, none⟩ ∧ ∀ j, j < n → w.cell? ⟨b, off + j, none⟩ = some (.int .u8 (z j))) ∧ ∀ j, j < n → B8 (z j)
/-- How a reading of a frame ends. -/
def FrameEnd (z : Nat → Int) (w : World) (e : Ending) (w' : World) : Prop :=
  ∃ g c, e = .returned (.tuple #[.slice (some ⟨g, 0, none⟩) 256 c, .int .i64 0]) ∧ Row w' g 256 z ∧ Only [] w w' ∧ w.heap.size ≤ g
end Ph
end Go.Proofs.YtiiggmfindfkfaaGreat
namespace Go.Proofs.YtiiggmfindfkfaaGreat
open Go.RowKit
namespace Ph
/-- A region that draws its order: all reads, in the text's order, in a world of which we know enough; then what writes. -/
theorem still_tail {id : Nat} {Q : Exit → Act → World → Prop} {a : Act} {w : World} {l : List Oper} {S : World → Prop} (n : Nat) (hm : Tryz.prog.follows .mixedOrders = true) (hB : Region.lexTailB .any l.toArray n = true) (hS : S w.drew)
    (h : ∀ w', S w' → wpStill Tryz.prog l.toArray w' (fun a' => wpList Tryz.prog l.toArray Q (l.drop n) a' w') (l.take n) a) : (Code.region id l.toArray true).wp Tryz.prog Q a w :=
  wp_region_still_tail n hm hB (h w.drew hS)
theorem still_load {t : TypeId} {d : TypeDesc} {w : World} {ops : Array Oper} {rest : List Oper} {op : Oper} {a : Act} {Q : Act → Prop} (x : Operand) (b o : Nat) (l : List Value) (hu : Tryz.prog.underlying t = some d) (hd : d.isRow = true) (hi : (Tryz.prog.info? t).map (·.size) = some l.length)
    (hg : op.guard = none) (ho : op.op = .load t x) (hx : a.eval x = .pointer (some ⟨b, o, none⟩)) (hb : w.rangeAt b o l)
    (h : wpStill Tryz.prog ops w Q rest (a.put op.dst (.agg l.toArray))) : wpStill Tryz.prog ops w Q (op :: rest) a := by
  refine wpStill_step (fun K hK => ?_)
  have hw : Region.wanted op (yielded ops a.tmps) = true := by simp [Region.wanted, hg]
  rw [if_pos hw]
  unfold Oper.still execOp
  simp only [ho, hx, Instr.loadAt, Instr.sureAddr, Sem.run_bind, Sem.run_pure, Result.andThen_ok, run_loadVar_mid _ b o t l d hb hu hd hi]
  exact ⟨rfl, hK _ h⟩
theorem cloneF_any (F n cap : Nat) (z : Nat → Int) (w : World) (hn : 0 < n) (h2 : n ≤ 1024) (hR : Row w F (256 * n) z) :
    Calls Tryz.prog 44 #[.slice (some ⟨F, 0, none⟩) n cap] w fun e w' => ∃ g c, e = .returned (.slice (some ⟨g, 0, none⟩) n c) ∧ Row w' g (256 * n) z ∧ Only [] w w' ∧ w.heap.size ≤ g := by
  obtain ⟨i0, hi, hz0, hz1, hz2⟩ := info_parts infoF
  have hq := fun wx => not_nil wx ⟨F, 0, none⟩ n cap 83 _ Tryz.underlying83
  go_enter Tryz.func44, Tryz.ntmps44
  have own0 : (w.alloc (.cells #[] 86)).ownsRow w.heap.size 86 256 (.slice (some ⟨w.heap.size, 0, none⟩) 0 0) 0 [] :=
    World.ownsRow_lit w #[] 0 (Nat.le_refl _) (by decide) rfl
  have news : ∀ j u, (vsN (256 * n) z)[j]? = some u → (w.alloc (.cells #[] 86)).cell? ((⟨F, 0, none⟩ : Addr).add j) = some u :=
    vsN_news (fun j hj => by rw [World.cell?_alloc_past _ _ _ hR.lt, Nat.zero_add]; exact hR.cell j hj)
  have zl : (Value.agg zeroL.toArray).cells.size = 256 := by show zeroL.toArray.size = 256; rw [List.size_toArray, zeroL_len]
  have O := Lib.hid own0
  have NW := Lib.hid news
  have H8 := Lib.hid hR.b8
  have ZL := Lib.hid zl
  have Z0 := Lib.hid hz0
  clear own0 news hR zl hz0
  go_wp2_with (at_builtin; refine wpList_append_lies _ rfl (.tmp 5) (.tmp 6) 83 rfl w.heap.size 86 i0 (.agg zeroL.toArray) 256 256 Tryz.underlying83 hi Z0.out hz1 hz2 ZL.out (by decide) (.slice (some ⟨w.heap.size, 0, none⟩) 0 0) 0 [] rfl O.out ⟨F, 0, none⟩ n cap (vsN (256 * n) z) rfl (by rw [vsN_len, Nat.mul_comm]) NW.out (vsN_one _ _) hn (by unfold maxLen; omega) (by omega) (by simp) _ rfl ?_; intro g c w1 hown hgrow hat hlt)
  have own1 := Lib.hid hown
  have gr := Lib.hid hgrow
  clear hown hgrow hat
  simp only [Nat.zero_add, List.nil_append] at own1
  obtain ⟨hr, hg⟩ := own_row own1.out (Nat.mul_comm 256 n) H8.out
  refine bodyPost_ret (v := .slice (some ⟨g, 0, none⟩) n c) (by simp [results, Tryz.results44]) rfl ⟨g, c, rfl, hr, Only.of ?_ _, hg⟩
  exact ((Below.refl _ _).alloc (Nat.le_refl _) _).grown gr.out (by simp) (by intro k hk; simp [Value.ownBlock] at hk; omega)
theorem clone_any (m F n c : Nat) (z : Nat → Int) (w : World) (hM : Mem w m F n c z) (hn : 0 < n) :
    Calls Tryz.prog 12 #[.pointer (some ⟨m, 0, none⟩)] w (NewEnd n z w (fun p => p)) := by
  have hf := hM.few
  have hh := hM.head
  have hR := Lib.hid hM.row
  clear hM
  go_enter Tryz.func12, Tryz.ntmps12
  go_wp2_with (go_at_call 44; refine (cloneF_any F n c z _ hn hf hR.out).mono ?_; rintro e w' ⟨g, cc, rfl, hg1, hg2, hg3⟩)
  go_ret
  have hlt := hg1.lt
  refine ⟨w'.heap.size, g, cc, rfl, ⟨by simp, by simp, hg1.kept (Only.alloc [] _ _) (by simp), by omega, hf⟩, hg2.trans (Only.alloc _ _ _), hg2.size, hg3⟩
theorem zeroF (w : World) : (zeroValue 86).run Tryz.prog w = .ok (.agg zeroL.toArray) w := by
  obtain ⟨i0, hi, hz0, hz1, hz2⟩ := info_parts infoF
  simp [zeroValue, typeInfo, hi, hz0]
/-- A frame's bytes are these, and noughts behind. -/
def fz (n : Nat) (y : Nat → Int) (j : Nat) : Int := if j < n then y j else 0
/-- A memory's bytes, a frame having been filled. -/
def fillz (z : Nat → Int) (k n : Nat) (y : Nat → Int) (j : Nat) : Int := if 256 * k ≤ j ∧ j < 256 * k + 256 then fz n y (j - 256 * k) else z j
theorem splice_fz (n : Nat) (y : Nat → Int) (hn : n ≤ 256) : splice zeroL 0 (vsN n y) = vsN 256 (fz n y) := by
  apply List.ext_getElem?
  intro j
  unfold splice
  rw [List.take_zero, List.nil_append, Nat.zero_add, vsN_len]
  by_cases h1 : j < n
  · rw [List.getElem?_append_left (by rw [vsN_len]; exact h1), vsN_at _ _ _ h1, vsN_at _ _ _ (by omega)]
    unfold fz
    rw [if_pos h1]
  · rw [List.getElem?_append_right (by rw [vsN_len]; omega), vsN_len, List.getElem?_drop, show n + (j - n) = j by omega]
    by_cases h2 : j < 256
    · rw [zeroL_at _ h2, vsN_at _ _ _ h2]
      unfold fz
      rw [if_neg h1]
    · rw [List.getElem?_eq_none (by rw [zeroL_len]; omega), List.getElem?_eq_none (by rw [vsN_len]; omega)]
theorem setC_size (b : Nat) : ∀ (vs : List Value) (o : Nat) (w : World), (w.setCells b o vs).heap.size = w.heap.size
  | [], _, _ => rfl
  | v :: vs, o, w => by rw [World.setCells, setC_size b vs (o + 1)]; simp
theorem setC_only {S : List Nat} {b : Nat} (hb : b ∈ S) : ∀ (vs : List Value) (o : Nat) (w : World), Only S w (w.setCells b o vs)
  | [], _, _ => Only.refl _ _
  | v :: vs, o, w => (Only.setCell w hb o v).trans (setC_only hb vs (o + 1) (w.setCell ⟨b, o, none⟩ v))
theorem Row.thereAt {w : World} {b N : Nat} {z : Nat → Int} (h : Row w b N z) (o n : Nat) (hn : o + n ≤ N) : w.there b o n := fun j hj => ⟨by rw [h.cell _ (by omega)]; rfl, h.free _ (by omega)⟩
theorem Row.rangeOf {w : World} {b N : Nat} {z : Nat → Int} (h : Row w b N z) (o n : Nat) (hn : o + n ≤ N) : w.rangeAt b o (vsN n (fun j => z (o + j))) := by
  intro j v hv
  have hj : j < n := by
    rcases Nat.lt_or_ge j n with h | h
    · exact h
    · rw [List.getElem?_eq_none (by rw [vsN_len]; exact h)] at hv
      cases hv
  rw [vsN_at _ _ _ hj] at hv
  rw [h.cell _ (by omega), ← hv]
theorem Row.filled {w : World} {F n k l : Nat} {z y : Nat → Int} (h : Row w F (256 * n) z) (hk : k < n) (h8 : ∀ j, j < l → B8 (y j)) : Row (w.setCells F (k * 256) (vsN 256 (fz l y))) F (256 * n) (fillz z k l y) := by
  have ht := h.thereAt (k * 256) 256 (by omega)
  have f8 : ∀ j, B8 (fz l y j) := fun j => by
    unfold fz
    split
    · exact h8 _ (by assumption)
    · exact ⟨by decide, by decide⟩
  refine ⟨by rw [setC_size]; exact h.lt, fun j hj => ?_, fun j hj => ?_, fun j hj => ?_⟩
  · unfold fillz
    by_cases hc : 256 * k ≤ j ∧ j < 256 * k + 256
    · rw [if_pos hc]
      have := World.rangeAt_setCells_same w F (k * 256) (vsN 256 (fz l y)) (by rw [vsN_len]; exact ht) (j - 256 * k) _ (vsN_at 256 (fz l y) _ (by omega))
      rwa [show k * 256 + (j - 256 * k) = j by omega] at this
    · rw [if_neg hc]
      have := World.rangeAt_setCells_apart (w := w) (b' := F) (o' := j) (cs := [.int .u8 (z j)]) (fun i v hv => by
        match i, hv with
        | 0, hv => rw [Nat.add_zero, h.cell j hj]; simpa using hv) F (k * 256) (vsN 256 (fz l y)) (by rw [vsN_len]; right; simp only [List.length_singleton]; omega) 0 _ rfl
      simpa using this
  · have := World.there_setCells (w := w) (b' := F) (o' := 0) (n := 256 * n) (fun j hj => by rw [Nat.zero_add]; exact ⟨by rw [h.cell j hj]; rfl, h.free j hj⟩) F (k * 256) (vsN 256 (fz l y)) j hj
    rw [Nat.zero_add] at this
    exact this.2
  · unfold fillz
    split
    · exact f8 _
    · exact h.b8 j hj
theorem fill_no (m F n c : Nat) (z : Nat → Int) (k : Int) (pb : Option Addr) (l cb : Nat) (w : World) (hM : Mem w m F n c z) (hk : ¬ (0 ≤ k ∧ k < n)) :
    Calls Tryz.prog 48 #[.pointer (some ⟨m, 0, none⟩), .int .i64 k, .slice pb l cb] w fun e w' => e = .returned (.int .i64 11) ∧ w = w' := by
  have hh := hM.head
  have HK := Lib.hid hk
  clear hk
  go_enter Tryz.func48, Tryz.ntmps48
  go_wp2_with (go_at_call 47; refine (has_no m F n c k _ hh HK.out).mono ?_; rintro e w' ⟨rfl, rfl⟩)
  go_ret
  exact ⟨rfl, rfl⟩
theorem fill_many (m F n c k : Nat) (z : Nat → Int) (pb : Option Addr) (l cb : Nat) (w : World) (hM : Mem w m F n c z) (hk : k < n) (hl : 256 < l) :
    Calls Tryz.prog 48 #[.pointer (some ⟨m, 0, none⟩), .int .i64 k, .slice pb l cb] w fun e w' => e = .returned (.int .i64 14) ∧ w = w' := by
  have hh := hM.head
  have d1 : decide ((256 : Int) < (l : Int)) = true := by simp; omega
  go_enter Tryz.func48, Tryz.ntmps48
  go_wp2_with (go_at_call 47; refine (has_yes m F n c k _ hh hk).mono ?_; rintro e w' ⟨rfl, rfl⟩)
  go_ret
  exact ⟨rfl, rfl⟩
set_option maxRecDepth 100000 in
theorem fill_yes (m F n c k : Nat) (z y : Nat → Int) (pb : Option Addr) (l cb : Nat) (w : World) (hM : Mem w m F n c z) (hk : k < n) (hl : l ≤ 256) (hy : Rd w pb l y) :
    Calls Tryz.prog 48 #[.pointer (some ⟨m, 0, none⟩), .int .i64 k, .slice pb l cb] w (PutEnd (.int .i64 0) m F n c (fillz z k l y) w) := by
  have hh := hM.head
  have hf := hM.few
  have HM := Lib.hid hM
  have d1 : decide ((256 : Int) < (l : Int)) = false := by simp; omega
  have HY := Lib.hid hy
  have hzv := zeroF
  clear hM hy
  have HS : Hid (0 < (vsN l y).length → ∃ ad, pb = some ad ∧ ∀ j v, (vsN l y)[j]? = some v → (w.alloc (.cells zeroL.toArray 86)).cell? (ad.add j) = some v) := fun h0 => by
    rw [vsN_len] at h0
    obtain ⟨b, off, e, hc⟩ := HY.out.1 h0
    exact ⟨_, e, vsN_news (fun j hj => by rw [World.cell?_alloc_past _ _ _ (World.block_lt_of_cell? w _ (hc j hj))]; exact hc j hj)⟩
  have HZ : Hid ((w.alloc (.cells zeroL.toArray 86)).heap[w.heap.size]? = some (.cells zeroL.toArray 86 (0, 0))) := heap_alloc_new w _
  go_enter Tryz.func48, Tryz.ntmps48
  go_wp2_with (first | (go_at_call 47; refine (has_yes m F n c k _ hh hk).mono ?_; rintro e w' ⟨rfl, rfl⟩) | (with_reducible (show wpList _ _ _ (⟨some 17, _, _, _, _, _⟩ :: _) _ _); refine wpList_copy_splice rfl (.tmp 15) (.tmp 16) 131 131 rfl 5 Tryz.underlying131 (by kernel_rfl) (some ⟨w.heap.size, 0, none⟩) pb 256 256 l cb rfl rfl w.heap.size 0 zeroL 86 HZ.out (vsN l y) (by rw [vsN_len]; exact (Nat.min_eq_left hl).symm) (fun h0 => ⟨rfl, HS.out h0⟩) (by rw [vsN_len, zeroL_len]; omega) (vsN_one _ _) w.heap.size w ((Below.refl _ _).alloc (Nat.le_refl _) _) (Nat.le_refl _) ?_; intro w4 hg4 hb4; clear HZ HS))
  have M4 := HM.out.kept (Only.of hb4 []) (by simp) (by simp)
  have hh4 := M4.head
  have R4 : w4.rangeAt w.heap.size 0 (vsN 256 (fz l y)) := by
    intro j v hv
    rw [← splice_fz l y hl] at hv
    simpa [World.cell?, hg4.out] using hv
  refine still_tail (S := fun w' => Mem w' m F n c z ∧ Only [] w w' ∧ w'.rangeAt w.heap.size 0 (vsN 256 (fz l y))) 7 (by kernel_rfl) (by kernel_rfl) ⟨M4.kept (Only.drewN [] _ 1) (by simp) (by simp), (Only.of hb4 []).trans (Only.drewN [] _ 1), R4⟩ ?_
  rintro w5 ⟨M5, O5, R5⟩
  have hh5 := M5.head
  have MH := Lib.hid M5
  have OH := Lib.hid O5
  have RH := Lib.hid R5
  clear M4 R4 hg4 hb4 hh hh4 M5 O5 R5
  simp only [List.take_succ_cons, List.take_zero, List.drop_succ_cons, List.drop_zero]
  iterate 5 still_step
  refine still_load (.tmp 7) w.heap.size 0 (vsN 256 (fz l y)) Tryz.underlying86 rfl (by rw [vsN_len]; kernel_rfl) rfl rfl rfl RH.out ?_
  still_step
  refine wpStill_nil ?_
  refine wpList_store_mid rfl _ (.tmp 24) (.tmp 23) rfl F (k * 256) (vsN 256 (fz l y)).toArray rfl rfl (by rw [List.size_toArray, vsN_len]; exact MH.out.row.thereAt _ _ (by omega)) (by rw [List.size_toArray, vsN_len]; kernel_rfl) (all_oneCell_toArray (vsN_one _ _)) ?_
  go_wp2
  go_ret
  have ho := setC_only (S := [F]) (List.mem_singleton.2 rfl) (vsN 256 (fz l y)) (k * 256) w5
  exact ⟨rfl, MH.out.with ho (by simpa using MH.out.apart) (MH.out.row.filled hk HY.out.2), (OH.out.mono (by simp)).trans ho⟩
end Ph
end Go.Proofs.YtiiggmfindfkfaaGreat
namespace Go.Proofs.YtiiggmfindfkfaaGreat
open Go.RowKit
namespace Ph
theorem forIn_all {β : Type} (P : Program) (w : World) (f : Nat → β → Sem (ForInStep β)) (good : Nat → Bool) (b0 b1 : β) : ∀ l : List Nat,
    (∀ i ∈ l, good i = true → (f i b0).run P w = .ok (.yield b0) w) → (∀ i ∈ l, good i = false → (f i b0).run P w = .ok (.done b1) w) →
    (forIn l b0 f : Sem β).run P w = .ok (if l.all good = true then b0 else b1) w
  | [], _, _ => by simp
  | i :: l, hy, hn => by
    rw [List.forIn_cons, Sem.run_bind]
    cases h : good i
    · rw [hn i (List.mem_cons_self ..) h]
      simp [h]
    · rw [hy i (List.mem_cons_self ..) h]
      simp only [Result.andThen_ok, List.all_cons, h, Bool.true_and]
      exact forIn_all P w f good b0 b1 l (fun j hj => hy j (List.mem_cons_of_mem _ hj)) (fun j hj => hn j (List.mem_cons_of_mem _ hj))
theorem all_eqN (z z' : Nat → Int) : (List.range' 0 256).all (fun i => z i == z' i) = eqN 256 z z' := by
  unfold eqN
  rw [Bool.eq_iff_iff, List.all_eq_true, decide_eq_true_iff]
  constructor
  · intro h j hj
    have := h j (by rw [List.mem_range'_1]; omega)
    simpa using this
  · intro h j hj
    rw [List.mem_range'_1] at hj
    simpa using h j (by omega)
set_option maxRecDepth 100000 in
theorem eqFrame (z z' : Nat → Int) (w : World) : (Op.equalIn 10000 86 (.agg (vsN 256 z).toArray) (.agg (vsN 256 z').toArray)).run Tryz.prog w = .ok (eqN 256 z z') w := by
  have u3 := Tryz.underlying5
  have a3 := Tryz.isAgg5
  have z3 := Tryz.sizeOf5
  have g : ∀ (y : Nat → Int) (i : Nat), i < 256 → (part 5 (vsN 256 y).toArray i).run Tryz.prog w = .ok (.int .u8 (y i)) w := fun y i hi => by
    unfold part
    rw [Sem.run_bind, a3]
    simp only [Result.andThen_ok, Bool.false_eq_true, if_false, List.getElem?_toArray, vsN_at 256 y i hi]
    rfl
  have e : ∀ a b : Int, (Op.equalIn 9999 5 (.int .u8 a) (.int .u8 b)).run Tryz.prog w = .ok (a == b) w := fun a b => by
    rw [show (9999 : Nat) = 9998 + 1 from rfl, Op.equalIn]
    simp [run_underlying u3]
  rw [show (10000 : Nat) = 9999 + 1 from rfl, Op.equalIn]
  simp only [Sem.run_bind, run_underlying Tryz.underlying86, Result.andThen_ok]
  simp only [z3, Result.andThen_ok, Std.Legacy.Range.forIn_eq_forIn_range', Std.Legacy.Range.size, Nat.sub_zero, Nat.add_sub_cancel, Nat.div_one]
  rw [forIn_all Tryz.prog w _ (fun i => z i == z' i) _ ⟨some false, PUnit.unit⟩]
  · rw [all_eqN]
    cases eqN 256 z z' <;> simp
  · intro i hi hg
    rw [List.mem_range'_1] at hi
    simp [Sem.run_bind, g _ _ (show i < 256 by omega), e, hg]
  · intro i hi hg
    rw [List.mem_range'_1] at hi
    simp [Sem.run_bind, g _ _ (show i < 256 by omega), e, hg]
theorem neqFrame (z z' : Nat → Int) (w : World) : (binOp .neq 86 (.agg (vsN 256 z).toArray) (.agg (vsN 256 z').toArray)).run Tryz.prog w = .ok (.bool (!eqN 256 z z')) w := by
  simp only [binOp]
  simp [Op.equal, Op.maxDepth, eqFrame]
end Ph
end Go.Proofs.YtiiggmfindfkfaaGreat
namespace Go.Proofs.YtiiggmfindfkfaaGreat
open Go.RowKit
namespace Ph
theorem still_all {id : Nat} {Q : Exit → Act → World → Prop} {a : Act} {w : World} {l : List Oper} {S : World → Prop} (hm : Tryz.prog.follows .mixedOrders = true) (hB : Region.lexB .any l.toArray = true) (hS : S w.drew)
    (h : ∀ w', S w' → wpStill Tryz.prog l.toArray w' (fun a' => Q .normal a' w') l a) : (Code.region id l.toArray true).wp Tryz.prog Q a w :=
  wp_region_still_lit hm hB (h w.drew hS)
/-- A frame's bytes. -/
def fr (z : Nat → Int) (q : Nat) (j : Nat) : Int := z (q * 256 + j)
theorem Row.frameAt {w : World} {b n : Nat} {z : Nat → Int} (h : Row w b (256 * n) z) (q : Nat) (hq : q < n) : w.rangeAt b (q * 256) (vsN 256 (fr z q)) := h.rangeOf (q * 256) 256 (by omega)
theorem still_loadg {t : TypeId} {d : TypeDesc} {w : World} {ops : Array Oper} {rest : List Oper} {op : Oper} {a : Act} {Q : Act → Prop} (x : Operand) (b o : Nat) (l : List Value) (hu : Tryz.prog.underlying t = some d) (hd : d.isRow = true) (hi : (Tryz.prog.info? t).map (·.size) = some l.length)
    (hw : Region.wanted op (yielded ops a.tmps) = true) (ho : op.op = .load t x) (hx : a.eval x = .pointer (some ⟨b, o, none⟩)) (hb : w.rangeAt b o l)
    (h : wpStill Tryz.prog ops w Q rest (a.put op.dst (.agg l.toArray))) : wpStill Tryz.prog ops w Q (op :: rest) a := by
  refine wpStill_step (fun K hK => ?_)
  rw [if_pos hw]
  unfold Oper.still execOp
  simp only [ho, hx, Instr.loadAt, Instr.sureAddr, Sem.run_bind, Sem.run_pure, Result.andThen_ok, run_loadVar_mid _ b o t l d hb hu hd hi]
  exact ⟨rfl, hK _ h⟩
/-- The frames that aren't alike, of the first k. -/
def dl (z z' : Nat → Int) (k : Nat) : List Nat := (List.range k).filter (fun q => !eqN 256 (fr z q) (fr z' q))
theorem dl_len (z z' : Nat → Int) (k : Nat) : (dl z z' k).length ≤ k := by unfold dl; exact Nat.le_trans (List.length_filter_le _ _) (by simp)
theorem dl_succ (z z' : Nat → Int) (k : Nat) : dl z z' (k + 1) = dl z z' k ++ (if eqN 256 (fr z k) (fr z' k) = true then [] else [k]) := by
  unfold dl
  rw [List.range_succ, List.filter_append]
  cases h : eqN 256 (fr z k) (fr z' k) <;> simp [h]
/-- Numbers as values. -/
def ints (l : List Nat) : List Value := l.map (fun q => Value.int .i64 ((q : Nat) : Int))
theorem ints_append (l l' : List Nat) : ints (l ++ l') = ints l ++ ints l' := by unfold ints; rw [List.map_append]
theorem infoI : (Tryz.prog.info? 3).map (fun i => (i.zero, i.size, i.bytes)) = some (some (.int .i64 0), 1, 8) := by kernel_rfl
/-- A list of numbers of the call's own, as a slice. -/
structure Ints (w : World) (base : Nat) (v : Value) (l : List Nat) : Prop where
  own : w.ownsRow base 3 1 v l.length (ints l)
theorem Ints.reads {w : World} {base : Nat} {v : Value} {l : List Nat} (h : Ints w base v l) : ∃ pa c, v = .slice pa l.length c ∧ ReadsI w pa l := by
  rcases h.own.2 with ⟨hv, h0⟩ | ⟨g, cap, cur, hv, hg, hb2, hnc, hm, hs, ht⟩
  · refine ⟨none, 0, by rw [hv, h0], fun hl => by omega⟩
  · refine ⟨_, cap, hv, fun _ => ⟨g, 0, rfl, fun j hj => ?_⟩⟩
    subst hv
    rw [Nat.zero_add, h.own.cellAt j (by omega)]
    unfold ints
    rw [List.getElem?_map, List.getD_eq_getElem?_getD, List.getElem?_eq_getElem hj]
    rfl
/-- How it ends. -/
def DiffEnd (l : List Nat) (w : World) (e : Ending) (w' : World) : Prop := ∃ pa c, e = .returned (.slice pa l.length c) ∧ ReadsI w' pa l ∧ Only [] w w'
theorem cells1 (w : World) (v0 : Value) (t : TypeId) : ∀ (j : Nat) (u : Value), [v0][j]? = some u → (w.alloc (.cells #[v0] t)).cell? ((⟨w.heap.size, 0, none⟩ : Addr).add j) = some u := by
  intro j u hj
  rw [add_eq, Nat.zero_add, World.cell?_alloc_new]
  match j, hj with
  | 0, hj => exact hj
  | j + 1, hj => simp at hj
set_option maxRecDepth 100000 in
set_option maxHeartbeats 1000000 in
theorem differ_any (m F n c m' F' c' : Nat) (z z' : Nat → Int) (w : World) (hM : Mem w m F n c z) (hM' : Mem w m' F' n c' z') :
    Calls Tryz.prog 16 #[.pointer (some ⟨m, 0, none⟩), .pointer (some ⟨m', 0, none⟩)] w (DiffEnd (dl z z' n) w) := by
  obtain ⟨i0, hi, hz0, hz1, hz2⟩ := info_parts infoI
  have hf := hM.few
  have HM := Lib.hid hM
  have HM' := Lib.hid hM'
  clear hM hM'
  go_enter Tryz.func16, Tryz.ntmps16
  go_wp2_with fail
  refine still_all (S := fun w' => Mem w' m F n c z ∧ Mem w' m' F' n c' z' ∧ Only [] w w') (by kernel_rfl) (by kernel_rfl) ⟨HM.out.kept (Only.drewN [] _ 1) (by simp) (by simp), HM'.out.kept (Only.drewN [] _ 1) (by simp) (by simp), Only.drewN [] _ 1⟩ ?_
  rintro w1 ⟨M1, M1', O1⟩
  have hh := M1.head
  have hh' := M1'.head
  have OH := Lib.hid O1
  clear M1 M1' O1
  iterate 12 still_step
  refine wpStill_nil ?_
  go_wp2_with fail
  go_loopw [5, 18] (fun v i wr => ∃ k : Nat, k ≤ n ∧ i = .int .i64 k ∧ Ints wr w.heap.size v (dl z z' k) ∧ Only [] w wr) (fun _ i _ => n - (intOf i).toNat)
  case atStart => exact ⟨0, Nat.zero_le _, rfl, ⟨World.ownsRow_nil _ _ _ _⟩, OH.out⟩
  case round =>
    obtain ⟨k, hk, rfl, hI, hO⟩ := hrel
    have IH := Lib.hid hI
    have WO := Lib.hid hO
    clear hI hO hh hh' OH
    by_cases hlt : k < n
    · go_wp2_with fail
      have O0 := WO.out
      have M0 := HM.out.kept O0 (by simp) (by simp)
      have M0' := HM'.out.kept O0 (by simp) (by simp)
      refine still_all (S := fun w' => Mem w' m F n c z ∧ Mem w' m' F' n c' z' ∧ Ints w' w.heap.size u5 (dl z z' k) ∧ Only [] w w') (by kernel_rfl) (by kernel_rfl) ⟨M0.kept (Only.drewN [] _ 1) (by simp) (by simp), M0'.kept (Only.drewN [] _ 1) (by simp) (by simp), ⟨IH.out.own⟩, O0.trans (Only.drewN [] _ 1)⟩ ?_
      rintro w2 ⟨M2, M2', I2, O2⟩
      clear O0 M0 M0' IH WO
      have hh := M2.head
      have hh' := M2'.head
      have R2 := Lib.hid (M2.row.frameAt k hlt)
      have R2' := Lib.hid (M2'.row.frameAt k hlt)
      have IH := Lib.hid I2
      have WO := Lib.hid O2
      have hneq := neqFrame (fr z k) (fr z' k)
      have hds := dl_succ z z' k
      have hdn := dl_len z z' k
      have cell1 := cells1 w2 (.int .i64 k) 3
      have C1 := Lib.hid cell1
      have hz2' := O2.size
      clear M2 M2' I2 O2 cell1
      iterate 2 still_step
      still_call ((has_yes m F n c k _ hh hlt).mono fun _ _ ⟨h, h'⟩ => ⟨h, h'.symm⟩)
      iterate 4 still_step
      still_call ((has_yes m' F' n c' k _ hh' hlt).mono fun _ _ ⟨h, h'⟩ => ⟨h, h'.symm⟩)
      iterate 9 still_step
      refine still_loadg (.tmp 37) F (k * 256) (vsN 256 (fr z k)) Tryz.underlying86 rfl (by rw [vsN_len]; kernel_rfl) (by kernel_rfl) rfl rfl R2.out ?_
      iterate 6 still_step
      refine still_loadg (.tmp 44) F' (k * 256) (vsN 256 (fr z' k)) Tryz.underlying86 rfl (by rw [vsN_len]; kernel_rfl) (by kernel_rfl) rfl rfl R2'.out ?_
      cases hE : eqN 256 (fr z k) (fr z' k)
      · rw [hE, if_neg (by decide)] at hds
        rw [hE] at hneq
        have DS := Lib.hid hds
        clear hds hE
        iterate 2 still_step
        refine wpStill_nil ?_
        go_wp2_with (at_builtin; refine wpList_append_own _ rfl (.tmp 48) (.tmp 50) 42 rfl w.heap.size 3 i0 (.int .i64 0) 1 8 Tryz.underlying42 hi hz0 hz1 hz2 rfl (by decide) u5 (dl z z' k).length (ints (dl z z' k)) rfl (IH.out.own.alloc _) ⟨w2.heap.size, 0, none⟩ 1 1 [.int .i64 k] rfl rfl C1.out (by simp [Value.oneCell']) (by unfold maxLen; omega) (by omega) (by simp; omega) ?_; intro v' w3 hown hgrow hnil; have OW := Lib.hid hown; have GR := Lib.hid hgrow; clear hown hgrow hnil)
        go_roundw
        case rel =>
          refine ⟨k + 1, by omega, by go_num, ⟨?_⟩, Only.of ?_ _⟩
          · rw [DS.out, List.length_append, ints_append]
            exact OW.out
          · exact (((WO.out.below (Nat.le_refl _) (by simp)).alloc WO.out.size _).grown GR.out (by simp; omega) (fun j hj => (IH.out.own.lt j hj).1))
        case measure => simp [intOf]; omega
      · rw [hE, if_pos rfl, List.append_nil] at hds
        rw [hE] at hneq
        have DS := Lib.hid hds
        clear hds hE
        iterate 2 still_step
        refine wpStill_nil ?_
        go_wp2
        go_roundw
        case rel => exact ⟨k + 1, by omega, by go_num, by rw [DS.out]; exact IH.out, WO.out⟩
        case measure => simp [intOf]; omega
    · have e : k = n := by omega
      subst e
      obtain ⟨pa, cc, rfl, hR⟩ := IH.out.reads
      go_wp2
      go_ret
      exact ⟨pa, cc, rfl, hR, WO.out⟩
end Ph
end Go.Proofs.YtiiggmfindfkfaaGreat
namespace Go.Proofs.YtiiggmfindfkfaaGreat
open Go.RowKit
namespace Ph
/-- The document's own memory: its place, its bytes' block. -/
structure RMem (w : World) (r G n : Nat) (z : Nat → Int) : Prop where
  lt : r < w.heap.size
  head : w.cell? ⟨r, 0, none⟩ = some (.slice (some ⟨G, 0, none⟩) (256 * n) (256 * n))
  row : Row w G (256 * n) z
  apart : r ≠ G
  few : n ≤ 1024
  pos : 0 < n
theorem RMem.kept {w w' : World} {r G n : Nat} {z : Nat → Int} {S : List Nat} (h : RMem w r G n z) (ho : Only S w w') (hm : r ∉ S) (hF : G ∉ S) : RMem w' r G n z :=
  ⟨Nat.lt_of_lt_of_le h.lt ho.size, (ho.cell h.lt hm 0).trans h.head, h.row.kept ho hF, h.apart, h.few, h.pos⟩
theorem RMem.with {w w' : World} {r G n : Nat} {z z' : Nat → Int} {S : List Nat} (h : RMem w r G n z) (ho : Only S w w') (hm : r ∉ S) (hr : Row w' G (256 * n) z') : RMem w' r G n z' :=
  ⟨Nat.lt_of_lt_of_le h.lt ho.size, (ho.cell h.lt hm 0).trans h.head, hr, h.apart, h.few, h.pos⟩
theorem hwA_true {n a : Nat} (h : hwA n a = true) : a % 4 = 0 ∧ a < 256 * n := by
  unfold hwA at h
  simpa using h
theorem hwA_false {n a : Nat} (h : hwA n a = false) : a % 4 ≠ 0 ∨ ¬ a < 256 * n := by
  rcases Decidable.em (a % 4 = 0 ∧ a < 256 * n) with h2 | h2
  · unfold hwA at h
    simp [h2.1, h2.2] at h
  · omega
/-- How a call that changes the document's own memory ends. -/
def RPutEnd (v : Value) (r G n : Nat) (z' : Nat → Int) (w : World) (e : Ending) (w' : World) : Prop := e = .returned v ∧ RMem w' r G n z' ∧ Only [G] w w'
/-- How Four ends. -/
def FourEnd (x : Int) (w : World) (e : Ending) (w' : World) : Prop := ∃ H, e = .returned (.slice (some ⟨H, 0, none⟩) 4 4) ∧ (∀ k, k < 4 → w'.cell? ⟨H, k, none⟩ = some (.int .u8 (byte4 x k))) ∧ Only [] w w' ∧ w.heap.size ≤ H ∧ H < w'.heap.size
/-- The first k bytes of a word are put. -/
def putk (z : Nat → Int) (a : Nat) (x : Int) (k j : Nat) : Int := if a ≤ j ∧ j < a + k then byte4 x (j - a) else z j
theorem putk_succ (z : Nat → Int) (a : Nat) (x : Int) (k j : Nat) : put1 (putk z a x k) (a + k) (byte4 x k) j = putk z a x (k + 1) j := by
  unfold put1 putk
  by_cases h : j = a + k
  · subst h
    rw [if_pos rfl, if_pos (by omega), show a + k - a = k by omega]
  · rw [if_neg h]
    by_cases h2 : a ≤ j ∧ j < a + k
    · rw [if_pos h2, if_pos (by omega)]
    · rw [if_neg h2, if_neg (by omega)]
end Ph
end Go.Proofs.YtiiggmfindfkfaaGreat
namespace Go.Proofs.YtiiggmfindfkfaaGreat
open Go.RowKit
namespace Ph
/-- A goal that nobody looks into. -/
structure Sealed (p : Prop) : Prop where
  out : p
theorem seal_next {ops : Array Oper} {w : World} {Q : Act → Prop} {a : Act} {o : Oper} {rest : List Oper}
    (h : ∀ K : Act → Prop, (∀ a, Sealed (wpStill Tryz.prog ops w Q rest a) → K a) → if Region.wanted o (yielded ops a.tmps) then o.still Tryz.prog a w K else K (a.put o.dst undef)) : Sealed (wpStill Tryz.prog ops w Q (o :: rest) a) :=
  ⟨h _ (fun _ h => h.out)⟩
theorem seal_nil {ops : Array Oper} {w : World} {Q : Act → Prop} {a : Act} (h : Q a) : Sealed (wpStill Tryz.prog ops w Q [] a) := ⟨h⟩
theorem seal_all {id : Nat} {Q : Exit → Act → World → Prop} {a : Act} {w : World} {l : List Oper} {S : World → Prop} (hm : Tryz.prog.follows .mixedOrders = true) (hB : Region.lexB .any l.toArray = true) (hS : S w.drew)
    (h : ∀ w', S w' → Sealed (wpStill Tryz.prog l.toArray w' (fun a' => Q .normal a' w') l a)) : (Code.region id l.toArray true).wp Tryz.prog Q a w :=
  still_all hm hB hS (fun w' hw => (h w' hw).out)
theorem seal_tail {id : Nat} {Q : Exit → Act → World → Prop} {a : Act} {w : World} {l : List Oper} {S : World → Prop} (n : Nat) (hm : Tryz.prog.follows .mixedOrders = true) (hB : Region.lexTailB .any l.toArray n = true) (hS : S w.drew)
    (h : ∀ w', S w' → Sealed (wpStill Tryz.prog l.toArray w' (fun a' => wpList Tryz.prog l.toArray Q (l.drop n) a' w') (l.take n) a)) : (Code.region id l.toArray true).wp Tryz.prog Q a w :=
  still_tail n hm hB hS (fun w' hw => (h w' hw).out)
/-- Both memories lie there, with the same bytes, apart from each other. -/
structure Both (w : World) (m F n c r G : Nat) (z : Nat → Int) : Prop where
  mem : Mem w m F n c z
  ref : RMem w r G n z
  a1 : m ≠ G
  a2 : r ≠ F
  a3 : F ≠ G
  a4 : m ≠ r
theorem Both.kept {w w' : World} {m F n c r G : Nat} {z : Nat → Int} {S : List Nat} (h : Both w m F n c r G z) (ho : Only S w w') (h1 : m ∉ S) (h2 : F ∉ S) (h3 : r ∉ S) (h4 : G ∉ S) : Both w' m F n c r G z :=
  ⟨h.mem.kept ho h1 h2, h.ref.kept ho h3 h4, h.a1, h.a2, h.a3, h.a4⟩
/-- How told ends. -/
def ToldEnd (m F n c r G : Nat) (w : World) (e : Ending) (w' : World) : Prop := e = .returned (.bool true) ∧ (∃ z', Both w' m F n c r G z') ∧ Only [F, G] w w'
/-- A call's cells. -/
def callL (wh nn : Int) (ad : Nat) (vl : Int) (pb : Option Addr) (l cb : Nat) : Array Value := #[.int .i64 wh, .int .i64 nn, .int .u32 ad, .int .u32 vl, .slice pb l cb]
theorem Rd.kept {w w' : World} {pa : Option Addr} {n : Nat} {z : Nat → Int} (h : Rd w pa n z) (ho : Only [] w w') : Rd w' pa n z :=
  ⟨fun hn => by
    obtain ⟨b, off, e, hc⟩ := h.1 hn
    exact ⟨b, off, e, fun j hj => (ho.cell (World.block_lt_of_cell? w _ (hc j hj)) (by simp) _).trans (hc j hj)⟩, h.2⟩
end Ph
end Go.Proofs.YtiiggmfindfkfaaGreat
