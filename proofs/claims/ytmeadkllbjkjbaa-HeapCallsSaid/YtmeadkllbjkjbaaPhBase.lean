/-
  Memories as they lie in a world; what phys's place, has, hasWord, Frames, Byte and New answer. Conditions: that a memory lies there.
-/
import Derived.Test.YtmeadkllbjkjbaaRows
import Derived.WalkKit
import Derived.WalkSpells
import Derived.WalkLawsBesides
import Derived.Outline
import Derived.IntWalk
import Derived.Below
import Derived.Lib.Hide
import Derived.Deep.QuietTactic
import Derived.BigQuiet
import Derived.Laws.BitsAllLaws
import Derived.Deep.OwnRows
import Derived.Deep.MidRow
import Derived.Lib.QuietBelow
namespace Go.Proofs.Ytmeadkllbjkjbaa
open Go.RowKit
namespace Ph

/-! ### Worlds that differ in some blocks alone -/
/-- But for some blocks the world w' is as w was; the streams are as they were; no block has gone. -/
structure Only (S : List Nat) (w w' : World) : Prop where
  os : w'.os = w.os
  tape : w'.tape = w.tape
  output : w'.output = w.output
  size : w.heap.size ≤ w'.heap.size
  block : ∀ k, k < w.heap.size → k ∉ S → w'.heap[k]? = w.heap[k]?
theorem Only.refl (S : List Nat) (w : World) : Only S w w := ⟨rfl, rfl, rfl, Nat.le_refl _, fun _ _ _ => rfl⟩
theorem Only.trans {S : List Nat} {a b c : World} (h : Only S a b) (k : Only S b c) : Only S a c :=
  ⟨k.os.trans h.os, k.tape.trans h.tape, k.output.trans h.output, Nat.le_trans h.size k.size, fun i hi hs => (k.block i (Nat.lt_of_lt_of_le hi h.size) hs).trans (h.block i hi hs)⟩
theorem Only.mono {S S' : List Nat} {w w' : World} (h : Only S w w') (hs : ∀ x ∈ S, x ∈ S') : Only S' w w' :=
  ⟨h.os, h.tape, h.output, h.size, fun k hk hn => h.block k hk (fun x => hn (hs _ x))⟩
theorem Only.of {w w' : World} (h : Below w.heap.size w w') (S : List Nat) : Only S w w' := ⟨h.os, h.tape, h.output, h.size, fun k hk _ => h.block k hk⟩
theorem Only.drewN (S : List Nat) (w : World) (k : Nat) : Only S w (w.drewN k) := ⟨rfl, rfl, rfl, Nat.le_refl _, fun _ _ _ => rfl⟩
theorem Only.alloc (S : List Nat) (w : World) (o : Obj) : Only S w (w.alloc o) := Only.of ((Below.refl _ _).alloc (Nat.le_refl _) _) S
theorem Only.setCell {S : List Nat} (w : World) {b : Nat} (hb : b ∈ S) (j : Nat) (v : Value) : Only S w (w.setCell ⟨b, j, none⟩ v) :=
  ⟨rfl, rfl, rfl, by simp [World.setCell], fun k _ hk => Below.heap_setCell _ _ _ _ (fun e => hk (by rw [show k = b from e]; exact hb))⟩
theorem Only.below {S : List Nat} {w w' : World} (h : Only S w w') {B : Nat} (hB : B ≤ w.heap.size) (hs : ∀ x ∈ S, B ≤ x) : Below B w w' :=
  ⟨h.os, h.tape, h.output, h.size, fun k hk => h.block k (by omega) (fun x => by have := hs k x; omega)⟩
theorem Only.cell {S : List Nat} {w w' : World} (h : Only S w w') {b : Nat} (hb : b < w.heap.size) (hn : b ∉ S) (j : Nat) : w'.cell? ⟨b, j, none⟩ = w.cell? ⟨b, j, none⟩ :=
  World.cell?_of_block (w := w) (h.block b hb hn)
theorem Only.frozen {S : List Nat} {w w' : World} (h : Only S w w') {b : Nat} (hb : b < w.heap.size) (hn : b ∉ S) (j : Nat) : w'.frozen? ⟨b, j, none⟩ = w.frozen? ⟨b, j, none⟩ :=
  World.frozen?_of_block (w := w) (h.block b hb hn)
theorem Only.back {S S' : List Nat} {a b : World} {n : Nat} (h : Only S a b) (hs : ∀ x ∈ S, x ∈ S' ∨ n ≤ x) (hn : a.heap.size ≤ n) : Only S' a b :=
  ⟨h.os, h.tape, h.output, h.size, fun k hk hk' => h.block k hk (fun x => (hs k x).elim hk' (fun g => by omega))⟩

/-! ### Bytes in a block, and memories -/
/-- A byte. -/
def B8 (z : Int) : Prop := 0 ≤ z ∧ z < 256
/-- Bytes lie in a block from its head on, and may be written. -/
structure Row (w : World) (b N : Nat) (z : Nat → Int) : Prop where
  lt : b < w.heap.size
  cell : ∀ j, j < N → w.cell? ⟨b, j, none⟩ = some (.int .u8 (z j))
  free : ∀ j, j < N → w.frozen? ⟨b, j, none⟩ = false
  b8 : ∀ j, j < N → B8 (z j)
theorem Row.kept {w w' : World} {b N : Nat} {z : Nat → Int} {S : List Nat} (h : Row w b N z) (ho : Only S w w') (hb : b ∉ S) : Row w' b N z :=
  ⟨Nat.lt_of_lt_of_le h.lt ho.size, fun j hj => (ho.cell h.lt hb j).trans (h.cell j hj), fun j hj => (ho.frozen h.lt hb j).trans (h.free j hj), h.b8⟩
theorem Row.congr {w : World} {b N : Nat} {z z' : Nat → Int} (h : Row w b N z) (e : ∀ j, j < N → z j = z' j) : Row w b N z' :=
  ⟨h.lt, fun j hj => by rw [h.cell j hj, e j hj], h.free, fun j hj => by rw [← e j hj]; exact h.b8 j hj⟩
/-- One byte is put. -/
def put1 (z : Nat → Int) (i : Nat) (x : Int) (j : Nat) : Int := if j = i then x else z j
theorem Row.set {w : World} {b N : Nat} {z : Nat → Int} (h : Row w b N z) (i : Nat) (x : Int) (hi : i < N) (hx : B8 x) : Row (w.setCell ⟨b, i, none⟩ (.int .u8 x)) b N (put1 z i x) := by
  have hs : ∀ j, j < N → (w.cell? ⟨b, j, none⟩).isSome = true := fun j hj => by rw [h.cell j hj]; rfl
  refine ⟨by rw [World.size_setCell]; exact h.lt, fun j hj => ?_, fun j hj => ?_, fun j hj => ?_⟩
  · unfold put1
    by_cases e : j = i
    · subst e
      rw [if_pos rfl, World.cell?_setCell_same' _ _ _ (hs j hj)]
    · rw [if_neg e, World.cell?_setCell_other _ _ _ _ (fun x => e (by injection x with _ x; exact x.symm))]
      exact h.cell j hj
  · have := World.there_setCells (w := w) (b' := b) (o' := 0) (n := N) (fun j hj => by rw [Nat.zero_add]; exact ⟨hs j hj, h.free j hj⟩) b i [.int .u8 x] j hj
    rw [Nat.zero_add] at this
    exact this.2
  · unfold put1
    split
    · exact hx
    · exact h.b8 j hj
/-- A memory: its own place, its frames' block, how many there are, the room. -/
structure Mem (w : World) (m F n c : Nat) (z : Nat → Int) : Prop where
  lt : m < w.heap.size
  head : w.cell? ⟨m, 0, none⟩ = some (.slice (some ⟨F, 0, none⟩) n c)
  row : Row w F (256 * n) z
  apart : m ≠ F
  few : n ≤ 1024
theorem Mem.kept {w w' : World} {m F n c : Nat} {z : Nat → Int} {S : List Nat} (h : Mem w m F n c z) (ho : Only S w w') (hm : m ∉ S) (hF : F ∉ S) : Mem w' m F n c z :=
  ⟨Nat.lt_of_lt_of_le h.lt ho.size, (ho.cell h.lt hm 0).trans h.head, h.row.kept ho hF, h.apart, h.few⟩
/-- Its bytes are turned. -/
theorem Mem.with {w w' : World} {m F n c : Nat} {z z' : Nat → Int} {S : List Nat} (h : Mem w m F n c z) (ho : Only S w w') (hm : m ∉ S) (hr : Row w' F (256 * n) z') : Mem w' m F n c z' :=
  ⟨Nat.lt_of_lt_of_le h.lt ho.size, (ho.cell h.lt hm 0).trans h.head, hr, h.apart, h.few⟩

/-- Does a word stand at a place? -/
def hw (n q r : Nat) : Bool := r % 4 == 0 && decide (q < n)
end Ph
end Go.Proofs.Ytmeadkllbjkjbaa
