/-
  A pool of numbers as it lies in a world, the program's and the document's own alike: a place that names a row of small numbers; boxes; rows of numbers that grow and are read. Conditions: none.
-/
import Derived.Test.YtcpadnedfnkieaaVmMath
import Derived.Test.YtcpadnedfnkieaaPhBase
import Derived.Laws.MakeOwn
import Derived.Maps.AppendAt
import Derived.Deep.AppendLies
import Derived.Laws.OwnMore
import Derived.RangeFuncNested
import Derived.RangeFuncBound
import Derived.RangeFuncCalls
import Derived.RangeFuncLeaves
import Derived.RangeFuncBox
import Derived.Shelf.Abstract
import Derived.Shelf.RegionOpen
import Derived.OwnWalkIn
import Derived.TacticsInMore
import Derived.LoopNIn
import Derived.LoopIn
namespace Go.Proofs.Ytcpadnedfnkieaa
open Go.RowKit
namespace Vm
open Ph (Only)

theorem add_eq (b off k : Nat) : ({ block := b, off := off } : Addr).add k = ⟨b, off + k, none⟩ := by simp [Addr.add]
/-- A block's cells, whole. -/
def Lay (w : World) (b : Nat) (t : TypeId) (cs : List Value) : Prop := w.heap[b]? = some (.cells cs.toArray t (0, 0))
theorem Lay.new (w : World) (t : TypeId) (cs : List Value) : Lay (w.alloc (.cells cs.toArray t)) w.heap.size t cs := heap_alloc_new w _
theorem Lay.lt {w : World} {b : Nat} {t : TypeId} {cs : List Value} (h : Lay w b t cs) : b < w.heap.size := (Array.getElem?_eq_some_iff.1 h).1
theorem Lay.kept {w w' : World} {b : Nat} {t : TypeId} {cs : List Value} {S : List Nat} (h : Lay w b t cs) (ho : Only S w w') (hb : b ∉ S) : Lay w' b t cs := (ho.block b h.lt hb).trans h
theorem Lay.cell {w : World} {b : Nat} {t : TypeId} {cs : List Value} (h : Lay w b t cs) (j : Nat) : w.cell? ⟨b, j, none⟩ = cs[j]? := by
  unfold Lay at h
  simp [World.cell?, h]
theorem Lay.free {w : World} {b : Nat} {t : TypeId} {cs : List Value} (h : Lay w b t cs) (j : Nat) : w.frozen? ⟨b, j, none⟩ = false := by
  unfold Lay at h
  simp [World.frozen?, h]

/-- What lies behind B may have turned. -/
def past (B : Nat) (w : World) : List Nat := List.range' B (w.heap.size - B)
theorem below_only {B : Nat} {w w' : World} (h : Below B w w') : Only (past B w) w w' :=
  ⟨h.os, h.tape, h.output, h.size, fun k hk hn => h.block k (by
    by_cases e : k < B
    · exact e
    · exact absurd (List.mem_range'_1.2 ⟨by omega, by omega⟩) hn)⟩
theorem past_not {B : Nat} {w : World} {b : Nat} (h : b < B) : b ∉ past B w := fun x => by
  have := (List.mem_range'_1.1 x).1
  omega
theorem past_low {B : Nat} {w : World} {b : Nat} (h : b ∈ past B w) : B ≤ b := (List.mem_range'_1.1 h).1
theorem only_grown {b : Nat} {w w' : World} (h : Only [b] w w') : w.grownBy w' (some b) :=
  ⟨h.os, h.tape, h.output, h.size, fun k hk hn => h.block k hk (by simp; exact fun e => hn (by rw [e]))⟩
theorem only_grown0 {w w' : World} (h : Only [] w w') : w.grownBy w' none :=
  ⟨h.os, h.tape, h.output, h.size, fun k hk _ => h.block k hk (by simp)⟩

/-! ### Rows of states -/
/-- Numbers lie in a block from its head on, and may be written. -/
structure ZRow (w : World) (b m : Nat) (s : Nat → Int) : Prop where
  lt : b < w.heap.size
  cell : ∀ j, j < m → w.cell? ⟨b, j, none⟩ = some (.int .i64 (s j))
  free : ∀ j, j < m → w.frozen? ⟨b, j, none⟩ = false
theorem ZRow.kept {w w' : World} {b m : Nat} {s : Nat → Int} {S : List Nat} (h : ZRow w b m s) (ho : Only S w w') (hb : b ∉ S) : ZRow w' b m s :=
  ⟨Nat.lt_of_lt_of_le h.lt ho.size, fun j hj => (ho.cell h.lt hb j).trans (h.cell j hj), fun j hj => (ho.frozen h.lt hb j).trans (h.free j hj)⟩
theorem ZRow.congr {w : World} {b m : Nat} {s s' : Nat → Int} (h : ZRow w b m s) (e : ∀ j, j < m → s j = s' j) : ZRow w b m s' :=
  ⟨h.lt, fun j hj => by rw [h.cell j hj, e j hj], h.free⟩
theorem ZRow.set {w : World} {b m : Nat} {s : Nat → Int} (h : ZRow w b m s) (i : Nat) (x : Int) (hi : i < m) : ZRow (w.setCell ⟨b, i, none⟩ (.int .i64 x)) b m (upd s i x) := by
  refine ⟨by rw [World.size_setCell]; exact h.lt, fun j hj => ?_, fun j hj => (World.frozen?_setCell _ _ _ _).trans (h.free j hj)⟩
  by_cases e : j = i
  · subst e
    rw [upd_at, World.cell?_setCell_same' _ _ _ (by rw [h.cell j hj]; rfl)]
  · rw [upd_ne _ _ e, World.cell?_setCell_other _ _ _ _ (fun x => e (by injection x with _ x; exact x.symm))]
    exact h.cell j hj
/-- A pool: its place p, its states' block B, how many numbers there are, and their states. -/
structure Pl (w : World) (p B m : Nat) (s : Nat → Int) : Prop where
  lt : p < w.heap.size
  ne : p ≠ B
  head : w.cell? ⟨p, 0, none⟩ = some (.slice (some ⟨B, 0, none⟩) m m)
  row : ZRow w B m s
theorem Pl.kept {w w' : World} {p B m : Nat} {s : Nat → Int} {S : List Nat} (h : Pl w p B m s) (ho : Only S w w') (hp : p ∉ S) (hB : B ∉ S) : Pl w' p B m s :=
  ⟨Nat.lt_of_lt_of_le h.lt ho.size, h.ne, (ho.cell h.lt hp 0).trans h.head, h.row.kept ho hB⟩
theorem Pl.congr {w : World} {p B m : Nat} {s s' : Nat → Int} (h : Pl w p B m s) (e : ∀ j, j < m → s j = s' j) : Pl w p B m s' := ⟨h.lt, h.ne, h.head, h.row.congr e⟩
/-- One state is put. -/
theorem Pl.set {w : World} {p B m : Nat} {s : Nat → Int} (h : Pl w p B m s) (i : Nat) (x : Int) (hi : i < m) : Pl (w.setCell ⟨B, i, none⟩ (.int .i64 x)) p B m (upd s i x) ∧ Only [B] w (w.setCell ⟨B, i, none⟩ (.int .i64 x)) := by
  have ho : Only [B] w (w.setCell ⟨B, i, none⟩ (.int .i64 x)) := Only.setCell w (by simp) _ _
  exact ⟨⟨Nat.lt_of_lt_of_le h.lt ho.size, h.ne, (ho.cell h.lt (by simp; exact h.ne) 0).trans h.head, h.row.set i x hi⟩, ho⟩
/-- A box: one value in a block of its own. -/
structure Bx1 (w : World) (b : Nat) (v : Value) : Prop where
  lt : b < w.heap.size
  c : w.cell? ⟨b, 0, none⟩ = some v
  f : w.frozen? ⟨b, 0, none⟩ = false
theorem Bx1.kept {w w' : World} {b : Nat} {v : Value} {S : List Nat} (h : Bx1 w b v) (ho : Only S w w') (hb : b ∉ S) : Bx1 w' b v := ⟨Nat.lt_of_lt_of_le h.lt ho.size, (ho.cell h.lt hb 0).trans h.c, (ho.frozen h.lt hb 0).trans h.f⟩
theorem Bx1.new (w : World) (v : Value) (t : TypeId) {b : Nat} (hb : b = w.heap.size) : Bx1 (w.alloc (.cells #[v] t)) b v := by
  subst hb
  exact ⟨by simp, by rw [World.cell?_alloc_new]; rfl, World.frozen?_alloc_new w _ _ _⟩
theorem Bx1.set {w : World} {b : Nat} {v : Value} (h : Bx1 w b v) (u : Value) : Bx1 (w.setCell ⟨b, 0, none⟩ u) b u :=
  ⟨by rw [World.size_setCell]; exact h.lt, World.cell?_setCell_same' _ _ _ (by rw [h.c]; rfl), (World.frozen?_setCell _ _ _ _).trans h.f⟩
theorem infoInt : (Try.prog.info? 3).map (fun i => (i.zero, i.size, i.bytes)) = some (some (.int .i64 0), 1, 8) := by kernel_rfl
theorem info_parts {t : TypeId} {z : Value} {k b : Nat} (h : (Try.prog.info? t).map (fun i => (i.zero, i.size, i.bytes)) = some (some z, k, b)) : ∃ i, Try.prog.info? t = some i ∧ i.zero = some z ∧ i.size = k ∧ i.bytes = b := by
  obtain ⟨i, hi, hx⟩ := Option.map_eq_some_iff.1 h
  simp only [Prod.mk.injEq] at hx
  exact ⟨i, hi, hx⟩
theorem made_ints (n : Nat) (wx : World) (hn : n ≤ 1024) :
    (Instr.makeSlice 36 (.int .i64 (n : Int)) (.int .i64 (n : Int))).run Try.prog wx = .ok (.slice (some ⟨wx.heap.size, 0, none⟩) n n) (wx.alloc (.cells (madeCells #[.int .i64 0] n) 3)) := by
  obtain ⟨i, hi, hz0, hz1, hz2⟩ := info_parts infoInt
  have hr := run_make (P := Try.prog) wx 36 3 i _ Try.underlying36 hi hz0 .i64 .i64 n n (by omega) (Int.le_refl _) (by rw [hz2]; omega) (by omega)
  simp only [Int.toNat_natCast, hz1, Nat.mul_one] at hr
  exact hr
theorem made_row (n : Nat) (t : TypeId) (w : World) : ZRow (w.alloc (.cells (madeCells #[.int .i64 0] n) t)) w.heap.size n (fun _ => 0) := by
  refine ⟨by simp, fun j hj => ?_, fun j hj => World.frozen?_alloc_new w _ _ _⟩
  rw [World.cell?_alloc_new]
  unfold madeCells
  rw [Array.getElem?_map, Array.getElem?_range, if_pos hj]
  simp [Nat.mod_one]

/-! ### Rows of numbers that grow and are read -/
/-- Numbers as cells. -/
def ints (l : List Nat) : List Value := l.map fun (x : Nat) => .int .i64 (x : Int)
theorem ints_snoc (l : List Nat) (x : Nat) : ints (l ++ [x]) = ints l ++ [.int .i64 (x : Int)] := by simp [ints]
/-- A row of numbers that is read; its block is new. -/
def Seen (B : Nat) (w : World) (v : Value) (l : List Nat) : Prop :=
  ∃ a cap, v = .slice a l.length cap ∧ l.length ≤ cap ∧ (0 < l.length → ∃ b, a = some ⟨b, 0, none⟩ ∧ B ≤ b ∧ b < w.heap.size ∧ ∀ (i x : Nat), l[i]? = some x → w.cell? ⟨b, i, none⟩ = some (.int .i64 (x : Int)))
theorem Seen.kept {B : Nat} {w w' : World} {v : Value} {l : List Nat} {S : List Nat} (h : Seen B w v l) (ho : Only S w w') (hs : ∀ x ∈ S, x < B) : Seen B w' v l := by
  obtain ⟨a, cap, rfl, hcap, hr⟩ := h
  refine ⟨a, cap, rfl, hcap, fun hl => ?_⟩
  obtain ⟨b, rfl, hB, hlt, hc⟩ := hr hl
  exact ⟨b, rfl, hB, Nat.lt_of_lt_of_le hlt ho.size, fun i x hx => (ho.cell hlt (fun h => by have := hs b h; omega) _).trans (hc i x hx)⟩
theorem Seen.mono {B B' : Nat} {w : World} {v : Value} {l : List Nat} (h : Seen B w v l) (hb : B' ≤ B) : Seen B' w v l := by
  obtain ⟨a, cap, rfl, hcap, hr⟩ := h
  refine ⟨a, cap, rfl, hcap, fun hl => ?_⟩
  obtain ⟨b, rfl, hB, hlt, hc⟩ := hr hl
  exact ⟨b, rfl, by omega, hlt, hc⟩
theorem row_seen {w : World} {base : Nat} {v : Value} {l : List Nat} (h : w.ownsRow base 3 1 v l.length (ints l)) : Seen base w v l := by
  have hlt := h.lt
  rcases h.2 with ⟨rfl, h0⟩ | ⟨g, cap, cur, rfl, hrest⟩
  · have : l = [] := by
      cases l with
      | nil => rfl
      | cons x r => simp at h0
    subst this
    exact ⟨_, _, rfl, Nat.le_refl _, fun h => by simp at h⟩
  · refine ⟨_, _, rfl, by have := hrest; simp at this; omega, fun _ => ⟨g, rfl, (hlt g rfl).1, (hlt g rfl).2, fun i x hx => ?_⟩⟩
    have := h.cells (g := g) rfl i (.int .i64 (x : Int)) (by unfold ints; rw [List.getElem?_map, hx]; rfl)
    rw [add_eq] at this
    simpa using this
set_option maxRecDepth 100000 in
/-- One number is appended to a row. -/
theorem step_int {ops : Array Oper} {rest : List Oper} {o : Oper} {a : Act} {Q : Exit → Act → World → Prop} (hgd : o.guard = none) (s x : Operand)
    (ho : o.op = .call { callee := .builtin .append, args := #[s, x], argTypes := #[36, 36] }) (B : Nat) (v : Value) (k : Nat) (cs : List Value) (z : Int) (W : World)
    (hv : W.ownsRow B 3 1 v k cs) (hB : B ≤ W.heap.size) (hn : k ≤ 1024)
    (hs : a.eval s = v) (hx : a.eval x = .slice (some ⟨W.heap.size, 0, none⟩) 1 1)
    (h : ∀ v' W', W'.ownsRow B 3 1 v' (k + 1) (cs ++ [.int .i64 z]) → Below B W W' → wpList Try.prog ops Q rest (a.put o.dst v') W') :
    wpList Try.prog ops Q (o :: rest) a (W.alloc (.cells #[.int .i64 z] 3)) := by
  obtain ⟨i0, hi, hz0, hz1, hz2⟩ := info_parts infoInt
  refine wpList_append_own _ hgd s x 36 ho B 3 i0 (.int .i64 0) 1 8 Try.underlying36 hi hz0 hz1 hz2 rfl (by decide) v k cs hs (hv.alloc _) ⟨W.heap.size, 0, none⟩ 1 1 [.int .i64 z] hx rfl
    (World.news_of_block (cs := #[.int .i64 z]) (t := 3) (fr := (0, 0)) (heap_alloc_new W _)) (by simp [Value.oneCell']) (by unfold maxLen; omega) (by omega) (by simp; omega) ?_
  intro v' W' hown hgrow _
  refine h v' W' ?_ ?_
  · exact hown
  · exact ((Below.refl B W).alloc hB _).grown hgrow (by simp; omega) (fun k hk => (hv.lt k hk).1)
theorem Seen.at {B : Nat} {w : World} {v : Value} {l : List Nat} (h : Seen B w v l) {i x : Nat} (hx : l[i]? = some x) : ∃ b cap, v = .slice (some ⟨b, 0, none⟩) l.length cap ∧ b < w.heap.size ∧ w.cell? ⟨b, i, none⟩ = some (.int .i64 (x : Int)) := by
  obtain ⟨a, cap, rfl, _, hr⟩ := h
  have hl := (List.getElem?_eq_some_iff.1 hx).1
  obtain ⟨b, rfl, _, hlt, hc⟩ := hr (by omega)
  exact ⟨b, cap, rfl, hlt, hc i x hx⟩
theorem Seen.form {B : Nat} {w : World} {v : Value} {l : List Nat} (h : Seen B w v l) : ∃ a cap, v = .slice a l.length cap := by
  obtain ⟨a, cap, rfl, _⟩ := h
  exact ⟨a, cap, rfl⟩
theorem Seen.none (B : Nat) (w : World) : Seen B w (.slice none 0 0) [] := ⟨_, _, rfl, Nat.le_refl _, fun h => absurd h (by simp)⟩
end Vm
end Go.Proofs.Ytcpadnedfnkieaa
