/-
  The map of a TLB's entries: its keys and elements, how they read, and the places that it stands for. Conditions: none.
  What maps.DeleteFunc does to a TLB's map, and what (*Tlb).drop answers, whatever closure tells what goes. Conditions: that the closure writes nothing that lay, and the map stands for its places.
  The plain facts of a TLB's places: what is found, replaced, dropped. Conditions: none.
  What tlb's New, Find, DropAll, DropFrame and Clear answer. Conditions: that a TLB lies there; numbers are in their kind's range.
  What tlb's Drop and Fill answer. Conditions: that a TLB lies there; the numbers are in their kind's range.
-/
import Derived.Test.YtiiggmfindfkfaaGreatPhKit
import Derived.DeepKeys4
import Derived.MapViews
import Derived.Maps.OwnSet
import Derived.Maps.RangeWalk
import Derived.Lib.SlMapFilter
import Derived.Deep.LoopGhost
import Derived.Shelf.Abstract
namespace Go.Proofs.YtiiggmfindfkfaaGreat
open Go.RowKit Go.Maps
namespace Tl
open Ph (Only)

/-- An entry: its guest's number, its page, its frame, may it be written, executed. -/
abbrev SlotT := Int × Int × Int × Bool × Bool
/-- An entry in its place. -/
abbrev HeldT := Int × SlotT
def encSlot (s : SlotT) : List Value := [.int .i64 s.1, .int .i64 s.2.1, .int .i64 s.2.2.1, .bool s.2.2.2.1, .bool s.2.2.2.2]
def encHeld (h : HeldT) : List Value := [.int .i64 h.1, .int .i64 h.2.1, .int .i64 h.2.2.1, .int .i64 h.2.2.2.1, .bool h.2.2.2.2.1, .bool h.2.2.2.2.2]
abbrev slotV (s : SlotT) : Value := .agg #[.int .i64 s.1, .int .i64 s.2.1, .int .i64 s.2.2.1, .bool s.2.2.2.1, .bool s.2.2.2.2]
abbrev heldV (h : HeldT) : Value := .agg #[.int .i64 h.1, .int .i64 h.2.1, .int .i64 h.2.2.1, .int .i64 h.2.2.2.1, .bool h.2.2.2.2.1, .bool h.2.2.2.2.2]
abbrev nameV (a b : Int) : Value := .agg #[.int .i64 a, .int .i64 b]
def W64 (x : Int) : Prop := (Lit.int .i64 x).wf = true

/-! ### Keys -/
def keyL (a b : Int) : Lit := .string (keyBytes [.int .i64 a, .int .i64 b])
theorem laidOutP : laidOutB Tryz.prog = true := by kernel_rfl
theorem keyRow : (93 : TypeId) < Tryz.prog.types.size := of_decide_eq_true (by kernel_rfl)
theorem keyed : Keyed Tryz.prog 93 := Keyed.of_law (deep_law_laid laidOutP (m := 2) (by omega) keyRow (by kernel_rfl) (by kernel_rfl))
theorem key_at {a b : Int} (ha : W64 a) (hb : W64 b) : keyOf Tryz.prog 93 (nameV a b) = some (keyL a b) := by
  have hf : (nameV a b).formed Tryz.prog 93 = true := by kernel_rfl
  have hk : Tryz.prog.keyType 93 = true := by kernel_rfl
  have hu : Tryz.prog.underlying 93 = some (.struct _) := Tryz.underlying93
  have h3 : Tryz.prog.underlying 3 = some (.int .i64) := Tryz.underlying3
  have c3 : Tryz.prog.cellsOf 3 = 1 := by kernel_rfl
  have ck : Tryz.prog.cellsOf 93 = 2 := by kernel_rfl
  have hsz : ∃ m, Tryz.prog.types.size = m + 1 := Nat.exists_eq_succ_of_ne_zero (fun h => by have := keyRow; rw [h] at this; exact absurd this (Nat.not_lt_zero _))
  obtain ⟨m, hm⟩ := hsz
  unfold keyOf
  simp only [hu]
  rw [if_pos (by rw [hk, hf]; rfl), hm]
  unfold Program.keyLits
  simp only [hu, Value.cells]
  rw [if_pos ⟨by rw [ck]; rfl, by kernel_rfl⟩]
  unfold W64 at ha hb
  simp [List.mapM_cons, c3, Program.keyLits, h3, ha, hb, keyL]
theorem key_inj {a b c d : Int} (ha : W64 a) (hb : W64 b) (hc : W64 c) (hd : W64 d) (h : keyL a b = keyL c d) : a = c ∧ b = d := by
  have := keyed.inj (key_at ha hb) (h ▸ key_at hc hd)
  simpa [nameV] using this
theorem key_lit {a b : Int} (ha : W64 a) (hb : W64 b) : WideAt.IsKeyLit (keyL a b) := keyed.key (key_at ha hb)

theorem lits_int {d : Nat} {c : Value} {L : List Lit} (h : Tryz.prog.keyLits (d + 1) 3 [c] = some L) : ∃ a, c = .int .i64 a ∧ W64 a ∧ L = [.int .i64 a] := by
  have h3 : Tryz.prog.underlying 3 = some (.int .i64) := Tryz.underlying3
  unfold Program.keyLits at h
  rw [h3] at h
  cases c <;> simp at h
  obtain ⟨⟨rfl, w⟩, rfl⟩ := h
  exact ⟨_, rfl, w, rfl⟩
theorem key_of {v : Value} {l : Lit} (h : keyOf Tryz.prog 93 v = some l) : ∃ a b, v = nameV a b ∧ W64 a ∧ W64 b ∧ l = keyL a b := by
  have hu : Tryz.prog.underlying 93 = some (.struct _) := Tryz.underlying93
  have h3 : Tryz.prog.underlying 3 = some (.int .i64) := Tryz.underlying3
  have c3 : Tryz.prog.cellsOf 3 = 1 := by kernel_rfl
  have ck : Tryz.prog.cellsOf 93 = 2 := by kernel_rfl
  obtain ⟨xs, L, rfl, hl, rfl⟩ := keyOf_top (by kernel_rfl) h
  clear h
  obtain ⟨m, hm⟩ : ∃ m, Tryz.prog.types.size = m + 1 := Nat.exists_eq_succ_of_ne_zero (fun h => by have := keyRow; rw [h] at this; exact absurd this (Nat.not_lt_zero _))
  rw [hm] at hl
  unfold Program.keyLits at hl
  simp only [hu] at hl
  split at hl
  · rename_i hc
    rw [ck] at hc
    obtain ⟨ys⟩ := xs
    have hlen : ys.length = 2 := hc.1
    obtain ⟨c0, c1, rfl⟩ : ∃ c0 c1, ys = [c0, c1] := by
      cases ys with
      | nil => simp at hlen
      | cons c0 r =>
        cases r with
        | nil => simp at hlen
        | cons c1 r =>
          cases r with
          | nil => exact ⟨c0, c1, rfl⟩
          | cons c2 r => simp at hlen
    clear hc hlen
    simp only [List.mapM_cons, List.mapM_nil, c3, List.drop_zero, List.drop_succ_cons, List.take_succ_cons, List.take_zero] at hl
    cases h0 : Tryz.prog.keyLits (m + 1) 3 [c0] with
    | none => rw [h0] at hl; simp at hl
    | some L0 =>
      cases h1 : Tryz.prog.keyLits (m + 1) 3 [c1] with
      | none => rw [h0, h1] at hl; simp at hl
      | some L1 =>
        rw [h0, h1] at hl
        obtain ⟨a, rfl, wa, rfl⟩ := lits_int h0
        obtain ⟨b, rfl, wb, rfl⟩ := lits_int h1
        simp at hl
        subst hl
        exact ⟨a, b, rfl, wa, wb, rfl⟩
  · cases hl

/-! ### Elements -/
def unHeld : List Value → Option HeldT
  | [.int .i64 p, .int .i64 a, .int .i64 b, .int .i64 c, .bool d, .bool e] => some (p, a, b, c, d, e)
  | _ => none
def heldR (v : Value) : Option (DataW HeldT × List MemPlace) := match v with
  | .agg cs => (unHeld cs.toList).map fun h => (.held h, [])
  | _ => none
theorem heldR_mk (h : HeldT) : heldR (heldV h) = some (.held h, []) := rfl
theorem unHeld_inv {l : List Value} {h : HeldT} (e : unHeld l = some h) : l = encHeld h := by
  unfold unHeld at e
  split at e
  · injection e with e; subst e; rfl
  · cases e
theorem heldR_inv {v : Value} {y : DataW HeldT × List MemPlace} (e : heldR v = some y) : ∃ h, v = heldV h ∧ y = (.held h, []) := by
  unfold heldR at e
  split at e
  · rename_i cs
    cases hu : unHeld cs.toList with
    | none => rw [hu] at e; cases e
    | some h =>
      rw [hu] at e
      refine ⟨h, ?_, by simpa using e.symm⟩
      have := unHeld_inv hu
      have hc : cs = (encHeld h).toArray := by rw [← this]
      rw [hc]; rfl
  · cases e

/-! ### Places -/
def ents : Nat → List (Option SlotT) → List (Lit × DataW HeldT)
  | _, [] => []
  | i, none :: r => ents (i + 1) r
  | i, some s :: r => (keyL s.1 s.2.1, .held ((i : Int), s)) :: ents (i + 1) r
/-- What a closure drops. -/
def dropH (g : HeldT → Bool) : Nat → List (Option SlotT) → List (Option SlotT)
  | _, [] => []
  | i, none :: r => none :: dropH g (i + 1) r
  | i, some s :: r => (if g ((i : Int), s) then none else some s) :: dropH g (i + 1) r
def onHeld (g : HeldT → Bool) : DataW HeldT → Bool
  | .held h => g h
  | _ => false
theorem ents_dropH (g : HeldT → Bool) : ∀ (i : Nat) (ps : List (Option SlotT)), ents i (dropH g i ps) = (ents i ps).filter (fun x => !onHeld g x.2)
  | _, [] => rfl
  | i, none :: r => by simp only [dropH, ents]; exact ents_dropH g (i + 1) r
  | i, some s :: r => by
    simp only [dropH, ents]
    by_cases h : g ((i : Int), s) = true
    · rw [if_pos h, List.filter_cons_of_neg (by simp [onHeld, h])]
      simp only [ents]
      exact ents_dropH g (i + 1) r
    · rw [if_neg h, List.filter_cons_of_pos (by simp [onHeld, h])]
      simp only [ents]
      rw [ents_dropH g (i + 1) r]
theorem dropH_len (g : HeldT → Bool) : ∀ (i : Nat) (ps : List (Option SlotT)), (dropH g i ps).length = ps.length
  | _, [] => rfl
  | i, none :: r => by simp [dropH, dropH_len g (i + 1) r]
  | i, some s :: r => by simp [dropH, dropH_len g (i + 1) r]
/-- An entry that a predicate on entries names is gone. -/
def off (g : SlotT → Bool) (o : Option SlotT) : Option SlotT := match o with
  | some s => if g s then none else some s
  | none => none
theorem dropH_slot (g : SlotT → Bool) : ∀ (i : Nat) (ps : List (Option SlotT)), dropH (fun h => g h.2) i ps = ps.map (off g)
  | _, [] => rfl
  | i, none :: r => by simp [dropH, off, dropH_slot g (i + 1) r]
  | i, some s :: r => by simp [dropH, off, dropH_slot g (i + 1) r]
theorem dropH_past (n : Nat) : ∀ (i : Nat) (ps : List (Option SlotT)), n < i → dropH (fun h => h.1 == (n : Int)) i ps = ps
  | _, [], _ => rfl
  | i, none :: r, h => by simp [dropH, dropH_past n (i + 1) r (by omega)]
  | i, some s :: r, h => by
    have : ((i : Int) == (n : Int)) = false := by simp; omega
    simp [dropH, this, dropH_past n (i + 1) r (by omega)]
theorem dropH_place (n : Nat) : ∀ (i : Nat) (ps : List (Option SlotT)), i ≤ n → dropH (fun h => h.1 == (n : Int)) i ps = ps.set (n - i) none
  | _, [], _ => rfl
  | i, o :: r, h => by
    by_cases e : i = n
    · subst e
      have := dropH_past i (i + 1) r (by omega)
      cases o <;> simp [dropH, this]
    · obtain ⟨k, hk⟩ : ∃ k, n - i = k + 1 := ⟨n - i - 1, by omega⟩
      have h1 := dropH_place n (i + 1) r (by omega)
      rw [show n - (i + 1) = k by omega] at h1
      have : ((i : Int) == (n : Int)) = false := by simp; omega
      cases o <;> simp [dropH, this, hk, h1]
theorem ents_len : ∀ (i : Nat) (ps : List (Option SlotT)), (ents i ps).length = (ps.filterMap id).length
  | _, [] => rfl
  | i, none :: r => by simp [ents, ents_len (i + 1) r]
  | i, some s :: r => by simp [ents, ents_len (i + 1) r]
theorem count_le (ps : List (Option SlotT)) : (ps.filterMap id).length ≤ ps.length := List.length_filterMap_le _ _
theorem mem_ents {x : Lit × DataW HeldT} : ∀ (i : Nat) (ps : List (Option SlotT)), x ∈ ents i ps ↔ ∃ (k : Nat) (s : SlotT), ps[k]? = some (some s) ∧ x = (keyL s.1 s.2.1, .held (((i + k : Nat) : Int), s))
  | i, [] => by simp [ents]
  | i, none :: r => by
    simp only [ents]
    rw [mem_ents (i + 1) r]
    constructor
    · rintro ⟨k, s, h, e⟩
      exact ⟨k + 1, s, by simpa using h, by rw [e]; congr 3; omega⟩
    · rintro ⟨k, s, h, e⟩
      cases k with
      | zero => simp at h
      | succ k => exact ⟨k, s, by simpa using h, by rw [e]; congr 3; omega⟩
  | i, some t :: r => by
    simp only [ents, List.mem_cons]
    rw [mem_ents (i + 1) r]
    constructor
    · rintro (rfl | ⟨k, s, h, e⟩)
      · exact ⟨0, t, by simp, by simp⟩
      · exact ⟨k + 1, s, by simpa using h, by rw [e]; congr 3; omega⟩
    · rintro ⟨k, s, h, e⟩
      cases k with
      | zero =>
        simp at h
        subst h
        left
        simpa using e
      | succ k => exact Or.inr ⟨k, s, by simpa using h, by rw [e]; congr 3; omega⟩

/-- The places are good: numbers are in their kind's range, and no two entries have one name. -/
structure Good (ps : List (Option SlotT)) : Prop where
  wf : ∀ (i : Nat) (s : SlotT), ps[i]? = some (some s) → W64 s.1 ∧ W64 s.2.1
  one : ∀ (i j : Nat) (s t : SlotT), ps[i]? = some (some s) → ps[j]? = some (some t) → s.1 = t.1 → s.2.1 = t.2.1 → i = j
/-- Block m is a map that stands for the places. -/
structure Holds (w : World) (m : Nat) (ps : List (Option SlotT)) : Prop where
  own : ∃ es, w.ownsMap Tryz.prog 93 heldR m 64 (.map es) ∧ es.Perm (ents 0 ps)
theorem tight {H : Type} {w : World} {P : Program} {k : TypeId} {R : Value → Option (DataW H × List MemPlace)} {b n : Nat} {es : List (Lit × DataW H)} (h : w.ownsMap P k R b n (.map es)) : w.ownsMap P k R b es.length (.map es) := by
  obtain ⟨xs, clock, hb, F, hs, hD⟩ := h
  refine ⟨xs, clock, hb, F, ?_, hD⟩
  injection hD with hD
  rw [hD, length_sorted]
  simp
theorem Holds.of {w : World} {m n : Nat} {ps : List (Option SlotT)} {es : List (Lit × DataW HeldT)} (h : w.ownsMap Tryz.prog 93 heldR m n (.map es)) (hp : es.Perm (ents 0 ps)) (hl : ps.length ≤ 64) : Holds w m ps :=
  ⟨es, (tight h).mono (by rw [hp.length_eq, ents_len]; have := count_le ps; omega), hp⟩
theorem Holds.kept {w w' : World} {m : Nat} {ps : List (Option SlotT)} {S : List Nat} (h : Holds w m ps) (ho : Only S w w') (hm : m ∉ S) : Holds w' m ps := by
  obtain ⟨es, ⟨xs, clock, hb, F, hs, hD⟩, hp⟩ := h.own
  have hlt := (Array.getElem?_eq_some_iff.1 hb).1
  exact ⟨es, ⟨xs, clock, (ho.block m hlt hm).trans hb, F, hs, hD⟩, hp⟩
theorem Holds.lt {w : World} {m : Nat} {ps : List (Option SlotT)} (h : Holds w m ps) : m < w.heap.size := by
  obtain ⟨es, ho, _⟩ := h.own
  exact ho.lt
theorem only_grown {w w' : World} {m : Nat} (h : w.grownBy w' (some m)) : Only [m] w w' :=
  ⟨h.os, h.tape, h.output, h.size, fun k hk hn => h.block k hk (fun e => hn (by injection e with e; simp [e]))⟩
theorem only_grown0 {w w' : World} (h : w.grownBy w' none) : Only [] w w' :=
  ⟨h.os, h.tape, h.output, h.size, fun k hk _ => h.block k hk (fun e => by cases e)⟩
theorem grown_only {w w' : World} (h : Only [] w w') : w.grownBy w' none :=
  ⟨h.os, h.tape, h.output, h.size, fun k hk _ => h.block k hk (by simp)⟩
/-- A block's cells, told as a whole. -/
def Lay (w : World) (b : Nat) (t : TypeId) (cs : List Value) : Prop := w.heap[b]? = some (.cells cs.toArray t (0, 0))
theorem Lay.new (w : World) (t : TypeId) (cs : List Value) : Lay (w.alloc (.cells cs.toArray t)) w.heap.size t cs := (MapKept.heap_alloc w _).1
theorem Lay.lt {w : World} {b : Nat} {t : TypeId} {cs : List Value} (h : Lay w b t cs) : b < w.heap.size := (Array.getElem?_eq_some_iff.1 h).1
theorem Lay.kept {w w' : World} {b : Nat} {t : TypeId} {cs : List Value} {S : List Nat} (h : Lay w b t cs) (ho : Only S w w') (hb : b ∉ S) : Lay w' b t cs := (ho.block b h.lt hb).trans h
theorem Lay.alloc {w : World} {b : Nat} {t : TypeId} {cs : List Value} (h : Lay w b t cs) (o : Obj) : Lay (w.alloc o) b t cs := h.kept (Only.alloc [] w o) (by simp)
theorem Lay.cell {w : World} {b : Nat} {t : TypeId} {cs : List Value} (h : Lay w b t cs) (j : Nat) : w.cell? ⟨b, j, none⟩ = cs[j]? := by
  unfold Lay at h
  simp [World.cell?, h]
theorem Lay.free {w : World} {b : Nat} {t : TypeId} {cs : List Value} (h : Lay w b t cs) (j : Nat) : w.frozen? ⟨b, j, none⟩ = false := by
  unfold Lay at h
  simp [World.frozen?, h]
theorem Lay.set {w : World} {b : Nat} {t : TypeId} {cs : List Value} (h : Lay w b t cs) (j : Nat) (v : Value) : Lay (w.setCell ⟨b, j, none⟩ v) b t (cs.set j v) := by
  have hlt := h.lt
  unfold Lay at h ⊢
  obtain ⟨hl, hk⟩ := Array.getElem?_eq_some_iff.1 h
  show (w.heap.modify b _)[b]? = _
  rw [Array.getElem?_eq_getElem (by rw [Array.size_modify]; exact hl), Array.getElem_modify_self, hk]
  simp
/-- A TLB: its own cells, its map's block, its room, its next place, and what stands in its places. -/
structure Tlb (w : World) (p m room next : Nat) (ps : List (Option SlotT)) : Prop where
  lt : p < w.heap.size
  c0 : w.cell? ⟨p, 0, none⟩ = some (.int .i64 (room : Int))
  c1 : w.cell? ⟨p, 1, none⟩ = some (.int .i64 (next : Int))
  c2 : w.cell? ⟨p, 2, none⟩ = some (.map (some m))
  f1 : w.frozen? ⟨p, 1, none⟩ = false
  map : Holds w m ps
  ne : p ≠ m
  len : ps.length = room
  low : 1 ≤ room
  high : room ≤ 64
  nlt : next < room
  good : Good ps
theorem Tlb.kept {w w' : World} {p m room next : Nat} {ps : List (Option SlotT)} {S : List Nat} (h : Tlb w p m room next ps) (ho : Only S w w') (hp : p ∉ S) (hm : m ∉ S) : Tlb w' p m room next ps :=
  { h with lt := Nat.lt_of_lt_of_le h.lt ho.size, c0 := (ho.cell h.lt hp 0).trans h.c0, c1 := (ho.cell h.lt hp 1).trans h.c1, c2 := (ho.cell h.lt hp 2).trans h.c2, f1 := (ho.frozen h.lt hp 1).trans h.f1, map := h.map.kept ho hm }
/-- The map is turned. -/
theorem Tlb.turned {w w' : World} {p m room next : Nat} {ps ps' : List (Option SlotT)} {S : List Nat} (h : Tlb w p m room next ps) (ho : Only S w w') (hp : p ∉ S) (hm : Holds w' m ps') (hl : ps'.length = ps.length) (hg : Good ps') : Tlb w' p m room next ps' :=
  { h with lt := Nat.lt_of_lt_of_le h.lt ho.size, c0 := (ho.cell h.lt hp 0).trans h.c0, c1 := (ho.cell h.lt hp 1).trans h.c1, c2 := (ho.cell h.lt hp 2).trans h.c2, f1 := (ho.frozen h.lt hp 1).trans h.f1, map := hm, len := hl.trans h.len, good := hg }
theorem dropH_at (g : HeldT → Bool) : ∀ (i : Nat) (ps : List (Option SlotT)) (k : Nat) (s : SlotT), (dropH g i ps)[k]? = some (some s) → ps[k]? = some (some s)
  | _, [], k, s, h => by simp [dropH] at h
  | i, none :: r, 0, s, h => by simp [dropH] at h
  | i, some t :: r, 0, s, h => by
    simp only [dropH] at h
    by_cases e : g ((i : Int), t) = true
    · rw [if_pos e] at h; simp at h
    · rw [if_neg e] at h; exact h
  | i, none :: r, k + 1, s, h => by
    simp only [dropH, List.getElem?_cons_succ] at h
    simpa using dropH_at g (i + 1) r k s h
  | i, some t :: r, k + 1, s, h => by
    simp only [dropH, List.getElem?_cons_succ] at h
    simpa using dropH_at g (i + 1) r k s h
theorem Good.drop {ps : List (Option SlotT)} (h : Good ps) (g : HeldT → Bool) (i : Nat) : Good (dropH g i ps) :=
  ⟨fun k s e => h.wf k s (dropH_at g i ps k s e), fun k j s t e e' => h.one k j s t (dropH_at g i ps k s e) (dropH_at g i ps j t e')⟩
/-- How many entries there are. -/
def count (ps : List (Option SlotT)) : Nat := (ps.filterMap id).length
theorem dropH_count (g : HeldT → Bool) (i : Nat) (ps : List (Option SlotT)) : count (dropH g i ps) ≤ count ps := by
  unfold count
  rw [← ents_len i, ← ents_len i, ents_dropH]
  exact List.length_filter_le _ _
end Tl
end Go.Proofs.YtiiggmfindfkfaaGreat
namespace Go.Proofs.YtiiggmfindfkfaaGreat
open Go.RowKit Go.Maps Go.Shelf
namespace Tl
open Ph (Only)

set_option maxRecDepth 100000 in
set_option maxHeartbeats 4000000 in
theorem delete_any (pd : Lit → DataW HeldT → Bool) (g : Nat) (cb : Array Value) (b n : Nat) (D : DataW HeldT) (w : World)
    (eg : ∀ args w, (callFunc g args).run Tryz.prog w = .ok (.enter g args) w) (hown : w.ownsMap Tryz.prog 93 heldR b n D)
    (hdel : ∀ (W : World) (x y : Int) (h : HeldT), w.grownBy W (some b) → W64 x → W64 y →
      Calls Tryz.prog g (#[nameV x y, heldV h] ++ cb) W fun e w' => e = .returned (.bool (pd (keyL x y) (.held h))) ∧ W.grownBy w' none) :
    Calls Tryz.prog 103 #[.map (some b), .func (.func g) #[] cb] w fun e w' => e = .returned (.tuple #[]) ∧ w'.ownsMap Tryz.prog 93 heldR b n (Lib.deleteFuncD pd D) ∧ w.grownBy w' (some b) := by
  obtain ⟨es0, rfl, hap, hkeys⟩ := hown.entries keyed
  have HD := Lib.hid hdel
  clear hdel
  go_enter Tryz.func103, Tryz.ntmps103
  go_wp2_with (first
    | (at_range; refine wpList_range_own _ rfl _ 97 rfl 93 95 keyed Tryz.underlying97 heldR b n _ rfl hown ?_; intro w0 hrg0 hg0 hs0)
    | go_in)
  go_frame
  go_loopw [8] (fun _ wr => ∃ (left : Lit → Bool) (cnt : Nat), wr.ranges Tryz.prog 93 heldR b w.heap.size n (Fk pd es0 left) left cnt ∧ w.grownBy wr (some b))
    (fun _ wr => wr.rangeLeft b w.heap.size)
  case atStart => exact ⟨_, _, by rw [Fk_start hkeys]; exact hrg0, hg0.but _⟩
  case round =>
    obtain ⟨left, cnt, hrg, hgw⟩ := hrel
    go_wp2_with (first
      | (at_next; refine wpList_next_ranges _ rfl _ rfl 93 keyed heldR id id (fun key _ _ => ⟨key, rfl⟩) (fun v _ _ => ⟨v, rfl⟩) b w.heap.size n _ _ _ rfl hrg ?_ ?_)
      | go_in)
    · intro _ hl0
      go_wp2
      go_end0
      exact ⟨rfl, by rw [← Fk_end hl0]; exact hrg.owns, hgw⟩
    · intro x c kl yd yp w1 cnt1 hkey hlx hv hat hrg1 hlt hg1 hs1 hen
      obtain ⟨kx, ky, rfl, wx, wy, rfl⟩ := key_of hkey
      obtain ⟨c, rfl, ey⟩ := heldR_inv hv
      obtain ⟨rfl, rfl⟩ := Prod.mk.inj ey
      have hgw1 := hgw.andThen hg1 (fun j hj => by cases hj; exact Or.inl (Nat.le_refl _))
      have hbl := hrg1.owns.lt
      have hrl := hrg1.lt
      have hc : ∀ W, w1.grownBy W none → Calls Tryz.prog g (#[nameV kx ky, heldV c] ++ cb) W fun e w' => e = .returned (.bool (pd (keyL kx ky) (.held c))) ∧ W.grownBy w' none := fun W hW => HD.out W kx ky c (hgw1.andThen hW (fun j hj => by cases hj)) wx wy
      clear hs1
      cases hp : pd (keyL kx ky) (.held c) <;> rw [hp] at hc
      · go_wp2_with fail
        refine (hc _ ((World.grownBy_alloc w1 _ none).trans (World.grownBy_alloc _ _ none))).mono ?_
        rintro e w2 ⟨rfl, hg2⟩
        have hg12 := ((World.grownBy_alloc w1 _ none).trans (World.grownBy_alloc _ _ none)).trans hg2
        have hrg2 := hrg1.kept hg12 (by simp) (by simp)
        go_wp2
        go_roundw
        case rel => exact ⟨_, cnt1, by rw [← Fk_stays hap (keyed.key hkey) hlx hp hat]; exact hrg2, hgw1.andThen hg12 (fun j hj => by cases hj)⟩
        case measure => rw [hrg2.left_eq, hrg.left_eq]; exact hlt
      · go_wp2_with fail
        refine (hc _ ((World.grownBy_alloc w1 _ none).trans (World.grownBy_alloc _ _ none))).mono ?_
        rintro e w2 ⟨rfl, hg2⟩
        have hg12 := ((World.grownBy_alloc w1 _ none).trans (World.grownBy_alloc _ _ none)).trans hg2
        have hrg2 := hrg1.kept hg12 (by simp) (by simp)
        have L2 := ((Lay.new w1 93 [.int .i64 kx, .int .i64 ky]).alloc _).kept (only_grown0 hg2) (by simp)
        have k0 := L2.cell 0
        have k1 := L2.cell 1
        simp only [List.getElem?_cons_zero, List.getElem?_cons_succ] at k0 k1
        go_wp2_with (first
          | (at_delete; refine wpList_delete_ranges _ rfl _ _ 97 93 rfl 95 keyed Tryz.underlying97 heldR b w.heap.size n _ _ _ rfl hrg2 _ _ rfl hkey ?_; intro w3 cnt3 hrg3 hle hturn; go_frame)
          | go_in)
        rw [strike_twice] at hrg3
        go_roundw
        case rel => exact ⟨_, cnt3, by rw [← Fk_struck hap (keyed.key hkey) hlx hp hat]; exact hrg3, (hgw1.andThen hg12 (fun j hj => by cases hj)).andThen hturn.grown (fun j hj => by cases hj; exact Or.inr rfl)⟩
        case measure => rw [hrg3.left_eq, hrg.left_eq]; omega

/-- drop's own closure: what the closure that came in says. -/
theorem dropc_any (gf : Nat) (cb : Array Value) (r : Bool) (bx : Nat) (a b : Int) (h : HeldT) (W : World) (eg : ∀ args w, (callFunc gf args).run Tryz.prog w = .ok (.enter gf args) w)
    (hbox : Lay W bx 130 [.func (.func gf) #[] cb])
    (hc : ∀ W', W.grownBy W' none → Calls Tryz.prog gf (#[heldV h] ++ cb) W' fun e w' => e = .returned (.bool r) ∧ W'.grownBy w' none) :
    Calls Tryz.prog 104 #[nameV a b, heldV h, .pointer (some ⟨bx, 0, none⟩)] W fun e w' => e = .returned (.bool r) ∧ W.grownBy w' none := by
  have hlt := hbox.lt
  have k0 := hbox.cell 0
  simp only [List.getElem?_cons_zero] at k0
  clear hbox
  go_enter Tryz.func104, Tryz.ntmps104
  go_wp2_with fail
  refine (hc _ ((World.grownBy_alloc W _ none).trans (World.grownBy_alloc _ _ none))).mono ?_
  rintro e w2 ⟨rfl, hg2⟩
  go_wp2
  go_ret
  exact ⟨rfl, ((World.grownBy_alloc W _ none).trans (World.grownBy_alloc _ _ none)).trans hg2⟩
set_option maxRecDepth 100000 in
theorem drop_any (gf : Nat) (cb : Array Value) (g : HeldT → Bool) (p m room next : Nat) (ps : List (Option SlotT)) (w : World) (hT : Tlb w p m room next ps) (eg : ∀ args w, (callFunc gf args).run Tryz.prog w = .ok (.enter gf args) w)
    (hg : ∀ (W : World) (h : HeldT), Only [m] w W → Calls Tryz.prog gf (#[heldV h] ++ cb) W fun e w' => e = .returned (.bool (g h)) ∧ W.grownBy w' none) :
    Calls Tryz.prog 84 #[.pointer (some ⟨p, 0, none⟩), .func (.func gf) #[] cb] w fun e w' => e = .returned (.int .i64 ((count ps : Int) - count (dropH g 0 ps))) ∧ Tlb w' p m room next (dropH g 0 ps) ∧ Only [m] w w' := by
  have HT := Lib.hid hT
  obtain ⟨es, hown, hperm⟩ := hT.map.own
  have hes : es.length = count ps := by rw [hperm.length_eq, ents_len]; rfl
  have hperm' : (es.filter (fun x => !onHeld g x.2)).Perm (ents 0 (dropH g 0 ps)) := by rw [ents_dropH]; exact hperm.filter _
  have hes' : (es.filter (fun x => !onHeld g x.2)).length = count (dropH g 0 ps) := by rw [hperm'.length_eq, ents_len]; rfl
  have hm64 : count ps ≤ 64 := Nat.le_trans (count_le ps) (by rw [hT.len]; exact hT.high)
  have hle := dropH_count g 0 ps
  have k2 := hT.c2
  have hlt := hT.lt
  have hml := hT.map.lt
  have hcl : ∀ (W : World) (x y : Int) (h : HeldT), (w.alloc (.cells #[.func (.func gf) #[] cb] 130)).grownBy W (some m) → W64 x → W64 y →
      Calls Tryz.prog 104 (#[nameV x y, heldV h] ++ #[.pointer (some ⟨w.heap.size, 0, none⟩)]) W fun e w' => e = .returned (.bool ((fun _ d => onHeld g d) (keyL x y) (.held h))) ∧ W.grownBy w' none := fun W x y h hW _ _ =>
    dropc_any gf cb (g h) w.heap.size x y h W eg ((Lay.new w 130 [.func (.func gf) #[] cb]).kept (only_grown hW) (by simp; omega)) (fun W' hW' => hg W' h ((Only.alloc [m] w _).trans ((only_grown hW).trans ((only_grown0 hW').mono (by simp)))))
  have HC := Lib.hid (delete_any (fun _ d => onHeld g d) 104 #[.pointer (some ⟨w.heap.size, 0, none⟩)] m 64 (.map es) _ (enters_of Tryz.func104 (by kernel_rfl) rfl) (hown.alloc _) hcl)
  clear hcl hg eg hT
  have hql := dropH_len g 0 ps
  have hqg := HT.out.good.drop g 0
  generalize dropH g 0 ps = qs at hle hes' hperm' hql hqg ⊢
  generalize hD : es.filter (fun x => !onHeld g x.2) = es' at hes' hperm'
  go_enter Tryz.func84, Tryz.ntmps84
  go_wp2_with (first
    | (at_len; refine wpList_len_own _ rfl _ 97 rfl 93 95 Tryz.underlying97 heldR m 64 (.map es') rfl hown2 ?_)
    | (at_len; refine wpList_len_own _ rfl _ 97 rfl 93 95 Tryz.underlying97 heldR m 64 (.map es) rfl (hown.alloc _) ?_)
    | fail)
  refine HC.out.mono ?_
  rintro e w2 ⟨rfl, hown2, hg2⟩
  replace hown2 : w2.ownsMap Tryz.prog 93 heldR m 64 (.map es') := by rw [← hD]; exact hown2
  have hO : Only [m] w w2 := (Only.alloc [m] w _).trans (only_grown hg2)
  have k2' : w2.cell? ⟨p, 2, none⟩ = some (.map (some m)) := (hO.cell hlt (by simp; exact HT.out.ne) 2).trans k2
  have hs1 : Maps.size (DataW.map es) = count ps := hes
  have hs2 : Maps.size (DataW.map es') = count qs := hes'
  go_wp2_with (first
    | (at_len; refine wpList_len_own _ rfl _ 97 rfl 93 95 Tryz.underlying97 heldR m 64 (.map es') rfl hown2 ?_)
    | fail)
  go_ret
  exact ⟨rfl, HT.out.turned hO (by simp; exact HT.out.ne) (Holds.of hown2 hperm' (by rw [hql, HT.out.len]; exact HT.out.high)) hql hqg, hO⟩
end Tl
end Go.Proofs.YtiiggmfindfkfaaGreat
namespace Go.Proofs.YtiiggmfindfkfaaGreat
open Go.RowKit Go.Maps Go.WideShapes Go.ChangeShapes
namespace Tl
open Ph (Only)

def zeroH : HeldT := (0, 0, 0, 0, false, false)
/-- Has an entry this name? -/
def named (a b : Int) (s : SlotT) : Bool := decide (s.1 = a) && decide (s.2.1 = b)
theorem named_iff {a b : Int} {s : SlotT} : named a b s = true ↔ s.1 = a ∧ s.2.1 = b := by simp [named]
/-- The entry of a name, in its place. -/
def findP (a b : Int) : Nat → List (Option SlotT) → Option HeldT
  | _, [] => none
  | i, none :: r => findP a b (i + 1) r
  | i, some s :: r => if named a b s then some ((i : Int), s) else findP a b (i + 1) r
theorem findP_some {a b : Int} {h : HeldT} : ∀ {i : Nat} {ps : List (Option SlotT)}, findP a b i ps = some h → ∃ k s, ps[k]? = some (some s) ∧ h = (((i + k : Nat) : Int), s) ∧ named a b s = true
  | i, [], e => by simp [findP] at e
  | i, none :: r, e => by
    obtain ⟨k, s, h1, h2, h3⟩ := findP_some (i := i + 1) (ps := r) e
    exact ⟨k + 1, s, by simpa using h1, by rw [h2]; congr 2; omega, h3⟩
  | i, some t :: r, e => by
    simp only [findP] at e
    by_cases hn : named a b t = true
    · rw [if_pos hn] at e
      injection e with e
      exact ⟨0, t, by simp, by rw [← e]; simp, hn⟩
    · rw [if_neg hn] at e
      obtain ⟨k, s, h1, h2, h3⟩ := findP_some (i := i + 1) (ps := r) e
      exact ⟨k + 1, s, by simpa using h1, by rw [h2]; congr 2; omega, h3⟩
theorem findP_none {a b : Int} : ∀ {i : Nat} {ps : List (Option SlotT)}, findP a b i ps = none → ∀ (k : Nat) (s : SlotT), ps[k]? = some (some s) → named a b s = false
  | i, [], _, k, s, h => by simp at h
  | i, none :: r, e, 0, s, h => by simp at h
  | i, none :: r, e, k + 1, s, h => findP_none (i := i + 1) (ps := r) e k s (by simpa using h)
  | i, some t :: r, e, k, s, h => by
    simp only [findP] at e
    by_cases hn : named a b t = true
    · rw [if_pos hn] at e; cases e
    · rw [if_neg hn] at e
      cases k with
      | zero =>
        simp at h
        subst h
        simpa using hn
      | succ k => exact findP_none (i := i + 1) (ps := r) e k s (by simpa using h)
theorem Good.mem {ps : List (Option SlotT)} (h : Good ps) {s : SlotT} (hs : some s ∈ ps) : W64 s.1 ∧ W64 s.2.1 := by
  obtain ⟨i, hi⟩ := List.mem_iff_getElem?.1 hs
  exact h.wf i s hi
theorem same_key {a b c d : Int} (ha : W64 a) (hb : W64 b) (hc : W64 c) (hd : W64 d) : (keyL a b).sameKey (keyL c d) = (decide (a = c) && decide (b = d)) := by
  by_cases h : a = c ∧ b = d
  · obtain ⟨rfl, rfl⟩ := h
    rw [WideAt.sameKey_self (key_lit ha hb)]; simp
  · rw [sameKey_ne (fun e => h (key_inj ha hb hc hd e))]
    cases h1 : decide (a = c) <;> cases h2 : decide (b = d) <;> simp_all
theorem ents_any {a b : Int} (ha : W64 a) (hb : W64 b) : ∀ (i : Nat) (ps : List (Option SlotT)), (∀ s, some s ∈ ps → W64 s.1 ∧ W64 s.2.1) → (ents i ps).any (fun p => p.1.sameKey (keyL a b)) = (findP a b i ps).isSome
  | _, [], _ => rfl
  | i, none :: r, h => by
    simp only [ents, findP]
    exact ents_any ha hb (i + 1) r (fun s hs => h s (by simp [hs]))
  | i, some t :: r, h => by
    have ht := h t (by simp)
    simp only [ents, findP, List.any_cons]
    rw [same_key ht.1 ht.2 ha hb, ents_any ha hb (i + 1) r (fun s hs => h s (by simp [hs]))]
    show (named a b t || _) = _
    by_cases hn : named a b t = true
    · rw [if_pos hn, hn]; rfl
    · rw [if_neg hn]; simp [hn]
theorem has_at {a b : Int} {ps : List (Option SlotT)} {es : List (Lit × DataW HeldT)} (hp : es.Perm (ents 0 ps)) (hg : Good ps) (ha : W64 a) (hb : W64 b) : Maps.has (.map es) (keyL a b) = (findP a b 0 ps).isSome := by
  rw [has_eq, hp.any_eq]
  exact ents_any ha hb 0 ps (fun s hs => hg.mem hs)
theorem key_look {a b : Int} {ps : List (Option SlotT)} {es : List (Lit × DataW HeldT)} (hp : es.Perm (ents 0 ps)) (hap : es.Pairwise (fun p q => p.1 ≠ q.1)) (hg : Good ps) (ha : W64 a) (hb : W64 b) (z : HeldT) :
    (DataW.map es).atKey (keyL a b) (.held z) = .held ((findP a b 0 ps).getD z) := by
  cases h : findP a b 0 ps with
  | none => exact atKey_of_not_has (by rw [has_at hp hg ha hb, h]; rfl) _
  | some x =>
    obtain ⟨k, s, h1, rfl, h3⟩ := findP_some h
    obtain ⟨rfl, rfl⟩ := named_iff.1 h3
    exact WideAt.atKey_mem (.held z) (key_lit ha hb) hap (hp.mem_iff.2 ((mem_ents 0 ps).2 ⟨k, s, h1, rfl⟩))
/-- An entry of a name is gone. -/
def delP (a b : Int) (ps : List (Option SlotT)) : List (Option SlotT) := ps.map (off (named a b))
theorem ents_del {a b : Int} {ps : List (Option SlotT)} (hg : Good ps) (ha : W64 a) (hb : W64 b) : (ents 0 ps).filter (fun x => !x.1.sameKey (keyL a b)) = ents 0 (delP a b ps) := by
  unfold delP
  rw [← dropH_slot _ 0, ents_dropH]
  refine List.filter_congr (fun x hx => ?_)
  obtain ⟨k, s, h1, rfl⟩ := (mem_ents 0 ps).1 hx
  have := hg.wf k s h1
  rw [same_key this.1 this.2 ha hb]
  rfl
theorem del_perm {a b : Int} {ps : List (Option SlotT)} {es : List (Lit × DataW HeldT)} (hp : es.Perm (ents 0 ps)) (hg : Good ps) (ha : W64 a) (hb : W64 b) : ∃ es', (DataW.map es).del (keyL a b) = .map es' ∧ es'.Perm (ents 0 (delP a b ps)) :=
  ⟨_, rfl, by rw [← ents_del hg ha hb]; exact hp.filter _⟩
theorem Good.del {ps : List (Option SlotT)} (h : Good ps) (a b : Int) : Good (delP a b ps) := by
  unfold delP
  rw [← dropH_slot _ 0]
  exact h.drop _ _
theorem ents_set (s : SlotT) : ∀ (k i : Nat) (ps : List (Option SlotT)), i < ps.length → (ents k (ps.set i (some s))).Perm ((keyL s.1 s.2.1, .held (((k + i : Nat) : Int), s)) :: ents k (ps.set i none))
  | k, i, [], h => by simp at h
  | k, 0, o :: r, _ => by simp [ents]
  | k, i + 1, none :: r, h => by
    simp only [List.set_cons_succ, ents]
    have := ents_set s (k + 1) i r (by simpa using h)
    rwa [show k + 1 + i = k + (i + 1) by omega] at this
  | k, i + 1, some t :: r, h => by
    simp only [List.set_cons_succ, ents]
    have := ents_set s (k + 1) i r (by simpa using h)
    rw [show k + 1 + i = k + (i + 1) by omega] at this
    exact (this.cons _).trans (List.Perm.swap _ _ _)
theorem put_perm {s : SlotT} {i : Nat} {ps : List (Option SlotT)} {es : List (Lit × DataW HeldT)} (hp : es.Perm (ents 0 ps)) (hg : Good ps) (ha : W64 s.1) (hb : W64 s.2.1) (hi : i < ps.length) (ho : delP s.1 s.2.1 ps = ps.set i none) :
    ∃ es', (DataW.map es).put (keyL s.1 s.2.1) (.held ((i : Int), s)) = .map es' ∧ es'.Perm (ents 0 (ps.set i (some s))) := by
  refine ⟨_, rfl, ?_⟩
  have h1 := ents_set s 0 i ps hi
  rw [← ho, ← ents_del hg ha hb, Nat.zero_add] at h1
  exact (insert_perm _ _).trans (((hp.filter _).cons _).trans h1.symm)
theorem Good.put {s : SlotT} {i : Nat} {ps : List (Option SlotT)} (h : Good ps) (ha : W64 s.1) (hb : W64 s.2.1) (ho : delP s.1 s.2.1 ps = ps.set i none) : Good (ps.set i (some s)) := by
  have none_named : ∀ (k : Nat) (t : SlotT), k ≠ i → ps[k]? = some (some t) → ¬ (s.1 = t.1 ∧ s.2.1 = t.2.1) := by
    rintro k t hk hkt ⟨e1, e2⟩
    have h1 : (ps.set i none)[k]? = some (some t) := by rw [List.getElem?_set_ne (Ne.symm hk)]; exact hkt
    rw [← ho] at h1
    unfold delP at h1
    rw [List.getElem?_map, hkt] at h1
    have : named s.1 s.2.1 t = true := named_iff.2 ⟨e1.symm, e2.symm⟩
    simp [off, this] at h1
  have one : ∀ (k : Nat) (t : SlotT), (ps.set i (some s))[k]? = some (some t) → (k = i ∧ t = s) ∨ (k ≠ i ∧ ps[k]? = some (some t)) := by
    intro k t e
    by_cases hk : k = i
    · subst hk
      left
      refine ⟨rfl, ?_⟩
      by_cases hl : k < ps.length
      · rw [List.getElem?_set_self hl] at e; simpa using e.symm
      · rw [List.getElem?_eq_none (by simpa using hl)] at e; cases e
    · rw [List.getElem?_set_ne (Ne.symm hk)] at e
      exact Or.inr ⟨hk, e⟩
  refine ⟨fun k t e => ?_, fun k j t u e e' h1 h2 => ?_⟩
  · rcases one k t e with ⟨_, rfl⟩ | ⟨_, e⟩
    · exact ⟨ha, hb⟩
    · exact h.wf k t e
  · rcases one k t e with ⟨k1, k2⟩ | ⟨hk, e1⟩
    · rcases one j u e' with ⟨j1, _⟩ | ⟨hj, e2⟩
      · rw [k1, j1]
      · exact absurd (by rw [← k2]; exact ⟨h1, h2⟩) (none_named j u hj e2)
    · rcases one j u e' with ⟨_, j2⟩ | ⟨_, e2⟩
      · exact absurd (by rw [← j2]; exact ⟨h1.symm, h2.symm⟩) (none_named k t hk e1)
      · exact h.one k j t u e1 e2 h1 h2
/-- An entry that is found is the only one of its name. -/
theorem del_found {a b : Int} {k : Nat} {s : SlotT} {ps : List (Option SlotT)} (h : Good ps) (hk : ps[k]? = some (some s)) (hn : named a b s = true) : delP a b ps = ps.set k none := by
  apply List.ext_getElem?
  intro j
  unfold delP
  rw [List.getElem?_map]
  by_cases hj : j = k
  · subst hj
    have hl : j < ps.length := (List.getElem?_eq_some_iff.1 hk).1
    rw [hk, List.getElem?_set_self hl]
    simp [off, hn]
  · rw [List.getElem?_set_ne (Ne.symm hj)]
    cases hp : ps[j]? with
    | none => rfl
    | some o =>
      cases o with
      | none => rfl
      | some t =>
        have : named a b t = false := by
          cases hb : named a b t
          · rfl
          · obtain ⟨e1, e2⟩ := named_iff.1 hb
            obtain ⟨f1, f2⟩ := named_iff.1 hn
            exact absurd (h.one j k t s hp hk (e1.trans f1.symm) (e2.trans f2.symm)) hj
        simp [off, this]
theorem del_none {a b : Int} {ps : List (Option SlotT)} (h : ∀ (k : Nat) (s : SlotT), ps[k]? = some (some s) → named a b s = false) : delP a b ps = ps := by
  apply List.ext_getElem?
  intro j
  unfold delP
  rw [List.getElem?_map]
  cases hp : ps[j]? with
  | none => rfl
  | some o =>
    cases o with
    | none => rfl
    | some t => simp [off, h j t hp]
theorem del_taken {a b : Int} {k : Nat} {ps : List (Option SlotT)} (h : findP a b 0 ps = none) : delP a b (ps.set k none) = (ps.set k none).set k none := by
  rw [List.set_set]
  refine del_none (fun j s hs => ?_)
  by_cases hj : j = k
  · subst hj
    by_cases hl : j < ps.length
    · rw [List.getElem?_set_self hl] at hs; simp at hs
    · rw [List.getElem?_eq_none (by simpa using hl)] at hs; cases hs
  · rw [List.getElem?_set_ne (Ne.symm hj)] at hs
    exact findP_none h j s hs
theorem ents_none : ∀ (i n : Nat), ents i (List.replicate n none) = []
  | _, 0 => rfl
  | i, n + 1 => by rw [List.replicate_succ]; exact ents_none (i + 1) n
theorem good_none (n : Nat) : Good (List.replicate n none) := by
  refine ⟨fun i s h => ?_, fun i j s t h => ?_⟩
  all_goals
    have := List.mem_of_getElem? h
    simp at this
/-- An entry is kept: where the next place is then, and what stands in the places. -/
def fillN (room next : Nat) (ps : List (Option SlotT)) (s : SlotT) : Nat := match findP s.1 s.2.1 0 ps with
  | some _ => next
  | none => (next + 1) % room
def fillP (next : Nat) (ps : List (Option SlotT)) (s : SlotT) : List (Option SlotT) := match findP s.1 s.2.1 0 ps with
  | some h => ps.set h.1.toNat (some s)
  | none => ps.set next (some s)
/-- The entries, in the order of their places. -/
def slots (ps : List (Option SlotT)) : List SlotT := ps.filterMap id
end Tl
end Go.Proofs.YtiiggmfindfkfaaGreat
namespace Go.Proofs.YtiiggmfindfkfaaGreat
open Go.RowKit Go.Maps Go.Shelf
namespace Tl
open Ph (Only)

theorem new_yes (n : Nat) (w : World) (h1 : 1 ≤ n) (h2 : n ≤ 64) :
    Calls Tryz.prog 31 #[.int .i64 n] w fun e w' => e = .returned (.tuple #[.pointer (some ⟨w.heap.size + 1, 0, none⟩), .int .i64 0]) ∧ Tlb w' (w.heap.size + 1) w.heap.size n 0 (List.replicate n none) ∧ Only [] w w' := by
  have hmm := @run_makeMap Tryz.prog
  have hL := Lib.hid (Lay.new (w.alloc (.map #[] 0)) 99 [.int .i64 n, .int .i64 0, .map (some w.heap.size)])
  have hH : Holds ((w.alloc (.map #[] 0)).alloc (.cells #[.int .i64 n, .int .i64 0, .map (some w.heap.size)] 99)) w.heap.size (List.replicate n none) :=
    Holds.of ((World.ownsMap_made w Tryz.prog 93 heldR).alloc _) (by rw [ents_none]) (by simpa using h2)
  have HH := Lib.hid hH
  clear hH
  go_enter Tryz.func31, Tryz.ntmps31
  go_wp2
  go_ret2
  have hL := hL.out
  rw [World.size_alloc] at hL
  exact ⟨rfl, ⟨hL.lt, hL.cell 0, hL.cell 1, hL.cell 2, hL.free 1, HH.out, by omega, by simp, h1, h2, by omega, good_none n⟩, (Only.alloc _ _ _).trans (Only.alloc _ _ _)⟩
theorem new_no (n : Int) (w : World) (h : n < 1 ∨ 64 < n) :
    Calls Tryz.prog 31 #[.int .i64 n] w fun e w' => e = .returned (.tuple #[.pointer none, .int .i64 11]) ∧ w = w' := by
  by_cases h1 : n < 1
  · clear h
    go_enter Tryz.func31, Tryz.ntmps31
    go_wp2
    go_ret2
    exact ⟨rfl, rfl⟩
  · have h2 : 64 < n := by omega
    clear h
    go_enter Tryz.func31, Tryz.ntmps31
    go_wp2
    go_ret2
    exact ⟨rfl, rfl⟩
set_option maxRecDepth 100000 in
/-- What a look-up gives. -/
theorem look_run {w : World} {p m room next : Nat} {ps : List (Option SlotT)} (hT : Tlb w p m room next ps) {a b : Int} (ha : W64 a) (hb : W64 b) :
    (Instr.lookup 97 (.map (some m)) (nameV a b) true).run Tryz.prog w = .ok (.tuple #[heldV ((findP a b 0 ps).getD zeroH), .bool (findP a b 0 ps).isSome]) w := by
  obtain ⟨es, hown, hperm⟩ := hT.map.own
  have hz : (zeroValue 95).run Tryz.prog w = .ok (heldV zeroH) w := by kernel_rfl
  obtain ⟨es0, e0, hap, _⟩ := hown.entries keyed
  injection e0 with e0
  subst e0
  obtain ⟨v, ps', hrun, hv⟩ := hown.look_ok keyed Tryz.underlying97 hz (heldR_mk zeroH) (key_at ha hb)
  rw [key_look hperm hap hT.good ha hb] at hv
  obtain ⟨h, rfl, e⟩ := heldR_inv hv
  injection e with e _
  injection e with e
  rw [has_at hperm hT.good ha hb, ← e] at hrun
  exact hrun
set_option maxRecDepth 100000 in
theorem find_any (p m room next : Nat) (ps : List (Option SlotT)) (a b : Int) (w : World) (hT : Tlb w p m room next ps) (ha : W64 a) (hb : W64 b) :
    Calls Tryz.prog 19 #[.pointer (some ⟨p, 0, none⟩), .int .i64 a, .int .i64 b] w fun e w' => e = .returned (.tuple #[slotV ((findP a b 0 ps).getD zeroH).2, .bool (findP a b 0 ps).isSome]) ∧ Below w.heap.size w w' := by
  have hlt := hT.lt
  have k2 := hT.c2
  have hr := look_run (hT.kept (Only.alloc [] w (.cells #[.int .i64 0, .int .i64 0, .int .i64 0, .bool false, .bool false] 46)) (by simp) (by simp)) ha hb
  generalize (findP a b 0 ps).getD zeroH = h at hr ⊢
  generalize (findP a b 0 ps).isSome = r at hr ⊢
  clear hT
  go_enter Tryz.func19, Tryz.ntmps19
  go_wp2
  refine bodyPost_ret (v := .tuple #[slotV h.2, .bool r]) (by simp [results, Tryz.results19, go_sem]) rfl ⟨rfl, ?_⟩
  exact ((Below.refl _ w).alloc (Nat.le_refl _) _).alloc (by simp) _

/-! ### The closures -/
theorem all_cl (n : Int) (b : Nat) (h : HeldT) (W : World) (hb : Lay W b 3 [.int .i64 n]) :
    Calls Tryz.prog 114 #[heldV h, .pointer (some ⟨b, 0, none⟩)] W fun e w' => e = .returned (.bool (decide (h.2.1 = n))) ∧ W.grownBy w' none := by
  have hlt := hb.lt
  have k0 := hb.cell 0
  simp only [List.getElem?_cons_zero] at k0
  clear hb
  go_enter Tryz.func114, Tryz.ntmps114
  go_wp2
  go_ret
  exact ⟨rfl, World.grownBy_alloc W _ none⟩
theorem take_cl (n : Int) (b : Nat) (h : HeldT) (W : World) (hb : Lay W b 3 [.int .i64 n]) :
    Calls Tryz.prog 85 #[heldV h, .pointer (some ⟨b, 0, none⟩)] W fun e w' => e = .returned (.bool (decide (h.1 = n))) ∧ W.grownBy w' none := by
  have hlt := hb.lt
  have k0 := hb.cell 0
  simp only [List.getElem?_cons_zero] at k0
  clear hb
  go_enter Tryz.func85, Tryz.ntmps85
  go_wp2
  go_ret
  exact ⟨rfl, World.grownBy_alloc W _ none⟩

/-! ### What goes by them -/
theorem dropAll_any (p m room next : Nat) (ps : List (Option SlotT)) (n : Int) (w : World) (hT : Tlb w p m room next ps) :
    Calls Tryz.prog 109 #[.pointer (some ⟨p, 0, none⟩), .int .i64 n] w fun e w' => e = .returned (.int .i64 ((count ps : Int) - count (ps.map (off fun s => decide (s.1 = n))))) ∧ Tlb w' p m room next (ps.map (off fun s => decide (s.1 = n))) ∧ Only [m] w w' := by
  have hml := hT.map.lt
  have HC := Lib.hid (drop_any 114 #[.pointer (some ⟨w.heap.size, 0, none⟩)] (fun h => decide (h.2.1 = n)) p m room next ps _ (hT.kept (Only.alloc [] w (.cells #[.int .i64 n] 3)) (by simp) (by simp)) (enters_of Tryz.func114 (by kernel_rfl) rfl)
    (fun W h hW => all_cl n w.heap.size h W ((Lay.new w 3 [.int .i64 n]).kept hW (by simp; omega))))
  rw [show dropH (fun h => decide (h.2.1 = n)) 0 ps = ps.map (off fun s => decide (s.1 = n)) from dropH_slot (fun s => decide (s.1 = n)) 0 ps] at HC
  clear hT
  go_enter Tryz.func109, Tryz.ntmps109
  go_wp2_with (go_at_call 84; refine HC.out.mono ?_; rintro e w2 ⟨rfl, hT2, hO2⟩)
  go_ret
  exact ⟨rfl, hT2, (Only.alloc _ w _).trans hO2⟩
theorem Tlb.hop {w w' : World} {p m room next next' : Nat} {ps : List (Option SlotT)} (h : Tlb w p m room next ps) (ho : Only [p] w w') (e0 : w'.cell? ⟨p, 0, none⟩ = w.cell? ⟨p, 0, none⟩) (e1 : w'.cell? ⟨p, 1, none⟩ = some (.int .i64 (next' : Int)))
    (e2 : w'.cell? ⟨p, 2, none⟩ = w.cell? ⟨p, 2, none⟩) (ef : w'.frozen? ⟨p, 1, none⟩ = false) (hn : next' < room) : Tlb w' p m room next' ps :=
  { h with lt := Nat.lt_of_lt_of_le h.lt ho.size, c0 := e0.trans h.c0, c1 := e1, c2 := e2.trans h.c2, f1 := ef, map := h.map.kept ho (by simp; exact fun e => h.ne e.symm), nlt := hn }
theorem Tlb.set1 {w : World} {p m room next : Nat} {ps : List (Option SlotT)} (h : Tlb w p m room next ps) (next' : Nat) (hn : next' < room) : Tlb (w.setCell ⟨p, 1, none⟩ (.int .i64 (next' : Int))) p m room next' ps ∧ Only [p] w (w.setCell ⟨p, 1, none⟩ (.int .i64 (next' : Int))) := by
  have ho : Only [p] w (w.setCell ⟨p, 1, none⟩ (.int .i64 (next' : Int))) := Only.setCell w (by simp) 1 _
  refine ⟨h.hop ho ?_ ?_ ?_ ?_ hn, ho⟩
  · exact World.cell?_setCell_other _ _ _ _ (fun e => by injection e with _ e; cases e)
  · exact World.cell?_setCell_same' _ _ _ (by rw [h.c1]; rfl)
  · exact World.cell?_setCell_other _ _ _ _ (fun e => by injection e with _ e; cases e)
  · rw [World.frozen?_setCell]; exact h.f1
theorem take_any (p m room next : Nat) (ps : List (Option SlotT)) (w : World) (hT : Tlb w p m room next ps) :
    Calls Tryz.prog 45 #[.pointer (some ⟨p, 0, none⟩)] w fun e w' => e = .returned (.int .i64 next) ∧ Tlb w' p m room ((next + 1) % room) (ps.set next none) ∧ Only [p, m] w w' := by
  have hml := hT.map.lt
  have hlt := hT.lt
  have k1 := hT.c1
  have hlow := hT.low
  have hhigh := hT.high
  have hnlt := hT.nlt
  have HC := Lib.hid (drop_any 85 #[.pointer (some ⟨w.heap.size, 0, none⟩)] (fun h => decide (h.1 = (next : Int))) p m room next ps _ (hT.kept (Only.alloc [] w (.cells #[.int .i64 next] 3)) (by simp) (by simp)) (enters_of Tryz.func85 (by kernel_rfl) rfl)
    (fun W h hW => take_cl next w.heap.size h W ((Lay.new w 3 [.int .i64 next]).kept hW (by simp; omega))))
  rw [show dropH (fun h => decide (h.1 = (next : Int))) 0 ps = ps.set next none from dropH_place next 0 ps (Nat.zero_le _)] at HC
  clear hT
  go_enter Tryz.func45, Tryz.ntmps45
  go_wp2_with (go_at_call 84; refine HC.out.mono ?_; rintro e w2 ⟨rfl, hT2, hO2⟩; have j0 := hT2.c0; have j1 := hT2.c1; have jf := hT2.f1; have hB : w2.cell? ⟨w.heap.size, 0, none⟩ = some (.int .i64 next) := (((Lay.new w 3 [.int .i64 next]).kept hO2 (by simp; omega)).cell 0))
  go_region
  have hmod : ((next : Int) + 1) % (room : Int) = (((next + 1) % room : Nat) : Int) := by push_cast; rfl
  rw [hmod]
  obtain ⟨hT3, hO3⟩ := hT2.set1 ((next + 1) % room) (Nat.mod_lt _ (by omega))
  have hT4 : Tlb (w2.setCell ⟨p, 1, none⟩ (.int .i64 (((next + 1) % room : Nat) : Int))).drew p m room ((next + 1) % room) (ps.set next none) := hT3.kept (Only.drewN [] _ 1) (by simp) (by simp)
  have hO4 : Only [p] w2 (w2.setCell ⟨p, 1, none⟩ (.int .i64 (((next + 1) % room : Nat) : Int))).drew := hO3.trans (Only.drewN _ _ 1)
  have hlt2 : w.heap.size < w2.heap.size := Nat.lt_of_lt_of_le (by simp) hO2.size
  have hB4 := (hO4.cell hlt2 (by simp; omega) 0).trans hB
  have HT := Lib.hid hT4
  have HO := Lib.hid (((Only.alloc [p, m] w (.cells #[.int .i64 next] 3)).trans (hO2.mono (by simp))).trans (hO4.mono (by simp)))
  clear hT2 hT3 hT4 hO2 hO3 hO4 j0 j1 jf hB hmod
  generalize ((w2.setCell ⟨p, 1, none⟩ (.int .i64 (((next + 1) % room : Nat) : Int))).drew) = w3 at *
  go_wp2
  go_ret
  exact ⟨rfl, HT.out, HO.out⟩
theorem dropc_map (ps : List (Option SlotT)) (g : SlotT → Bool) : (ps.map (off g)).length = ps.length := by simp
theorem clear_run {w : World} {m n : Nat} {D : DataW HeldT} (hown : w.ownsMap Tryz.prog 93 heldR m n D) : ∃ w', (∀ ty, (Builtin.clear_ #[97] ty #[.map (some m)]).run Tryz.prog w = .ok (.tuple #[]) w') ∧ w'.ownsMap Tryz.prog 93 heldR m 0 (.map []) ∧ Only [m] w w' := by
  obtain ⟨es, clock, hb, F, hs, hD⟩ := hown
  refine ⟨ChangeMaps.setBlock w m (.map #[] clock), fun ty => ?_, ⟨#[], clock, (MapKept.heap_set hb).1, ⟨by simp, MapKept.stamped_empty clock, by simp⟩, Nat.le_refl _, rfl⟩, ?_⟩
  · simp [Builtin.clear_, run_underlying Tryz.underlying97, MapKept.run_getObj_map hb, MapKept.run_setObj_map _ hb, Result.andThen, ChangeMaps.setBlock]
  · exact ⟨rfl, rfl, rfl, by simp [ChangeMaps.setBlock], fun k _ hk => (MapKept.heap_set hb).2 k (by simpa using hk)⟩
end Tl
end Go.Proofs.YtiiggmfindfkfaaGreat
namespace Go.Proofs.YtiiggmfindfkfaaGreat
open Go.RowKit Go.Maps Go.Shelf
namespace Tl
open Ph (Only)

/-- What a builtin delete gives. -/
theorem del_run {w : World} {p m room next : Nat} {ps : List (Option SlotT)} (hT : Tlb w p m room next ps) {a b : Int} (ha : W64 a) (hb : W64 b) :
    ∃ w', (Builtin.delete_ #[97, 93] 0 #[.map (some m), nameV a b]).run Tryz.prog w = .ok (.tuple #[]) w' ∧ Tlb w' p m room next (delP a b ps) ∧ Only [m] w w' := by
  obtain ⟨es, hown, hperm⟩ := hT.map.own
  obtain ⟨w', hrun, hown', hturn⟩ := hown.drop keyed Tryz.underlying97 (key_at ha hb) 0
  obtain ⟨es', e, hperm'⟩ := del_perm hperm hT.good ha hb
  rw [e] at hown'
  have hl : (delP a b ps).length = ps.length := by unfold delP; simp
  exact ⟨w', hrun, hT.turned (only_grown hturn.grown) (by simp; exact hT.ne) (Holds.of hown' hperm' (by rw [hl, hT.len]; exact hT.high)) hl (hT.good.del a b), only_grown hturn.grown⟩
/-- What a store into the map gives. -/
theorem put_run {w : World} {p m room next : Nat} {ps : List (Option SlotT)} (hT : Tlb w p m room next ps) {s : SlotT} {i : Nat} (ha : W64 s.1) (hb : W64 s.2.1) (hi : i < room) (ho : delP s.1 s.2.1 ps = ps.set i none) :
    ∃ w', (Instr.mapUpdate 97 (.map (some m)) (nameV s.1 s.2.1) (heldV ((i : Int), s))).run Tryz.prog w = .ok () w' ∧ Tlb w' p m room next (ps.set i (some s)) ∧ Only [m] w w' := by
  obtain ⟨es, hown, hperm⟩ := hT.map.own
  obtain ⟨w', hrun, hown', hturn⟩ := hown.store keyed Tryz.underlying97 (by unfold maxLen; omega) (key_at ha hb) (heldR_mk ((i : Int), s))
  obtain ⟨es', e, hperm'⟩ := put_perm hperm hT.good ha hb (by rw [hT.len]; exact hi) ho
  rw [e] at hown'
  exact ⟨w', hrun, hT.turned (only_grown hturn.grown) (by simp; exact hT.ne) (Holds.of hown' hperm' (by simp; rw [hT.len]; exact hT.high)) (by simp) (hT.good.put ha hb ho), only_grown hturn.grown⟩
theorem six_stored {w : World} {B : Nat} {t : TypeId} {c0 c1 c2 c3 c4 c5 : Value} (h : Lay w B t [c0, c1, c2, c3, c4, c5]) (v0 v1 v2 v3 v4 v5 : Value) :
    Lay ((((((w.setCell ⟨B, 0, none⟩ v0).setCell ⟨B, 1, none⟩ v1).setCell ⟨B, 2, none⟩ v2).setCell ⟨B, 3, none⟩ v3).setCell ⟨B, 4, none⟩ v4).setCell ⟨B, 5, none⟩ v5) B t [v0, v1, v2, v3, v4, v5] ∧
    Only [B] w ((((((w.setCell ⟨B, 0, none⟩ v0).setCell ⟨B, 1, none⟩ v1).setCell ⟨B, 2, none⟩ v2).setCell ⟨B, 3, none⟩ v3).setCell ⟨B, 4, none⟩ v4).setCell ⟨B, 5, none⟩ v5) :=
  ⟨(((((h.set 0 v0).set 1 v1).set 2 v2).set 3 v3).set 4 v4).set 5 v5, (((((Only.setCell w (by simp) 0 v0).trans (Only.setCell _ (by simp) 1 v1)).trans (Only.setCell _ (by simp) 2 v2)).trans (Only.setCell _ (by simp) 3 v3)).trans (Only.setCell _ (by simp) 4 v4)).trans (Only.setCell _ (by simp) 5 v5)⟩
/-- The boxes of a Fill: the slot, the name, and (behind the look-up) the element. -/
theorem fill_boxes (w : World) (s : SlotT) : Lay ((w.alloc (.cells #[.int .i64 s.1, .int .i64 s.2.1, .int .i64 s.2.2.1, .bool s.2.2.2.1, .bool s.2.2.2.2] 46)).alloc (.cells #[.int .i64 s.1, .int .i64 s.2.1] 93)) w.heap.size 46 [.int .i64 s.1, .int .i64 s.2.1, .int .i64 s.2.2.1, .bool s.2.2.2.1, .bool s.2.2.2.2] ∧ Lay ((w.alloc (.cells #[.int .i64 s.1, .int .i64 s.2.1, .int .i64 s.2.2.1, .bool s.2.2.2.1, .bool s.2.2.2.2] 46)).alloc (.cells #[.int .i64 s.1, .int .i64 s.2.1] 93)) (w.heap.size + 1) 93 [.int .i64 s.1, .int .i64 s.2.1] ∧ Only [] w ((w.alloc (.cells #[.int .i64 s.1, .int .i64 s.2.1, .int .i64 s.2.2.1, .bool s.2.2.2.1, .bool s.2.2.2.2] 46)).alloc (.cells #[.int .i64 s.1, .int .i64 s.2.1] 93)) ∧ ((w.alloc (.cells #[.int .i64 s.1, .int .i64 s.2.1, .int .i64 s.2.2.1, .bool s.2.2.2.1, .bool s.2.2.2.2] 46)).alloc (.cells #[.int .i64 s.1, .int .i64 s.2.1] 93)).heap.size = w.heap.size + 1 + 1 := by
  have hz1 : (w.alloc (.cells #[.int .i64 s.1, .int .i64 s.2.1, .int .i64 s.2.2.1, .bool s.2.2.2.1, .bool s.2.2.2.2] 46)).heap.size = w.heap.size + 1 := World.size_alloc _ _
  refine ⟨(Lay.new w 46 [.int .i64 s.1, .int .i64 s.2.1, .int .i64 s.2.2.1, .bool s.2.2.2.1, .bool s.2.2.2.2]).alloc _, ?_, (Only.alloc _ _ _).trans (Only.alloc _ _ _), by rw [World.size_alloc, hz1]⟩
  rw [← hz1]
  exact Lay.new _ 93 [.int .i64 s.1, .int .i64 s.2.1]
set_option maxRecDepth 100000 in
theorem fill_new (p m room next : Nat) (ps : List (Option SlotT)) (s : SlotT) (w : World) (hT : Tlb w p m room next ps) (ha : W64 s.1) (hb : W64 s.2.1) (hf : findP s.1 s.2.1 0 ps = none) :
    Calls Tryz.prog 14 #[.pointer (some ⟨p, 0, none⟩), slotV s] w fun e w' => e = .returned (.tuple #[]) ∧ Tlb w' p m room ((next + 1) % room) (ps.set next (some s)) ∧ Only [p, m] w w' := by
  have hnr := Lib.hid hT.nlt
  obtain ⟨L0, L1, hO, hsz⟩ := fill_boxes w s
  have HT := Lib.hid (hT.kept hO (by simp) (by simp))
  have HO := Lib.hid hO
  have hlt0 := hT.lt
  have hml0 := hT.map.lt
  have H0 := Lib.hid L0
  have H1 := Lib.hid L1
  have HZ := Lib.hid hsz
  clear hT L0 L1 hO hsz
  go_enter Tryz.func14, Tryz.ntmps14
  go_wp2
  generalize ((w.alloc (.cells #[.int .i64 s.1, .int .i64 s.2.1, .int .i64 s.2.2.1, .bool s.2.2.2.1, .bool s.2.2.2.2] 46)).alloc (.cells #[.int .i64 s.1, .int .i64 s.2.1] 93)) = w1 at *
  have k2 := HT.out.c2
  have hlt := HT.out.lt
  have n0 := H1.out.cell 0
  have n1 := H1.out.cell 1
  simp only [List.getElem?_cons_zero, List.getElem?_cons_succ] at n0 n1
  have nlt := H1.out.lt
  have hr := look_run (HT.out.kept (Only.drewN [] _ 1) (by simp) (by simp)) ha hb
  have hr' := look_run ((HT.out.kept (Only.alloc [] _ (.cells #[.int .i64 0, .int .i64 0, .int .i64 0, .int .i64 0, .bool false, .bool false] 95)) (by simp) (by simp)).kept (Only.drewN [] _ 1) (by simp) (by simp)) ha hb
  rw [hf] at hr hr'
  replace hr : (Instr.lookup 97 (.map (some m)) (nameV s.1 s.2.1) true).run Tryz.prog w1.drew = .ok (.tuple #[.agg #[.int .i64 0, .int .i64 0, .int .i64 0, .int .i64 0, .bool false, .bool false], .bool false]) w1.drew := hr
  replace hr' : (Instr.lookup 97 (.map (some m)) (nameV s.1 s.2.1) true).run Tryz.prog (w1.alloc (.cells #[.int .i64 0, .int .i64 0, .int .i64 0, .int .i64 0, .bool false, .bool false] 95)).drew = .ok (.tuple #[.agg #[.int .i64 0, .int .i64 0, .int .i64 0, .int .i64 0, .bool false, .bool false], .bool false]) (w1.alloc (.cells #[.int .i64 0, .int .i64 0, .int .i64 0, .int .i64 0, .bool false, .bool false] 95)).drew := hr'
  go_region
  all_goals
    have hT2 : Tlb (w1.alloc (.cells #[.int .i64 0, .int .i64 0, .int .i64 0, .int .i64 0, .bool false, .bool false] 95)).drew p m room next ps := (HT.out.kept (Only.alloc [] _ _) (by simp) (by simp)).kept (Only.drewN [] _ 1) (by simp) (by simp)
    have L0 := (H0.out.alloc (.cells #[.int .i64 0, .int .i64 0, .int .i64 0, .int .i64 0, .bool false, .bool false] 95)).kept (Only.drewN [] _ 1) (by simp)
    have L1 := (H1.out.alloc (.cells #[.int .i64 0, .int .i64 0, .int .i64 0, .int .i64 0, .bool false, .bool false] 95)).kept (Only.drewN [] _ 1) (by simp)
    have L2 := (Lay.new w1 95 [.int .i64 0, .int .i64 0, .int .i64 0, .int .i64 0, .bool false, .bool false]).kept (Only.drewN [] _ 1) (by simp)
    have O2 := (HO.out.trans (Only.alloc [] _ (.cells #[.int .i64 0, .int .i64 0, .int .i64 0, .int .i64 0, .bool false, .bool false] 95))).trans (Only.drewN [] _ 1)
    change Lay (w1.alloc (.cells #[.int .i64 0, .int .i64 0, .int .i64 0, .int .i64 0, .bool false, .bool false] 95)).drew _ _ _ at L0 L1 L2
    change Only [] w (w1.alloc (.cells #[.int .i64 0, .int .i64 0, .int .i64 0, .int .i64 0, .bool false, .bool false] 95)).drew at O2
    clear hr hr' n0 n1 k2 HT H0 H1 HO nlt hlt
    have hsz := HZ.out
    rw [hsz] at L2
    rw [hsz]
    generalize (w1.alloc (.cells #[.int .i64 0, .int .i64 0, .int .i64 0, .int .i64 0, .bool false, .bool false] 95)).drew = w2 at *
    have HL0 := Lib.hid L0
    have HL1 := Lib.hid L1
    have HL2 := Lib.hid L2
    have HTT := Lib.hid hT2
    have HOO := Lib.hid O2
    clear L0 L1 L2 hT2 O2
    go_wp2_with fail
    refine (take_any p m room next ps _ HTT.out).mono ?_
    rintro e w3 ⟨rfl, hT3, hO3⟩
    have A0 := HL0.out.kept hO3 (by simp; omega)
    have A1 := HL1.out.kept hO3 (by simp; omega)
    have A2 := HL2.out.kept hO3 (by simp; omega)
    have f0 := A2.free 0
    have f1 := A2.free 1
    have f2 := A2.free 2
    have f3 := A2.free 3
    have f4 := A2.free 4
    have f5 := A2.free 5
    have z0 := A2.cell 0
    have z1 := A2.cell 1
    have z2 := A2.cell 2
    have z3 := A2.cell 3
    have z4 := A2.cell 4
    have z5 := A2.cell 5
    have s0 := A0.cell 0
    have s1 := A0.cell 1
    have s2 := A0.cell 2
    have s3 := A0.cell 3
    have s4 := A0.cell 4
    simp only [List.getElem?_cons_zero, List.getElem?_cons_succ] at z0 z1 z2 z3 z4 z5 s0 s1 s2 s3 s4
    have H1 := Lib.hid A1
    have H2 := Lib.hid A2
    have HT3 := Lib.hid hT3
    have HO3 := Lib.hid ((HOO.out.mono (by simp)).trans hO3)
    clear A0 A1 A2 hT3 hO3 HL0 HL1 HL2 HTT HOO
    go_wp2_with fail
    obtain ⟨B2, OB⟩ := six_stored H2.out (.int .i64 (next : Int)) (.int .i64 s.1) (.int .i64 s.2.1) (.int .i64 s.2.2.1) (.bool s.2.2.2.1) (.bool s.2.2.2.2)
    have B1 := H1.out.kept OB (by simp)
    have T4 := HT3.out.kept OB (by simp; omega) (by simp; omega)
    have OO := ((HO3.out.mono (S' := [p, m, w.heap.size + 1 + 1]) (by simp)).trans (OB.mono (by simp))).back (S' := [p, m]) (n := w.heap.size) (fun x hx => by simp at hx; rcases hx with rfl | rfl | rfl <;> simp; omega) (Nat.le_refl _)
    clear H1 H2 HT3 HO3 f0 f1 f2 f3 f4 f5 z0 z1 z2 z3 z4 z5 s0 s1 s2 s3 s4
    generalize ((((((w3.setCell ⟨w.heap.size + 1 + 1, 0, none⟩ (.int .i64 (next : Int))).setCell ⟨w.heap.size + 1 + 1, 1, none⟩ (.int .i64 s.1)).setCell ⟨w.heap.size + 1 + 1, 2, none⟩ (.int .i64 s.2.1)).setCell ⟨w.heap.size + 1 + 1, 3, none⟩ (.int .i64 s.2.2.1)).setCell ⟨w.heap.size + 1 + 1, 4, none⟩ (.bool s.2.2.2.1)).setCell ⟨w.heap.size + 1 + 1, 5, none⟩ (.bool s.2.2.2.2)) = w4 at *
    have hd : delP s.1 s.2.1 (ps.set next none) = (ps.set next none).set next none := del_taken hf
    obtain ⟨w5, hput, hT5, hO5⟩ := put_run (T4.kept (Only.drewN [] _ 1) (by simp) (by simp)) ha hb hnr.out hd
    rw [List.set_set] at hT5
    have k2 := T4.c2
    have n0 := B1.cell 0
    have n1 := B1.cell 1
    have z0 := B2.cell 0
    have z1 := B2.cell 1
    have z2 := B2.cell 2
    have z3 := B2.cell 3
    have z4 := B2.cell 4
    have z5 := B2.cell 5
    simp only [List.getElem?_cons_zero, List.getElem?_cons_succ] at z0 z1 z2 z3 z4 z5 n0 n1
    have HT5 := Lib.hid hT5
    have HO5 := Lib.hid ((OO.trans (Only.drewN _ _ 1)).trans (hO5.mono (by simp)))
    clear T4 B1 B2 OO hT5 hO5 OB hd hf
    change Sem.run Tryz.prog _ w4.drew = .ok () w5 at hput
    go_region
    go_wp2
    go_end0
    exact ⟨rfl, HT5.out, HO5.out⟩
theorem five_stored {w : World} {B : Nat} {t : TypeId} {c0 c1 c2 c3 c4 c5 : Value} (h : Lay w B t [c0, c1, c2, c3, c4, c5]) (v1 v2 v3 v4 v5 : Value) :
    Lay (((((w.setCell ⟨B, 1, none⟩ v1).setCell ⟨B, 2, none⟩ v2).setCell ⟨B, 3, none⟩ v3).setCell ⟨B, 4, none⟩ v4).setCell ⟨B, 5, none⟩ v5) B t [c0, v1, v2, v3, v4, v5] ∧
    Only [B] w (((((w.setCell ⟨B, 1, none⟩ v1).setCell ⟨B, 2, none⟩ v2).setCell ⟨B, 3, none⟩ v3).setCell ⟨B, 4, none⟩ v4).setCell ⟨B, 5, none⟩ v5) :=
  ⟨((((h.set 1 v1).set 2 v2).set 3 v3).set 4 v4).set 5 v5, ((((Only.setCell w (by simp) 1 v1).trans (Only.setCell _ (by simp) 2 v2)).trans (Only.setCell _ (by simp) 3 v3)).trans (Only.setCell _ (by simp) 4 v4)).trans (Only.setCell _ (by simp) 5 v5)⟩
set_option maxRecDepth 100000 in
theorem fill_old (p m room next : Nat) (ps : List (Option SlotT)) (s : SlotT) (w : World) (hT : Tlb w p m room next ps) (ha : W64 s.1) (hb : W64 s.2.1) {k : Nat} {o : SlotT} (hf : findP s.1 s.2.1 0 ps = some ((k : Int), o)) (hk : ps[k]? = some (some o)) (hn : named s.1 s.2.1 o = true) :
    Calls Tryz.prog 14 #[.pointer (some ⟨p, 0, none⟩), slotV s] w fun e w' => e = .returned (.tuple #[]) ∧ Tlb w' p m room next (ps.set k (some s)) ∧ Only [p, m] w w' := by
  have hnr := Lib.hid (show k < room by rw [← hT.len]; exact (List.getElem?_eq_some_iff.1 hk).1)
  have hd0 := Lib.hid (del_found hT.good hk hn)
  clear hk hn
  obtain ⟨L0, L1, hO, hsz⟩ := fill_boxes w s
  have HT := Lib.hid (hT.kept hO (by simp) (by simp))
  have HO := Lib.hid hO
  have hlt0 := hT.lt
  have hml0 := hT.map.lt
  have H0 := Lib.hid L0
  have H1 := Lib.hid L1
  have HZ := Lib.hid hsz
  clear hT L0 L1 hO hsz
  go_enter Tryz.func14, Tryz.ntmps14
  go_wp2
  generalize ((w.alloc (.cells #[.int .i64 s.1, .int .i64 s.2.1, .int .i64 s.2.2.1, .bool s.2.2.2.1, .bool s.2.2.2.2] 46)).alloc (.cells #[.int .i64 s.1, .int .i64 s.2.1] 93)) = w1 at *
  have k2 := HT.out.c2
  have hlt := HT.out.lt
  have n0 := H1.out.cell 0
  have n1 := H1.out.cell 1
  simp only [List.getElem?_cons_zero, List.getElem?_cons_succ] at n0 n1
  have nlt := H1.out.lt
  have hr := look_run (HT.out.kept (Only.drewN [] _ 1) (by simp) (by simp)) ha hb
  have hr' := look_run ((HT.out.kept (Only.alloc [] _ (.cells #[.int .i64 0, .int .i64 0, .int .i64 0, .int .i64 0, .bool false, .bool false] 95)) (by simp) (by simp)).kept (Only.drewN [] _ 1) (by simp) (by simp)) ha hb
  rw [hf] at hr hr'
  replace hr : (Instr.lookup 97 (.map (some m)) (nameV s.1 s.2.1) true).run Tryz.prog w1.drew = .ok (.tuple #[.agg #[.int .i64 (k : Int), .int .i64 o.1, .int .i64 o.2.1, .int .i64 o.2.2.1, .bool o.2.2.2.1, .bool o.2.2.2.2], .bool true]) w1.drew := hr
  replace hr' : (Instr.lookup 97 (.map (some m)) (nameV s.1 s.2.1) true).run Tryz.prog (w1.alloc (.cells #[.int .i64 0, .int .i64 0, .int .i64 0, .int .i64 0, .bool false, .bool false] 95)).drew = .ok (.tuple #[.agg #[.int .i64 (k : Int), .int .i64 o.1, .int .i64 o.2.1, .int .i64 o.2.2.1, .bool o.2.2.2.1, .bool o.2.2.2.2], .bool true]) (w1.alloc (.cells #[.int .i64 0, .int .i64 0, .int .i64 0, .int .i64 0, .bool false, .bool false] 95)).drew := hr'
  go_region
  all_goals
    have hT2 : Tlb (w1.alloc (.cells #[.int .i64 (k : Int), .int .i64 o.1, .int .i64 o.2.1, .int .i64 o.2.2.1, .bool o.2.2.2.1, .bool o.2.2.2.2] 95)).drew p m room next ps := (HT.out.kept (Only.alloc [] _ _) (by simp) (by simp)).kept (Only.drewN [] _ 1) (by simp) (by simp)
    have L0 := (H0.out.alloc (.cells #[.int .i64 (k : Int), .int .i64 o.1, .int .i64 o.2.1, .int .i64 o.2.2.1, .bool o.2.2.2.1, .bool o.2.2.2.2] 95)).kept (Only.drewN [] _ 1) (by simp)
    have L1 := (H1.out.alloc (.cells #[.int .i64 (k : Int), .int .i64 o.1, .int .i64 o.2.1, .int .i64 o.2.2.1, .bool o.2.2.2.1, .bool o.2.2.2.2] 95)).kept (Only.drewN [] _ 1) (by simp)
    have L2 := (Lay.new w1 95 [.int .i64 (k : Int), .int .i64 o.1, .int .i64 o.2.1, .int .i64 o.2.2.1, .bool o.2.2.2.1, .bool o.2.2.2.2]).kept (Only.drewN [] _ 1) (by simp)
    have O2 := (HO.out.trans (Only.alloc [] _ (.cells #[.int .i64 (k : Int), .int .i64 o.1, .int .i64 o.2.1, .int .i64 o.2.2.1, .bool o.2.2.2.1, .bool o.2.2.2.2] 95))).trans (Only.drewN [] _ 1)
    change Lay (w1.alloc (.cells #[.int .i64 (k : Int), .int .i64 o.1, .int .i64 o.2.1, .int .i64 o.2.2.1, .bool o.2.2.2.1, .bool o.2.2.2.2] 95)).drew _ _ _ at L0 L1 L2
    change Only [] w (w1.alloc (.cells #[.int .i64 (k : Int), .int .i64 o.1, .int .i64 o.2.1, .int .i64 o.2.2.1, .bool o.2.2.2.1, .bool o.2.2.2.2] 95)).drew at O2
    clear hr hr' n0 n1 k2 HT H0 H1 HO nlt hlt
    have hsz := HZ.out
    rw [hsz] at L2
    rw [hsz]
    generalize (w1.alloc (.cells #[.int .i64 (k : Int), .int .i64 o.1, .int .i64 o.2.1, .int .i64 o.2.2.1, .bool o.2.2.2.1, .bool o.2.2.2.2] 95)).drew = w2 at *
    have HL0 := Lib.hid L0
    have HL1 := Lib.hid L1
    have HL2 := Lib.hid L2
    have HTT := Lib.hid hT2
    have HOO := Lib.hid O2
    clear L0 L1 L2 hT2 O2
    have A0 := HL0.out
    have A1 := HL1.out
    have A2 := HL2.out
    have f0 := A2.free 0
    have f1 := A2.free 1
    have f2 := A2.free 2
    have f3 := A2.free 3
    have f4 := A2.free 4
    have f5 := A2.free 5
    have z0 := A2.cell 0
    have z1 := A2.cell 1
    have z2 := A2.cell 2
    have z3 := A2.cell 3
    have z4 := A2.cell 4
    have z5 := A2.cell 5
    have s0 := A0.cell 0
    have s1 := A0.cell 1
    have s2 := A0.cell 2
    have s3 := A0.cell 3
    have s4 := A0.cell 4
    simp only [List.getElem?_cons_zero, List.getElem?_cons_succ] at z0 z1 z2 z3 z4 z5 s0 s1 s2 s3 s4
    have H1 := Lib.hid A1
    have H2 := Lib.hid A2
    clear A0 A1 A2 HL0 HL1 HL2
    go_wp2_with fail
    obtain ⟨B2, OB⟩ := five_stored H2.out (.int .i64 s.1) (.int .i64 s.2.1) (.int .i64 s.2.2.1) (.bool s.2.2.2.1) (.bool s.2.2.2.2)
    have B1 := H1.out.kept OB (by simp)
    have T4 := HTT.out.kept OB (by simp; omega) (by simp; omega)
    have OO := ((HOO.out.mono (S' := [p, m, w.heap.size + 1 + 1]) (by simp)).trans (OB.mono (by simp))).back (S' := [p, m]) (n := w.heap.size) (fun x hx => by simp at hx; rcases hx with rfl | rfl | rfl <;> simp; omega) (Nat.le_refl _)
    clear H1 H2 HTT HOO f0 f1 f2 f3 f4 f5 z0 z1 z2 z3 z4 z5 s0 s1 s2 s3 s4
    generalize (((((w2.setCell ⟨w.heap.size + 1 + 1, 1, none⟩ (.int .i64 s.1)).setCell ⟨w.heap.size + 1 + 1, 2, none⟩ (.int .i64 s.2.1)).setCell ⟨w.heap.size + 1 + 1, 3, none⟩ (.int .i64 s.2.2.1)).setCell ⟨w.heap.size + 1 + 1, 4, none⟩ (.bool s.2.2.2.1)).setCell ⟨w.heap.size + 1 + 1, 5, none⟩ (.bool s.2.2.2.2)) = w4 at *
    have hd : delP s.1 s.2.1 ps = ps.set k none := hd0.out
    obtain ⟨w5, hput, hT5, hO5⟩ := put_run (T4.kept (Only.drewN [] _ 1) (by simp) (by simp)) ha hb hnr.out hd
    have k2 := T4.c2
    have n0 := B1.cell 0
    have n1 := B1.cell 1
    have z0 := B2.cell 0
    have z1 := B2.cell 1
    have z2 := B2.cell 2
    have z3 := B2.cell 3
    have z4 := B2.cell 4
    have z5 := B2.cell 5
    simp only [List.getElem?_cons_zero, List.getElem?_cons_succ] at z0 z1 z2 z3 z4 z5 n0 n1
    have HT5 := Lib.hid hT5
    have HO5 := Lib.hid ((OO.trans (Only.drewN _ _ 1)).trans (hO5.mono (by simp)))
    clear T4 B1 B2 OO hT5 hO5 OB hd hf
    change Sem.run Tryz.prog _ w4.drew = .ok () w5 at hput
    go_region
    go_wp2
    go_end0
    exact ⟨rfl, HT5.out, HO5.out⟩
theorem fill_any (p m room next : Nat) (ps : List (Option SlotT)) (s : SlotT) (w : World) (hT : Tlb w p m room next ps) (ha : W64 s.1) (hb : W64 s.2.1) :
    Calls Tryz.prog 14 #[.pointer (some ⟨p, 0, none⟩), slotV s] w fun e w' => e = .returned (.tuple #[]) ∧ Tlb w' p m room (fillN room next ps s) (fillP next ps s) ∧ Only [p, m] w w' := by
  cases hf : findP s.1 s.2.1 0 ps with
  | none =>
    unfold fillN fillP
    rw [hf]
    exact fill_new p m room next ps s w hT ha hb hf
  | some h =>
    unfold fillN fillP
    rw [hf]
    obtain ⟨k, o, hk, e, hn⟩ := findP_some hf
    rw [Nat.zero_add] at e
    subst e
    exact fill_old p m room next ps s w hT ha hb hf hk hn
end Tl
end Go.Proofs.YtiiggmfindfkfaaGreat
