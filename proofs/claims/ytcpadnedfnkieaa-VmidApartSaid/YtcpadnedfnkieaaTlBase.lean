/-
  The map of a TLB's entries: its keys and elements, how they read, and the places that it stands for. Conditions: none.
-/
import Derived.Test.YtcpadnedfnkieaaPhBase
import Derived.DeepKeys4
import Derived.MapViews
import Derived.Maps.OwnSet
import Derived.Maps.RangeWalk
namespace Go.Proofs.Ytcpadnedfnkieaa
open Go.RowKit Go.Maps
namespace Tl
open Ph (Only)

/-- An entry: its guest's number, its page, its frame, may it be written, executed. -/
abbrev SlotT := Int × Int × Int × Bool × Bool
/-- An entry in its place. -/
abbrev HeldT := Int × SlotT
def encSlot (s : SlotT) : List Value := [.int .i64 s.1, .int .i64 s.2.1, .int .i64 s.2.2.1, .bool s.2.2.2.1, .bool s.2.2.2.2]
def encHeld (h : HeldT) : List Value := [.int .i64 h.1, .int .i64 h.2.1, .int .i64 h.2.2.1, .int .i64 h.2.2.2.1, .bool h.2.2.2.2.1, .bool h.2.2.2.2.2]
abbrev slotV (s : SlotT) : Value := .agg #[.int .i64 s.1, .int .i64 s.2.1, .int .i64 s.2.2.1, .bool s.2.2.2.1, .bool s.2.2.2.2]
abbrev heldV (h : HeldT) : Value := .agg #[.int .i64 h.1, .int .i64 h.2.1, .int .i64 h.2.2.1, .int .i64 h.2.2.2.1, .bool h.2.2.2.2.1, .bool h.2.2.2.2.2]
abbrev nameV (a b : Int) : Value := .agg #[.int .i64 a, .int .i64 b]
def W64 (x : Int) : Prop := (Lit.int .i64 x).wf = true

/-! ### Keys -/
def keyL (a b : Int) : Lit := .string (keyBytes [.int .i64 a, .int .i64 b])
theorem laidOutP : laidOutB Try.prog = true := by kernel_rfl
theorem keyRow : (70 : TypeId) < Try.prog.types.size := of_decide_eq_true (by kernel_rfl)
theorem keyed : Keyed Try.prog 70 := Keyed.of_law (deep_law_laid laidOutP (m := 2) (by omega) keyRow (by kernel_rfl) (by kernel_rfl))
theorem key_at {a b : Int} (ha : W64 a) (hb : W64 b) : keyOf Try.prog 70 (nameV a b) = some (keyL a b) := by
  have hf : (nameV a b).formed Try.prog 70 = true := by kernel_rfl
  have hk : Try.prog.keyType 70 = true := by kernel_rfl
  have hu : Try.prog.underlying 70 = some (.struct _) := Try.underlying70
  have h3 : Try.prog.underlying 3 = some (.int .i64) := Try.underlying3
  have c3 : Try.prog.cellsOf 3 = 1 := by kernel_rfl
  have ck : Try.prog.cellsOf 70 = 2 := by kernel_rfl
  have hsz : ∃ m, Try.prog.types.size = m + 1 := Nat.exists_eq_succ_of_ne_zero (fun h => by have := keyRow; rw [h] at this; exact absurd this (Nat.not_lt_zero _))
  obtain ⟨m, hm⟩ := hsz
  unfold keyOf
  simp only [hu]
  rw [if_pos (by rw [hk, hf]; rfl), hm]
  unfold Program.keyLits
  simp only [hu, Value.cells]
  rw [if_pos ⟨by rw [ck]; rfl, by kernel_rfl⟩]
  unfold W64 at ha hb
  simp [List.mapM_cons, c3, Program.keyLits, h3, ha, hb, keyL]
theorem key_inj {a b c d : Int} (ha : W64 a) (hb : W64 b) (hc : W64 c) (hd : W64 d) (h : keyL a b = keyL c d) : a = c ∧ b = d := by
  have := keyed.inj (key_at ha hb) (h ▸ key_at hc hd)
  simpa [nameV] using this
theorem key_lit {a b : Int} (ha : W64 a) (hb : W64 b) : WideAt.IsKeyLit (keyL a b) := keyed.key (key_at ha hb)

theorem lits_int {d : Nat} {c : Value} {L : List Lit} (h : Try.prog.keyLits (d + 1) 3 [c] = some L) : ∃ a, c = .int .i64 a ∧ W64 a ∧ L = [.int .i64 a] := by
  have h3 : Try.prog.underlying 3 = some (.int .i64) := Try.underlying3
  unfold Program.keyLits at h
  rw [h3] at h
  cases c <;> simp at h
  obtain ⟨⟨rfl, w⟩, rfl⟩ := h
  exact ⟨_, rfl, w, rfl⟩
theorem key_of {v : Value} {l : Lit} (h : keyOf Try.prog 70 v = some l) : ∃ a b, v = nameV a b ∧ W64 a ∧ W64 b ∧ l = keyL a b := by
  have hu : Try.prog.underlying 70 = some (.struct _) := Try.underlying70
  have h3 : Try.prog.underlying 3 = some (.int .i64) := Try.underlying3
  have c3 : Try.prog.cellsOf 3 = 1 := by kernel_rfl
  have ck : Try.prog.cellsOf 70 = 2 := by kernel_rfl
  obtain ⟨xs, L, rfl, hl, rfl⟩ := keyOf_top (by kernel_rfl) h
  clear h
  obtain ⟨m, hm⟩ : ∃ m, Try.prog.types.size = m + 1 := Nat.exists_eq_succ_of_ne_zero (fun h => by have := keyRow; rw [h] at this; exact absurd this (Nat.not_lt_zero _))
  rw [hm] at hl
  unfold Program.keyLits at hl
  simp only [hu] at hl
  split at hl
  · rename_i hc
    rw [ck] at hc
    obtain ⟨ys⟩ := xs
    have hlen : ys.length = 2 := hc.1
    obtain ⟨c0, c1, rfl⟩ : ∃ c0 c1, ys = [c0, c1] := by
      cases ys with
      | nil => simp at hlen
      | cons c0 r =>
        cases r with
        | nil => simp at hlen
        | cons c1 r =>
          cases r with
          | nil => exact ⟨c0, c1, rfl⟩
          | cons c2 r => simp at hlen
    clear hc hlen
    simp only [List.mapM_cons, List.mapM_nil, c3, List.drop_zero, List.drop_succ_cons, List.take_succ_cons, List.take_zero] at hl
    cases h0 : Try.prog.keyLits (m + 1) 3 [c0] with
    | none => rw [h0] at hl; simp at hl
    | some L0 =>
      cases h1 : Try.prog.keyLits (m + 1) 3 [c1] with
      | none => rw [h0, h1] at hl; simp at hl
      | some L1 =>
        rw [h0, h1] at hl
        obtain ⟨a, rfl, wa, rfl⟩ := lits_int h0
        obtain ⟨b, rfl, wb, rfl⟩ := lits_int h1
        simp at hl
        subst hl
        exact ⟨a, b, rfl, wa, wb, rfl⟩
  · cases hl

/-! ### Elements -/
def unHeld : List Value → Option HeldT
  | [.int .i64 p, .int .i64 a, .int .i64 b, .int .i64 c, .bool d, .bool e] => some (p, a, b, c, d, e)
  | _ => none
def heldR (v : Value) : Option (DataW HeldT × List MemPlace) := match v with
  | .agg cs => (unHeld cs.toList).map fun h => (.held h, [])
  | _ => none
theorem heldR_mk (h : HeldT) : heldR (heldV h) = some (.held h, []) := rfl
theorem unHeld_inv {l : List Value} {h : HeldT} (e : unHeld l = some h) : l = encHeld h := by
  unfold unHeld at e
  split at e
  · injection e with e; subst e; rfl
  · cases e
theorem heldR_inv {v : Value} {y : DataW HeldT × List MemPlace} (e : heldR v = some y) : ∃ h, v = heldV h ∧ y = (.held h, []) := by
  unfold heldR at e
  split at e
  · rename_i cs
    cases hu : unHeld cs.toList with
    | none => rw [hu] at e; cases e
    | some h =>
      rw [hu] at e
      refine ⟨h, ?_, by simpa using e.symm⟩
      have := unHeld_inv hu
      have hc : cs = (encHeld h).toArray := by rw [← this]
      rw [hc]; rfl
  · cases e

/-! ### Places -/
def ents : Nat → List (Option SlotT) → List (Lit × DataW HeldT)
  | _, [] => []
  | i, none :: r => ents (i + 1) r
  | i, some s :: r => (keyL s.1 s.2.1, .held ((i : Int), s)) :: ents (i + 1) r
/-- What a closure drops. -/
def dropH (g : HeldT → Bool) : Nat → List (Option SlotT) → List (Option SlotT)
  | _, [] => []
  | i, none :: r => none :: dropH g (i + 1) r
  | i, some s :: r => (if g ((i : Int), s) then none else some s) :: dropH g (i + 1) r
def onHeld (g : HeldT → Bool) : DataW HeldT → Bool
  | .held h => g h
  | _ => false
theorem ents_dropH (g : HeldT → Bool) : ∀ (i : Nat) (ps : List (Option SlotT)), ents i (dropH g i ps) = (ents i ps).filter (fun x => !onHeld g x.2)
  | _, [] => rfl
  | i, none :: r => by simp only [dropH, ents]; exact ents_dropH g (i + 1) r
  | i, some s :: r => by
    simp only [dropH, ents]
    by_cases h : g ((i : Int), s) = true
    · rw [if_pos h, List.filter_cons_of_neg (by simp [onHeld, h])]
      simp only [ents]
      exact ents_dropH g (i + 1) r
    · rw [if_neg h, List.filter_cons_of_pos (by simp [onHeld, h])]
      simp only [ents]
      rw [ents_dropH g (i + 1) r]
theorem dropH_len (g : HeldT → Bool) : ∀ (i : Nat) (ps : List (Option SlotT)), (dropH g i ps).length = ps.length
  | _, [] => rfl
  | i, none :: r => by simp [dropH, dropH_len g (i + 1) r]
  | i, some s :: r => by simp [dropH, dropH_len g (i + 1) r]
/-- An entry that a predicate on entries names is gone. -/
def off (g : SlotT → Bool) (o : Option SlotT) : Option SlotT := match o with
  | some s => if g s then none else some s
  | none => none
theorem dropH_slot (g : SlotT → Bool) : ∀ (i : Nat) (ps : List (Option SlotT)), dropH (fun h => g h.2) i ps = ps.map (off g)
  | _, [] => rfl
  | i, none :: r => by simp [dropH, off, dropH_slot g (i + 1) r]
  | i, some s :: r => by simp [dropH, off, dropH_slot g (i + 1) r]
theorem dropH_past (n : Nat) : ∀ (i : Nat) (ps : List (Option SlotT)), n < i → dropH (fun h => h.1 == (n : Int)) i ps = ps
  | _, [], _ => rfl
  | i, none :: r, h => by simp [dropH, dropH_past n (i + 1) r (by omega)]
  | i, some s :: r, h => by
    have : ((i : Int) == (n : Int)) = false := by simp; omega
    simp [dropH, this, dropH_past n (i + 1) r (by omega)]
theorem dropH_place (n : Nat) : ∀ (i : Nat) (ps : List (Option SlotT)), i ≤ n → dropH (fun h => h.1 == (n : Int)) i ps = ps.set (n - i) none
  | _, [], _ => rfl
  | i, o :: r, h => by
    by_cases e : i = n
    · subst e
      have := dropH_past i (i + 1) r (by omega)
      cases o <;> simp [dropH, this]
    · obtain ⟨k, hk⟩ : ∃ k, n - i = k + 1 := ⟨n - i - 1, by omega⟩
      have h1 := dropH_place n (i + 1) r (by omega)
      rw [show n - (i + 1) = k by omega] at h1
      have : ((i : Int) == (n : Int)) = false := by simp; omega
      cases o <;> simp [dropH, this, hk, h1]
theorem ents_len : ∀ (i : Nat) (ps : List (Option SlotT)), (ents i ps).length = (ps.filterMap id).length
  | _, [] => rfl
  | i, none :: r => by simp [ents, ents_len (i + 1) r]
  | i, some s :: r => by simp [ents, ents_len (i + 1) r]
theorem count_le (ps : List (Option SlotT)) : (ps.filterMap id).length ≤ ps.length := List.length_filterMap_le _ _
theorem mem_ents {x : Lit × DataW HeldT} : ∀ (i : Nat) (ps : List (Option SlotT)), x ∈ ents i ps ↔ ∃ (k : Nat) (s : SlotT), ps[k]? = some (some s) ∧ x = (keyL s.1 s.2.1, .held (((i + k : Nat) : Int), s))
  | i, [] => by simp [ents]
  | i, none :: r => by
    simp only [ents]
    rw [mem_ents (i + 1) r]
    constructor
    · rintro ⟨k, s, h, e⟩
      exact ⟨k + 1, s, by simpa using h, by rw [e]; congr 3; omega⟩
    · rintro ⟨k, s, h, e⟩
      cases k with
      | zero => simp at h
      | succ k => exact ⟨k, s, by simpa using h, by rw [e]; congr 3; omega⟩
  | i, some t :: r => by
    simp only [ents, List.mem_cons]
    rw [mem_ents (i + 1) r]
    constructor
    · rintro (rfl | ⟨k, s, h, e⟩)
      · exact ⟨0, t, by simp, by simp⟩
      · exact ⟨k + 1, s, by simpa using h, by rw [e]; congr 3; omega⟩
    · rintro ⟨k, s, h, e⟩
      cases k with
      | zero =>
        simp at h
        subst h
        left
        simpa using e
      | succ k => exact Or.inr ⟨k, s, by simpa using h, by rw [e]; congr 3; omega⟩

/-- The places are good: numbers are in their kind's range, and no two entries have one name. -/
structure Good (ps : List (Option SlotT)) : Prop where
  wf : ∀ (i : Nat) (s : SlotT), ps[i]? = some (some s) → W64 s.1 ∧ W64 s.2.1
  one : ∀ (i j : Nat) (s t : SlotT), ps[i]? = some (some s) → ps[j]? = some (some t) → s.1 = t.1 → s.2.1 = t.2.1 → i = j
/-- Block m is a map that stands for the places. -/
structure Holds (w : World) (m : Nat) (ps : List (Option SlotT)) : Prop where
  own : ∃ es, w.ownsMap Try.prog 70 heldR m 64 (.map es) ∧ es.Perm (ents 0 ps)
theorem tight {H : Type} {w : World} {P : Program} {k : TypeId} {R : Value → Option (DataW H × List MemPlace)} {b n : Nat} {es : List (Lit × DataW H)} (h : w.ownsMap P k R b n (.map es)) : w.ownsMap P k R b es.length (.map es) := by
  obtain ⟨xs, clock, hb, F, hs, hD⟩ := h
  refine ⟨xs, clock, hb, F, ?_, hD⟩
  injection hD with hD
  rw [hD, length_sorted]
  simp
theorem Holds.of {w : World} {m n : Nat} {ps : List (Option SlotT)} {es : List (Lit × DataW HeldT)} (h : w.ownsMap Try.prog 70 heldR m n (.map es)) (hp : es.Perm (ents 0 ps)) (hl : ps.length ≤ 64) : Holds w m ps :=
  ⟨es, (tight h).mono (by rw [hp.length_eq, ents_len]; have := count_le ps; omega), hp⟩
theorem Holds.kept {w w' : World} {m : Nat} {ps : List (Option SlotT)} {S : List Nat} (h : Holds w m ps) (ho : Only S w w') (hm : m ∉ S) : Holds w' m ps := by
  obtain ⟨es, ⟨xs, clock, hb, F, hs, hD⟩, hp⟩ := h.own
  have hlt := (Array.getElem?_eq_some_iff.1 hb).1
  exact ⟨es, ⟨xs, clock, (ho.block m hlt hm).trans hb, F, hs, hD⟩, hp⟩
theorem Holds.lt {w : World} {m : Nat} {ps : List (Option SlotT)} (h : Holds w m ps) : m < w.heap.size := by
  obtain ⟨es, ho, _⟩ := h.own
  exact ho.lt
theorem only_grown {w w' : World} {m : Nat} (h : w.grownBy w' (some m)) : Only [m] w w' :=
  ⟨h.os, h.tape, h.output, h.size, fun k hk hn => h.block k hk (fun e => hn (by injection e with e; simp [e]))⟩
theorem only_grown0 {w w' : World} (h : w.grownBy w' none) : Only [] w w' :=
  ⟨h.os, h.tape, h.output, h.size, fun k hk _ => h.block k hk (fun e => by cases e)⟩
theorem grown_only {w w' : World} (h : Only [] w w') : w.grownBy w' none :=
  ⟨h.os, h.tape, h.output, h.size, fun k hk _ => h.block k hk (by simp)⟩
/-- A block's cells, told as a whole. -/
def Lay (w : World) (b : Nat) (t : TypeId) (cs : List Value) : Prop := w.heap[b]? = some (.cells cs.toArray t (0, 0))
theorem Lay.new (w : World) (t : TypeId) (cs : List Value) : Lay (w.alloc (.cells cs.toArray t)) w.heap.size t cs := (MapKept.heap_alloc w _).1
theorem Lay.lt {w : World} {b : Nat} {t : TypeId} {cs : List Value} (h : Lay w b t cs) : b < w.heap.size := (Array.getElem?_eq_some_iff.1 h).1
theorem Lay.kept {w w' : World} {b : Nat} {t : TypeId} {cs : List Value} {S : List Nat} (h : Lay w b t cs) (ho : Only S w w') (hb : b ∉ S) : Lay w' b t cs := (ho.block b h.lt hb).trans h
theorem Lay.alloc {w : World} {b : Nat} {t : TypeId} {cs : List Value} (h : Lay w b t cs) (o : Obj) : Lay (w.alloc o) b t cs := h.kept (Only.alloc [] w o) (by simp)
theorem Lay.cell {w : World} {b : Nat} {t : TypeId} {cs : List Value} (h : Lay w b t cs) (j : Nat) : w.cell? ⟨b, j, none⟩ = cs[j]? := by
  unfold Lay at h
  simp [World.cell?, h]
theorem Lay.free {w : World} {b : Nat} {t : TypeId} {cs : List Value} (h : Lay w b t cs) (j : Nat) : w.frozen? ⟨b, j, none⟩ = false := by
  unfold Lay at h
  simp [World.frozen?, h]
theorem Lay.set {w : World} {b : Nat} {t : TypeId} {cs : List Value} (h : Lay w b t cs) (j : Nat) (v : Value) : Lay (w.setCell ⟨b, j, none⟩ v) b t (cs.set j v) := by
  have hlt := h.lt
  unfold Lay at h ⊢
  obtain ⟨hl, hk⟩ := Array.getElem?_eq_some_iff.1 h
  show (w.heap.modify b _)[b]? = _
  rw [Array.getElem?_eq_getElem (by rw [Array.size_modify]; exact hl), Array.getElem_modify_self, hk]
  simp
/-- A TLB: its own cells, its map's block, its room, its next place, and what stands in its places. -/
structure Tlb (w : World) (p m room next : Nat) (ps : List (Option SlotT)) : Prop where
  lt : p < w.heap.size
  c0 : w.cell? ⟨p, 0, none⟩ = some (.int .i64 (room : Int))
  c1 : w.cell? ⟨p, 1, none⟩ = some (.int .i64 (next : Int))
  c2 : w.cell? ⟨p, 2, none⟩ = some (.map (some m))
  f1 : w.frozen? ⟨p, 1, none⟩ = false
  map : Holds w m ps
  ne : p ≠ m
  len : ps.length = room
  low : 1 ≤ room
  high : room ≤ 64
  nlt : next < room
  good : Good ps
theorem Tlb.kept {w w' : World} {p m room next : Nat} {ps : List (Option SlotT)} {S : List Nat} (h : Tlb w p m room next ps) (ho : Only S w w') (hp : p ∉ S) (hm : m ∉ S) : Tlb w' p m room next ps :=
  { h with lt := Nat.lt_of_lt_of_le h.lt ho.size, c0 := (ho.cell h.lt hp 0).trans h.c0, c1 := (ho.cell h.lt hp 1).trans h.c1, c2 := (ho.cell h.lt hp 2).trans h.c2, f1 := (ho.frozen h.lt hp 1).trans h.f1, map := h.map.kept ho hm }
/-- The map is turned. -/
theorem Tlb.turned {w w' : World} {p m room next : Nat} {ps ps' : List (Option SlotT)} {S : List Nat} (h : Tlb w p m room next ps) (ho : Only S w w') (hp : p ∉ S) (hm : Holds w' m ps') (hl : ps'.length = ps.length) (hg : Good ps') : Tlb w' p m room next ps' :=
  { h with lt := Nat.lt_of_lt_of_le h.lt ho.size, c0 := (ho.cell h.lt hp 0).trans h.c0, c1 := (ho.cell h.lt hp 1).trans h.c1, c2 := (ho.cell h.lt hp 2).trans h.c2, f1 := (ho.frozen h.lt hp 1).trans h.f1, map := hm, len := hl.trans h.len, good := hg }
theorem dropH_at (g : HeldT → Bool) : ∀ (i : Nat) (ps : List (Option SlotT)) (k : Nat) (s : SlotT), (dropH g i ps)[k]? = some (some s) → ps[k]? = some (some s)
  | _, [], k, s, h => by simp [dropH] at h
  | i, none :: r, 0, s, h => by simp [dropH] at h
  | i, some t :: r, 0, s, h => by
    simp only [dropH] at h
    by_cases e : g ((i : Int), t) = true
    · rw [if_pos e] at h; simp at h
    · rw [if_neg e] at h; exact h
  | i, none :: r, k + 1, s, h => by
    simp only [dropH, List.getElem?_cons_succ] at h
    simpa using dropH_at g (i + 1) r k s h
  | i, some t :: r, k + 1, s, h => by
    simp only [dropH, List.getElem?_cons_succ] at h
    simpa using dropH_at g (i + 1) r k s h
theorem Good.drop {ps : List (Option SlotT)} (h : Good ps) (g : HeldT → Bool) (i : Nat) : Good (dropH g i ps) :=
  ⟨fun k s e => h.wf k s (dropH_at g i ps k s e), fun k j s t e e' => h.one k j s t (dropH_at g i ps k s e) (dropH_at g i ps j t e')⟩
/-- How many entries there are. -/
def count (ps : List (Option SlotT)) : Nat := (ps.filterMap id).length
theorem dropH_count (g : HeldT → Bool) (i : Nat) (ps : List (Option SlotT)) : count (dropH g i ps) ≤ count ps := by
  unfold count
  rw [← ents_len i, ← ents_len i, ents_dropH]
  exact List.length_filter_le _ _
end Tl
end Go.Proofs.Ytcpadnedfnkieaa
