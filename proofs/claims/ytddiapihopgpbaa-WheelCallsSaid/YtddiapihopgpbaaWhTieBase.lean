/-
  A wheel as it lies in a world: its time, the map of all its timers, and the maps of its slots. Conditions: none.
-/
import Derived.Test.YtddiapihopgpbaaWhMap
import Derived.Test.YtddiapihopgpbaaWhPlace
namespace Go.Proofs.Ytddiapihopgpbaa
open Go.RowKit Go.Maps
namespace Wh
open Ph (Only)

/-- A wheel's block p: its time, the map A of the timers la, in slot k the map m k of the timers L k. -/
structure Wx (w : World) (p A t : Nat) (la : List DuT) (m : Nat → Option Nat) (L : Nat → List DuT) : Prop where
  lt : p < w.heap.size
  c0 : w.cell? ⟨p, 0, none⟩ = some (.int .u64 (t : Nat))
  c1 : w.cell? ⟨p, 1, none⟩ = some (.map (some A))
  ck : ∀ k, k < 168 → w.cell? ⟨p, 2 + k, none⟩ = some (.map (m k))
  fz : ∀ j, w.frozen? ⟨p, j, none⟩ = false
  all : Mp w A la
  some_ : ∀ k b, k < 168 → m k = some b → Mp w b (L k)
  none_ : ∀ k, k < 168 → m k = none → L k = []
  apart : ∀ k j b, k < 168 → j < 168 → m k = some b → m j = some b → k = j
  ne : ∀ k, k < 168 → m k ≠ some A
/-- The blocks of a wheel. -/
def blks (p A : Nat) (m : Nat → Option Nat) : List Nat := p :: A :: (List.range 168).filterMap m
theorem mem_blks {p A x : Nat} {m : Nat → Option Nat} : x ∈ blks p A m ↔ x = p ∨ x = A ∨ ∃ k, k < 168 ∧ m k = some x := by
  unfold blks
  rw [List.mem_cons, List.mem_cons, List.mem_filterMap]
  constructor
  · rintro (h | h | ⟨k, hk, e⟩)
    · exact Or.inl h
    · exact Or.inr (Or.inl h)
    · exact Or.inr (Or.inr ⟨k, List.mem_range.1 hk, e⟩)
  · rintro (h | h | ⟨k, hk, e⟩)
    · exact Or.inl h
    · exact Or.inr (Or.inl h)
    · exact Or.inr (Or.inr ⟨k, List.mem_range.2 hk, e⟩)
section
variable {w w' : World} {p A t : Nat} {la : List DuT} {m : Nat → Option Nat} {L : Nat → List DuT} {S : List Nat}
theorem Wx.kept (h : Wx w p A t la m L) (ho : Only S w w') (hs : ∀ x ∈ blks p A m, x ∉ S) : Wx w' p A t la m L := by
  have hp := hs p (mem_blks.2 (Or.inl rfl))
  exact { h with
    lt := Nat.lt_of_lt_of_le h.lt ho.size
    c0 := (ho.cell h.lt hp 0).trans h.c0
    c1 := (ho.cell h.lt hp 1).trans h.c1
    ck := fun k hk => (ho.cell h.lt hp _).trans (h.ck k hk)
    fz := fun j => (ho.frozen h.lt hp j).trans (h.fz j)
    all := h.all.kept ho (hs A (mem_blks.2 (Or.inr (Or.inl rfl))))
    some_ := fun k b hk e => (h.some_ k b hk e).kept ho (hs b (mem_blks.2 (Or.inr (Or.inr ⟨k, hk, e⟩)))) }
theorem Wx.blk_lt (h : Wx w p A t la m L) {x : Nat} (hx : x ∈ blks p A m) : x < w.heap.size := by
  rcases mem_blks.1 hx with rfl | rfl | ⟨k, hk, e⟩
  · exact h.lt
  · exact h.all.lt
  · exact (h.some_ k x hk e).lt
theorem Wx.quiet (h : Wx w p A t la m L) (ho : Only [] w w') : Wx w' p A t la m L := h.kept ho (by simp)
theorem Wx.neA (h : Wx w p A t la m L) : A ≠ p := h.all.ne h.c0
theorem Wx.nek (h : Wx w p A t la m L) {k b : Nat} (hk : k < 168) (e : m k = some b) : b ≠ p := (h.some_ k b hk e).ne h.c0
theorem Wx.neAk (h : Wx w p A t la m L) {k b : Nat} (hk : k < 168) (e : m k = some b) : b ≠ A := fun x => h.ne k hk (by rw [e, x])
/-- The same timers in another order. -/
theorem Wx.perm {la' : List DuT} {L' : Nat → List DuT} (h : Wx w p A t la m L) (ha : la.Perm la') (hL : ∀ k, k < 168 → (L k).Perm (L' k)) : Wx w p A t la' m L' :=
  { h with
    all := h.all.perm ha
    some_ := fun k b hk e => (h.some_ k b hk e).perm (hL k hk)
    none_ := fun k hk e => by have := hL k hk; rw [h.none_ k hk e] at this; exact this.nil_eq.symm }
/-- All timers' map is turned. -/
theorem Wx.turnA {la' : List DuT} (h : Wx w p A t la m L) (hg : w.grownBy w' (some A)) (hm : Mp w' A la') : Wx w' p A t la' m L := by
  have ho := only_grown hg
  have hp : p ∉ [A] := by simp; exact fun e => h.neA e.symm
  exact { h with
    lt := Nat.lt_of_lt_of_le h.lt ho.size
    c0 := (ho.cell h.lt hp 0).trans h.c0
    c1 := (ho.cell h.lt hp 1).trans h.c1
    ck := fun k hk => (ho.cell h.lt hp _).trans (h.ck k hk)
    fz := fun j => (ho.frozen h.lt hp j).trans (h.fz j)
    all := hm
    some_ := fun k b hk e => (h.some_ k b hk e).kept ho (by simp; exact h.neAk hk e) }
def updL (L : Nat → List DuT) (k : Nat) (x : List DuT) : Nat → List DuT := fun j => if j = k then x else L j
def updM (m : Nat → Option Nat) (k : Nat) (x : Option Nat) : Nat → Option Nat := fun j => if j = k then x else m j
theorem updL_at (L : Nat → List DuT) (k : Nat) (x : List DuT) : updL L k x k = x := if_pos rfl
theorem updM_at (m : Nat → Option Nat) (k : Nat) (x : Option Nat) : updM m k x k = x := if_pos rfl
theorem updL_of {L : Nat → List DuT} {k j : Nat} (x : List DuT) (h : j ≠ k) : updL L k x j = L j := if_neg h
theorem updM_of {m : Nat → Option Nat} {k j : Nat} (x : Option Nat) (h : j ≠ k) : updM m k x j = m j := if_neg h
/-- A slot's map is turned. -/
theorem Wx.turnK {k b : Nat} {x : List DuT} (h : Wx w p A t la m L) (hk : k < 168) (e : m k = some b) (hg : w.grownBy w' (some b)) (hm : Mp w' b x) : Wx w' p A t la m (updL L k x) := by
  have ho := only_grown hg
  have hp : p ∉ [b] := by simp; exact fun x => h.nek hk e x.symm
  exact { h with
    lt := Nat.lt_of_lt_of_le h.lt ho.size
    c0 := (ho.cell h.lt hp 0).trans h.c0
    c1 := (ho.cell h.lt hp 1).trans h.c1
    ck := fun k hk => (ho.cell h.lt hp _).trans (h.ck k hk)
    fz := fun j => (ho.frozen h.lt hp j).trans (h.fz j)
    all := h.all.kept ho (by simp; exact fun x => h.neAk hk e x.symm)
    some_ := fun j c hj ej => by
      by_cases hjk : j = k
      · subst hjk
        rw [e] at ej
        cases ej
        rw [updL_at]; exact hm
      · rw [updL_of _ hjk]
        exact (h.some_ j c hj ej).kept ho (by simp; rintro rfl; exact hjk (h.apart j k c hj hk ej e))
    none_ := fun j hj ej => by
      by_cases hjk : j = k
      · subst hjk; rw [e] at ej; cases ej
      · rw [updL_of _ hjk]; exact h.none_ j hj ej }
/-- A slot is written: none, or a new map without timers. -/
theorem Wx.setK {k : Nat} (h : Wx w p A t la m L) (hk : k < 168) : Wx (w.setCell ⟨p, 2 + k, none⟩ (.map none)) p A t la (updM m k none) (updL L k []) := by
  have ho : Only [p] w (w.setCell ⟨p, 2 + k, none⟩ (.map none)) := Only.setCell w (by simp) _ _
  have oth : ∀ j, j ≠ 2 + k → (w.setCell ⟨p, 2 + k, none⟩ (.map none)).cell? ⟨p, j, none⟩ = w.cell? ⟨p, j, none⟩ := fun j hj => World.cell?_setCell_other _ _ _ _ (fun e => by injection e with _ e; exact hj e.symm)
  exact { lt := Nat.lt_of_lt_of_le h.lt ho.size
          c0 := (oth 0 (by omega)).trans h.c0
          c1 := (oth 1 (by omega)).trans h.c1
          ck := fun j hj => by
            by_cases hjk : j = k
            · subst hjk
              rw [updM_at]
              exact World.cell?_setCell_same' _ _ _ (by rw [h.ck j hj]; rfl)
            · rw [updM_of _ hjk]
              exact (oth _ (by omega)).trans (h.ck j hj)
          fz := fun j => by rw [World.frozen?_setCell]; exact h.fz j
          all := h.all.kept ho (by simp; exact h.neA)
          some_ := fun j c hj ej => by
            by_cases hjk : j = k
            · subst hjk; rw [updM_at] at ej; cases ej
            · rw [updM_of _ hjk] at ej
              rw [updL_of _ hjk]
              exact (h.some_ j c hj ej).kept ho (by simp; exact h.nek hj ej)
          none_ := fun j hj ej => by
            by_cases hjk : j = k
            · subst hjk; rw [updL_at]
            · rw [updM_of _ hjk] at ej
              rw [updL_of _ hjk]; exact h.none_ j hj ej
          apart := fun i j b hi hj ei ej => by
            by_cases h1 : i = k
            · subst h1; rw [updM_at] at ei; cases ei
            · by_cases h2 : j = k
              · subst h2; rw [updM_at] at ej; cases ej
              · rw [updM_of _ h1] at ei
                rw [updM_of _ h2] at ej
                exact h.apart i j b hi hj ei ej
          ne := fun j hj => by
            by_cases hjk : j = k
            · subst hjk; rw [updM_at]; exact fun e => by cases e
            · rw [updM_of _ hjk]; exact h.ne j hj }
theorem Wx.newK {k b : Nat} (h : Wx w p A t la m L) (hk : k < 168) (e0 : m k = none) (hb : Mp w b []) (hn : b ∉ blks p A m) : Wx (w.setCell ⟨p, 2 + k, none⟩ (.map (some b))) p A t la (updM m k (some b)) L := by
  have ho : Only [p] w (w.setCell ⟨p, 2 + k, none⟩ (.map (some b))) := Only.setCell w (by simp) _ _
  have oth : ∀ j, j ≠ 2 + k → (w.setCell ⟨p, 2 + k, none⟩ (.map (some b))).cell? ⟨p, j, none⟩ = w.cell? ⟨p, j, none⟩ := fun j hj => World.cell?_setCell_other _ _ _ _ (fun e => by injection e with _ e; exact hj e.symm)
  have hbp : b ≠ p := fun e => hn (mem_blks.2 (Or.inl e))
  exact { lt := Nat.lt_of_lt_of_le h.lt ho.size
          c0 := (oth 0 (by omega)).trans h.c0
          c1 := (oth 1 (by omega)).trans h.c1
          ck := fun j hj => by
            by_cases hjk : j = k
            · subst hjk
              rw [updM_at]
              exact World.cell?_setCell_same' _ _ _ (by rw [h.ck j hj]; rfl)
            · rw [updM_of _ hjk]
              exact (oth _ (by omega)).trans (h.ck j hj)
          fz := fun j => by rw [World.frozen?_setCell]; exact h.fz j
          all := h.all.kept ho (by simp; exact h.neA)
          some_ := fun j c hj ej => by
            by_cases hjk : j = k
            · subst hjk; rw [updM_at] at ej; cases ej
              rw [h.none_ j hj e0]
              exact hb.kept ho (by simp; exact hbp)
            · rw [updM_of _ hjk] at ej
              exact (h.some_ j c hj ej).kept ho (by simp; exact h.nek hj ej)
          none_ := fun j hj ej => by
            by_cases hjk : j = k
            · subst hjk; rw [updM_at] at ej; cases ej
            · rw [updM_of _ hjk] at ej
              exact h.none_ j hj ej
          apart := fun i j c hi hj ei ej => by
            by_cases h1 : i = k
            · by_cases h2 : j = k
              · rw [h1, h2]
              · subst h1
                rw [updM_at] at ei
                cases ei
                rw [updM_of _ h2] at ej
                exact absurd (mem_blks.2 (Or.inr (Or.inr ⟨j, hj, ej⟩))) hn
            · by_cases h2 : j = k
              · subst h2
                rw [updM_at] at ej
                cases ej
                rw [updM_of _ h1] at ei
                exact absurd (mem_blks.2 (Or.inr (Or.inr ⟨i, hi, ei⟩))) hn
              · rw [updM_of _ h1] at ei
                rw [updM_of _ h2] at ej
                exact h.apart i j c hi hj ei ej
          ne := fun j hj => by
            by_cases hjk : j = k
            · subst hjk; rw [updM_at]; exact fun e => by cases e; exact hn (mem_blks.2 (Or.inr (Or.inl rfl)))
            · rw [updM_of _ hjk]; exact h.ne j hj }
/-- The time is written. -/
theorem Wx.setT (h : Wx w p A t la m L) (u : Nat) : Wx (w.setCell ⟨p, 0, none⟩ (.int .u64 (u : Nat))) p A u la m L := by
  have ho : Only [p] w (w.setCell ⟨p, 0, none⟩ (.int .u64 (u : Nat))) := Only.setCell w (by simp) _ _
  have oth : ∀ j, j ≠ 0 → (w.setCell ⟨p, 0, none⟩ (.int .u64 (u : Nat))).cell? ⟨p, j, none⟩ = w.cell? ⟨p, j, none⟩ := fun j hj => World.cell?_setCell_other _ _ _ _ (fun e => by injection e with _ e; exact hj e.symm)
  exact { h with
    lt := Nat.lt_of_lt_of_le h.lt ho.size
    c0 := World.cell?_setCell_same' _ _ _ (by rw [h.c0]; rfl)
    c1 := (oth 1 (by omega)).trans h.c1
    ck := fun j hj => (oth _ (by omega)).trans (h.ck j hj)
    fz := fun j => by rw [World.frozen?_setCell]; exact h.fz j
    all := h.all.kept ho (by simp; exact h.neA)
    some_ := fun j c hj ej => (h.some_ j c hj ej).kept ho (by simp; exact h.nek hj ej) }
theorem blks_upd {k x : Nat} {b : Option Nat} (h : x ∈ blks p A (updM m k b)) : x ∈ blks p A m ∨ b = some x := by
  rcases mem_blks.1 h with e | e | ⟨j, hj, e⟩
  · exact Or.inl (mem_blks.2 (Or.inl e))
  · exact Or.inl (mem_blks.2 (Or.inr (Or.inl e)))
  · by_cases hjk : j = k
    · subst hjk; rw [updM_at] at e; exact Or.inr e
    · rw [updM_of _ hjk] at e; exact Or.inl (mem_blks.2 (Or.inr (Or.inr ⟨j, hj, e⟩)))
end
/-- Slot k's timers. -/
def inK (t : Nat) (l : List DuT) (k : Nat) : List DuT := l.filter (fun x => pl t x.2 == k)
/-- A wheel of a time and timers in order. -/
def WhT (w : World) (p : Nat) (F : List Nat) (t : Nat) (l : List DuT) : Prop := ∃ A m, F = blks p A m ∧ Wx w p A t l m (inK t l) ∧ Fine t l
theorem WhT.kept {w w' : World} {p : Nat} {F : List Nat} {t : Nat} {l : List DuT} {S : List Nat} (h : WhT w p F t l) (ho : Only S w w') (hs : ∀ x ∈ F, x ∉ S) : WhT w' p F t l := by
  obtain ⟨A, m, rfl, hw, hf⟩ := h
  exact ⟨A, m, rfl, hw.kept ho hs, hf⟩
theorem WhT.lt {w : World} {p : Nat} {F : List Nat} {t : Nat} {l : List DuT} (h : WhT w p F t l) : ∀ x ∈ F, x < w.heap.size := by
  obtain ⟨A, m, rfl, hw, hf⟩ := h
  exact fun x hx => hw.blk_lt hx
theorem WhT.fine {w : World} {p : Nat} {F : List Nat} {t : Nat} {l : List DuT} (h : WhT w p F t l) : Fine t l := by
  obtain ⟨A, m, rfl, hw, hf⟩ := h
  exact hf
end Wh
end Go.Proofs.Ytddiapihopgpbaa
