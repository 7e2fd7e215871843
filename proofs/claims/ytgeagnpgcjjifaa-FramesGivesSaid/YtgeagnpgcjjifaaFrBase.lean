/-
  Tables of frames as they lie in a world: the owners' row, the counts; the document's own. Conditions: none.
-/
import Derived.Test.YtgeagnpgcjjifaaPhBase
import Derived.Laws.MakeOwn
namespace Go.Proofs.Ytgeagnpgcjjifaa
open Go.RowKit
namespace Fr
open Ph (Only)

/-- A row of small numbers, from a block's head on, that may be written. -/
structure IRow (w : World) (b : Nat) (l : List Nat) : Prop where
  lt : b < w.heap.size
  cell : ∀ (j x : Nat), l[j]? = some x → w.cell? ⟨b, j, none⟩ = some (.int .i64 (x : Int))
  free : ∀ j, j < l.length → w.frozen? ⟨b, j, none⟩ = false
theorem IRow.kept {w w' : World} {b : Nat} {l : List Nat} {S : List Nat} (h : IRow w b l) (ho : Only S w w') (hb : b ∉ S) : IRow w' b l :=
  ⟨Nat.lt_of_lt_of_le h.lt ho.size, fun j x hj => (ho.cell h.lt hb j).trans (h.cell j x hj), fun j hj => (ho.frozen h.lt hb j).trans (h.free j hj)⟩
theorem IRow.keptB {w w' : World} {b B : Nat} {l : List Nat} (h : IRow w b l) (ho : Below B w w') (hb : b < B) : IRow w' b l :=
  ⟨Nat.lt_of_lt_of_le h.lt ho.size, fun j x hj => (ho.cell (p := ⟨b, j, none⟩) hb).trans (h.cell j x hj), fun j hj => (ho.frozen (p := ⟨b, j, none⟩) hb).trans (h.free j hj)⟩
theorem IRow.some {w : World} {b : Nat} {l : List Nat} (h : IRow w b l) {j : Nat} (hj : j < l.length) : (w.cell? ⟨b, j, none⟩).isSome = true := by
  rw [h.cell j l[j] (List.getElem?_eq_getElem hj)]; rfl
theorem IRow.set {w : World} {b : Nat} {l : List Nat} (h : IRow w b l) (f x : Nat) (hf : f < l.length) : IRow (w.setCell ⟨b, f, none⟩ (.int .i64 (x : Int))) b (l.set f x) := by
  refine ⟨by rw [World.size_setCell]; exact h.lt, fun j y hj => ?_, fun j hj => ?_⟩
  · by_cases e : j = f
    · subst e
      rw [List.getElem?_set_self hf] at hj
      injection hj with hj
      subst hj
      exact World.cell?_setCell_same' _ _ _ (h.some hf)
    · rw [List.getElem?_set_ne (Ne.symm e)] at hj
      rw [World.cell?_setCell_other _ _ _ _ (fun x => e (by injection x with _ x; exact x.symm))]
      exact h.cell j y hj
  · rw [World.frozen?_setCell]
    exact h.free j (by simpa using hj)

/-- A table: its place t, its owners' block F, what its counts tell. -/
structure Tb (w : World) (t F : Nat) (os : List Nat) (c : Nat → Int) : Prop where
  lt : t < w.heap.size
  ne : t ≠ F
  head : w.cell? ⟨t, 0, none⟩ = some (.slice (some ⟨F, 0, none⟩) os.length os.length)
  cnt : ∀ k, k < 10 → w.cell? ⟨t, 1 + k, none⟩ = some (.int .i64 (c k))
  cfree : ∀ k, k < 10 → w.frozen? ⟨t, 1 + k, none⟩ = false
  row : IRow w F os
theorem Tb.kept {w w' : World} {t F : Nat} {os : List Nat} {c : Nat → Int} {S : List Nat} (h : Tb w t F os c) (ho : Only S w w') (ht : t ∉ S) (hF : F ∉ S) : Tb w' t F os c :=
  ⟨Nat.lt_of_lt_of_le h.lt ho.size, h.ne, (ho.cell h.lt ht 0).trans h.head, fun k hk => (ho.cell h.lt ht _).trans (h.cnt k hk), fun k hk => (ho.frozen h.lt ht _).trans (h.cfree k hk), h.row.kept ho hF⟩
theorem Tb.keptB {w w' : World} {t F B : Nat} {os : List Nat} {c : Nat → Int} (h : Tb w t F os c) (ho : Below B w w') (ht : t < B) (hF : F < B) : Tb w' t F os c :=
  ⟨Nat.lt_of_lt_of_le h.lt ho.size, h.ne, (ho.cell (p := ⟨t, 0, none⟩) ht).trans h.head, fun k hk => (ho.cell (p := ⟨t, 1 + k, none⟩) ht).trans (h.cnt k hk), fun k hk => (ho.frozen (p := ⟨t, 1 + k, none⟩) ht).trans (h.cfree k hk), h.row.keptB ho hF⟩
/-- One count is put. -/
def upd (c : Nat → Int) (k : Nat) (v : Int) (j : Nat) : Int := if j = k then v else c j
theorem Tb.setCnt {w : World} {t F : Nat} {os : List Nat} {c : Nat → Int} (h : Tb w t F os c) (k : Nat) (v : Int) (hk : k < 10) : Tb (w.setCell ⟨t, 1 + k, none⟩ (.int .i64 v)) t F os (upd c k v) ∧ Only [t] w (w.setCell ⟨t, 1 + k, none⟩ (.int .i64 v)) := by
  have ho : Only [t] w (w.setCell ⟨t, 1 + k, none⟩ (.int .i64 v)) := Only.setCell w (by simp) _ _
  refine ⟨⟨Nat.lt_of_lt_of_le h.lt ho.size, h.ne, ?_, fun j hj => ?_, fun j hj => ?_, h.row.kept ho (by simp; exact fun e => h.ne e.symm)⟩, ho⟩
  · rw [World.cell?_setCell_other _ _ _ _ (fun x => by injection x with _ x; omega)]; exact h.head
  · unfold upd
    by_cases e : j = k
    · subst e
      rw [if_pos rfl]
      exact World.cell?_setCell_same' _ _ _ (by rw [h.cnt j hj]; rfl)
    · rw [if_neg e, World.cell?_setCell_other _ _ _ _ (fun x => e (by injection x with _ x; omega))]
      exact h.cnt j hj
  · rw [World.frozen?_setCell]; exact h.cfree j hj
theorem Tb.setRow {w : World} {t F : Nat} {os : List Nat} {c : Nat → Int} (h : Tb w t F os c) (f x : Nat) (hf : f < os.length) : Tb (w.setCell ⟨F, f, none⟩ (.int .i64 (x : Int))) t F (os.set f x) c ∧ Only [F] w (w.setCell ⟨F, f, none⟩ (.int .i64 (x : Int))) := by
  have ho : Only [F] w (w.setCell ⟨F, f, none⟩ (.int .i64 (x : Int))) := Only.setCell w (by simp) _ _
  have hn : t ∉ [F] := by simp; exact h.ne
  refine ⟨⟨Nat.lt_of_lt_of_le h.lt ho.size, h.ne, ?_, fun j hj => (ho.cell h.lt hn _).trans (h.cnt j hj), fun j hj => (ho.frozen h.lt hn _).trans (h.cfree j hj), h.row.set f x hf⟩, ho⟩
  rw [List.length_set]
  exact (ho.cell h.lt hn 0).trans h.head
/-- How many are an owner's. -/
def cn (os : List Nat) (k : Nat) : Int := (os.count k : Nat)
/-- A table that tells what its owners' row does. -/
structure Tab (w : World) (t F : Nat) (os : List Nat) : Prop where
  tb : Tb w t F os (cn os)
  few : ∀ x ∈ os, x ≤ 9
  len : os.length ≤ 1024
theorem Tab.kept {w w' : World} {t F : Nat} {os : List Nat} {S : List Nat} (h : Tab w t F os) (ho : Only S w w') (ht : t ∉ S) (hF : F ∉ S) : Tab w' t F os := ⟨h.tb.kept ho ht hF, h.few, h.len⟩
theorem Tab.keptB {w w' : World} {t F B : Nat} {os : List Nat} (h : Tab w t F os) (ho : Below B w w') (ht : t < B) (hF : F < B) : Tab w' t F os := ⟨h.tb.keptB ho ht hF, h.few, h.len⟩
theorem cn_le (os : List Nat) (k : Nat) : 0 ≤ cn os k ∧ cn os k ≤ os.length := by
  unfold cn
  have := List.count_le_length (a := k) (l := os)
  omega
theorem cn_set {os : List Nat} {f x to : Nat} (hf : os[f]? = some x) (k : Nat) : cn (os.set f to) k = cn os k - (if k = x then 1 else 0) + (if k = to then 1 else 0) := by
  obtain ⟨hl, hx⟩ := List.getElem?_eq_some_iff.1 hf
  unfold cn
  rw [List.count_set hl, hx]
  have h1 : (x == k) = true → 1 ≤ os.count k := fun e => by
    have e : x = k := by simpa using e
    subst e
    have := List.count_pos_iff.2 (List.mem_of_getElem hx)
    omega
  have e1 : (x == k) = decide (k = x) := by rw [Bool.eq_iff_iff]; simp; exact eq_comm
  have e2 : (to == k) = decide (k = to) := by rw [Bool.eq_iff_iff]; simp; exact eq_comm
  rw [e1] at h1 ⊢
  rw [e2]
  simp only [decide_eq_true_eq] at h1 ⊢
  generalize os.count k = n at h1 ⊢
  by_cases a : k = x
  · have h1 := h1 a
    rw [if_pos a, if_pos a]
    by_cases b : k = to
    · rw [if_pos b, if_pos b]; omega
    · rw [if_neg b, if_neg b]; omega
  · rw [if_neg a, if_neg a]
    by_cases b : k = to
    · rw [if_pos b, if_pos b]; omega
    · rw [if_neg b, if_neg b]; omega
theorem few_set {os : List Nat} (h : ∀ x ∈ os, x ≤ 9) (f to : Nat) (hto : to ≤ 9) : ∀ x ∈ os.set f to, x ≤ 9 := fun x hx => by
  rcases List.mem_or_eq_of_mem_set hx with h1 | h1
  · exact h x h1
  · omega

/-- The document's own table: its place, its owners' block. -/
structure RTab (w : World) (r G : Nat) (os : List Nat) : Prop where
  lt : r < w.heap.size
  ne : r ≠ G
  head : w.cell? ⟨r, 0, none⟩ = some (.slice (some ⟨G, 0, none⟩) os.length os.length)
  row : IRow w G os
theorem RTab.kept {w w' : World} {r G : Nat} {os : List Nat} {S : List Nat} (h : RTab w r G os) (ho : Only S w w') (hr : r ∉ S) (hG : G ∉ S) : RTab w' r G os :=
  ⟨Nat.lt_of_lt_of_le h.lt ho.size, h.ne, (ho.cell h.lt hr 0).trans h.head, h.row.kept ho hG⟩
theorem RTab.keptB {w w' : World} {r G B : Nat} {os : List Nat} (h : RTab w r G os) (ho : Below B w w') (hr : r < B) (hG : G < B) : RTab w' r G os :=
  ⟨Nat.lt_of_lt_of_le h.lt ho.size, h.ne, (ho.cell (p := ⟨r, 0, none⟩) hr).trans h.head, h.row.keptB ho hG⟩
theorem RTab.set {w : World} {r G : Nat} {os : List Nat} (h : RTab w r G os) (f x : Nat) (hf : f < os.length) : RTab (w.setCell ⟨G, f, none⟩ (.int .i64 (x : Int))) r G (os.set f x) ∧ Only [G] w (w.setCell ⟨G, f, none⟩ (.int .i64 (x : Int))) := by
  have ho : Only [G] w (w.setCell ⟨G, f, none⟩ (.int .i64 (x : Int))) := Only.setCell w (by simp) _ _
  have hn : r ∉ [G] := by simp; exact h.ne
  refine ⟨⟨Nat.lt_of_lt_of_le h.lt ho.size, h.ne, ?_, h.row.set f x hf⟩, ho⟩
  rw [List.length_set]
  exact (ho.cell h.lt hn 0).trans h.head
end Fr
end Go.Proofs.Ytgeagnpgcjjifaa
