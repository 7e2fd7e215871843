/-
  Tables of frames as they lie in a world: the owners' row, the counts; the document's own. Conditions: none.
  What frames's takes, pass, Owner and Count answer. Conditions: that a table lies there.
  Plain: which frame, or run of frames, is nobody's first; frames that are taken, moved, given; which are an owner's. Conditions: none.
  What slices.Index, and frames's freeRun, take, Take and TakeRun answer. Conditions: that a table lies there.
  What frames's New, owns, Give and Move answer. Conditions: that a table lies there.
  What frames's New, and the document's own New and owner answer. Conditions: none.
  Rows of numbers that grow and are read; what frames's List and GiveAll, the document's own List and the laws' owners and SameInts answer. Conditions: that a table lies there.
  Plain facts for the laws of frames: what fails changes nothing; the counts' sum; frames that are taken one after the other; the first frame that is nobody's. Conditions: none.
-/
import Derived.Test.YtiiggmfindfkfaaGreatPhKit
import Derived.Laws.MakeOwn
import Derived.Deep.LoopGhost
import Derived.WalkMore
import Derived.Maps.AppendAt
import Derived.Deep.AppendLies
import Derived.Laws.OwnMore
namespace Go.Proofs.YtiiggmfindfkfaaGreat
open Go.RowKit
namespace Fr
open Ph (Only)

/-- A row of small numbers, from a block's head on, that may be written. -/
structure IRow (w : World) (b : Nat) (l : List Nat) : Prop where
  lt : b < w.heap.size
  cell : ∀ (j x : Nat), l[j]? = some x → w.cell? ⟨b, j, none⟩ = some (.int .i64 (x : Int))
  free : ∀ j, j < l.length → w.frozen? ⟨b, j, none⟩ = false
theorem IRow.kept {w w' : World} {b : Nat} {l : List Nat} {S : List Nat} (h : IRow w b l) (ho : Only S w w') (hb : b ∉ S) : IRow w' b l :=
  ⟨Nat.lt_of_lt_of_le h.lt ho.size, fun j x hj => (ho.cell h.lt hb j).trans (h.cell j x hj), fun j hj => (ho.frozen h.lt hb j).trans (h.free j hj)⟩
theorem IRow.keptB {w w' : World} {b B : Nat} {l : List Nat} (h : IRow w b l) (ho : Below B w w') (hb : b < B) : IRow w' b l :=
  ⟨Nat.lt_of_lt_of_le h.lt ho.size, fun j x hj => (ho.cell (p := ⟨b, j, none⟩) hb).trans (h.cell j x hj), fun j hj => (ho.frozen (p := ⟨b, j, none⟩) hb).trans (h.free j hj)⟩
theorem IRow.some {w : World} {b : Nat} {l : List Nat} (h : IRow w b l) {j : Nat} (hj : j < l.length) : (w.cell? ⟨b, j, none⟩).isSome = true := by
  rw [h.cell j l[j] (List.getElem?_eq_getElem hj)]; rfl
theorem IRow.set {w : World} {b : Nat} {l : List Nat} (h : IRow w b l) (f x : Nat) (hf : f < l.length) : IRow (w.setCell ⟨b, f, none⟩ (.int .i64 (x : Int))) b (l.set f x) := by
  refine ⟨by rw [World.size_setCell]; exact h.lt, fun j y hj => ?_, fun j hj => ?_⟩
  · by_cases e : j = f
    · subst e
      rw [List.getElem?_set_self hf] at hj
      injection hj with hj
      subst hj
      exact World.cell?_setCell_same' _ _ _ (h.some hf)
    · rw [List.getElem?_set_ne (Ne.symm e)] at hj
      rw [World.cell?_setCell_other _ _ _ _ (fun x => e (by injection x with _ x; exact x.symm))]
      exact h.cell j y hj
  · rw [World.frozen?_setCell]
    exact h.free j (by simpa using hj)

/-- A table: its place t, its owners' block F, what its counts tell. -/
structure Tb (w : World) (t F : Nat) (os : List Nat) (c : Nat → Int) : Prop where
  lt : t < w.heap.size
  ne : t ≠ F
  head : w.cell? ⟨t, 0, none⟩ = some (.slice (some ⟨F, 0, none⟩) os.length os.length)
  cnt : ∀ k, k < 10 → w.cell? ⟨t, 1 + k, none⟩ = some (.int .i64 (c k))
  cfree : ∀ k, k < 10 → w.frozen? ⟨t, 1 + k, none⟩ = false
  row : IRow w F os
theorem Tb.kept {w w' : World} {t F : Nat} {os : List Nat} {c : Nat → Int} {S : List Nat} (h : Tb w t F os c) (ho : Only S w w') (ht : t ∉ S) (hF : F ∉ S) : Tb w' t F os c :=
  ⟨Nat.lt_of_lt_of_le h.lt ho.size, h.ne, (ho.cell h.lt ht 0).trans h.head, fun k hk => (ho.cell h.lt ht _).trans (h.cnt k hk), fun k hk => (ho.frozen h.lt ht _).trans (h.cfree k hk), h.row.kept ho hF⟩
theorem Tb.keptB {w w' : World} {t F B : Nat} {os : List Nat} {c : Nat → Int} (h : Tb w t F os c) (ho : Below B w w') (ht : t < B) (hF : F < B) : Tb w' t F os c :=
  ⟨Nat.lt_of_lt_of_le h.lt ho.size, h.ne, (ho.cell (p := ⟨t, 0, none⟩) ht).trans h.head, fun k hk => (ho.cell (p := ⟨t, 1 + k, none⟩) ht).trans (h.cnt k hk), fun k hk => (ho.frozen (p := ⟨t, 1 + k, none⟩) ht).trans (h.cfree k hk), h.row.keptB ho hF⟩
/-- One count is put. -/
def upd (c : Nat → Int) (k : Nat) (v : Int) (j : Nat) : Int := if j = k then v else c j
theorem Tb.setCnt {w : World} {t F : Nat} {os : List Nat} {c : Nat → Int} (h : Tb w t F os c) (k : Nat) (v : Int) (hk : k < 10) : Tb (w.setCell ⟨t, 1 + k, none⟩ (.int .i64 v)) t F os (upd c k v) ∧ Only [t] w (w.setCell ⟨t, 1 + k, none⟩ (.int .i64 v)) := by
  have ho : Only [t] w (w.setCell ⟨t, 1 + k, none⟩ (.int .i64 v)) := Only.setCell w (by simp) _ _
  refine ⟨⟨Nat.lt_of_lt_of_le h.lt ho.size, h.ne, ?_, fun j hj => ?_, fun j hj => ?_, h.row.kept ho (by simp; exact fun e => h.ne e.symm)⟩, ho⟩
  · rw [World.cell?_setCell_other _ _ _ _ (fun x => by injection x with _ x; omega)]; exact h.head
  · unfold upd
    by_cases e : j = k
    · subst e
      rw [if_pos rfl]
      exact World.cell?_setCell_same' _ _ _ (by rw [h.cnt j hj]; rfl)
    · rw [if_neg e, World.cell?_setCell_other _ _ _ _ (fun x => e (by injection x with _ x; omega))]
      exact h.cnt j hj
  · rw [World.frozen?_setCell]; exact h.cfree j hj
theorem Tb.setRow {w : World} {t F : Nat} {os : List Nat} {c : Nat → Int} (h : Tb w t F os c) (f x : Nat) (hf : f < os.length) : Tb (w.setCell ⟨F, f, none⟩ (.int .i64 (x : Int))) t F (os.set f x) c ∧ Only [F] w (w.setCell ⟨F, f, none⟩ (.int .i64 (x : Int))) := by
  have ho : Only [F] w (w.setCell ⟨F, f, none⟩ (.int .i64 (x : Int))) := Only.setCell w (by simp) _ _
  have hn : t ∉ [F] := by simp; exact h.ne
  refine ⟨⟨Nat.lt_of_lt_of_le h.lt ho.size, h.ne, ?_, fun j hj => (ho.cell h.lt hn _).trans (h.cnt j hj), fun j hj => (ho.frozen h.lt hn _).trans (h.cfree j hj), h.row.set f x hf⟩, ho⟩
  rw [List.length_set]
  exact (ho.cell h.lt hn 0).trans h.head
/-- How many are an owner's. -/
def cn (os : List Nat) (k : Nat) : Int := (os.count k : Nat)
/-- A table that tells what its owners' row does. -/
structure Tab (w : World) (t F : Nat) (os : List Nat) : Prop where
  tb : Tb w t F os (cn os)
  few : ∀ x ∈ os, x ≤ 9
  len : os.length ≤ 1024
theorem Tab.kept {w w' : World} {t F : Nat} {os : List Nat} {S : List Nat} (h : Tab w t F os) (ho : Only S w w') (ht : t ∉ S) (hF : F ∉ S) : Tab w' t F os := ⟨h.tb.kept ho ht hF, h.few, h.len⟩
theorem Tab.keptB {w w' : World} {t F B : Nat} {os : List Nat} (h : Tab w t F os) (ho : Below B w w') (ht : t < B) (hF : F < B) : Tab w' t F os := ⟨h.tb.keptB ho ht hF, h.few, h.len⟩
theorem cn_le (os : List Nat) (k : Nat) : 0 ≤ cn os k ∧ cn os k ≤ os.length := by
  unfold cn
  have := List.count_le_length (a := k) (l := os)
  omega
theorem cn_set {os : List Nat} {f x to : Nat} (hf : os[f]? = some x) (k : Nat) : cn (os.set f to) k = cn os k - (if k = x then 1 else 0) + (if k = to then 1 else 0) := by
  obtain ⟨hl, hx⟩ := List.getElem?_eq_some_iff.1 hf
  unfold cn
  rw [List.count_set hl, hx]
  have h1 : (x == k) = true → 1 ≤ os.count k := fun e => by
    have e : x = k := by simpa using e
    subst e
    have := List.count_pos_iff.2 (List.mem_of_getElem hx)
    omega
  have e1 : (x == k) = decide (k = x) := by rw [Bool.eq_iff_iff]; simp; exact eq_comm
  have e2 : (to == k) = decide (k = to) := by rw [Bool.eq_iff_iff]; simp; exact eq_comm
  rw [e1] at h1 ⊢
  rw [e2]
  simp only [decide_eq_true_eq] at h1 ⊢
  generalize os.count k = n at h1 ⊢
  by_cases a : k = x
  · have h1 := h1 a
    rw [if_pos a, if_pos a]
    by_cases b : k = to
    · rw [if_pos b, if_pos b]; omega
    · rw [if_neg b, if_neg b]; omega
  · rw [if_neg a, if_neg a]
    by_cases b : k = to
    · rw [if_pos b, if_pos b]; omega
    · rw [if_neg b, if_neg b]; omega
theorem few_set {os : List Nat} (h : ∀ x ∈ os, x ≤ 9) (f to : Nat) (hto : to ≤ 9) : ∀ x ∈ os.set f to, x ≤ 9 := fun x hx => by
  rcases List.mem_or_eq_of_mem_set hx with h1 | h1
  · exact h x h1
  · omega

/-- The document's own table: its place, its owners' block. -/
structure RTab (w : World) (r G : Nat) (os : List Nat) : Prop where
  lt : r < w.heap.size
  ne : r ≠ G
  head : w.cell? ⟨r, 0, none⟩ = some (.slice (some ⟨G, 0, none⟩) os.length os.length)
  row : IRow w G os
theorem RTab.kept {w w' : World} {r G : Nat} {os : List Nat} {S : List Nat} (h : RTab w r G os) (ho : Only S w w') (hr : r ∉ S) (hG : G ∉ S) : RTab w' r G os :=
  ⟨Nat.lt_of_lt_of_le h.lt ho.size, h.ne, (ho.cell h.lt hr 0).trans h.head, h.row.kept ho hG⟩
theorem RTab.keptB {w w' : World} {r G B : Nat} {os : List Nat} (h : RTab w r G os) (ho : Below B w w') (hr : r < B) (hG : G < B) : RTab w' r G os :=
  ⟨Nat.lt_of_lt_of_le h.lt ho.size, h.ne, (ho.cell (p := ⟨r, 0, none⟩) hr).trans h.head, h.row.keptB ho hG⟩
theorem RTab.set {w : World} {r G : Nat} {os : List Nat} (h : RTab w r G os) (f x : Nat) (hf : f < os.length) : RTab (w.setCell ⟨G, f, none⟩ (.int .i64 (x : Int))) r G (os.set f x) ∧ Only [G] w (w.setCell ⟨G, f, none⟩ (.int .i64 (x : Int))) := by
  have ho : Only [G] w (w.setCell ⟨G, f, none⟩ (.int .i64 (x : Int))) := Only.setCell w (by simp) _ _
  have hn : r ∉ [G] := by simp; exact h.ne
  refine ⟨⟨Nat.lt_of_lt_of_le h.lt ho.size, h.ne, ?_, h.row.set f x hf⟩, ho⟩
  rw [List.length_set]
  exact (ho.cell h.lt hn 0).trans h.head
end Fr
end Go.Proofs.YtiiggmfindfkfaaGreat
namespace Go.Proofs.YtiiggmfindfkfaaGreat
open Go.RowKit
namespace Fr
open Ph (Only)

/-- May it take frames? -/
def tk (o : Int) : Bool := decide (1 ≤ o) && decide (o ≤ 9)
theorem takes_any (o : Int) (w : World) : Calls Tryz.prog 102 #[.int .i64 o] w fun e w' => e = .returned (.bool (tk o)) ∧ w = w' := by
  unfold tk
  by_cases h : 1 ≤ o
  · have d1 : decide (1 ≤ o) = true := decide_eq_true h
    rw [d1, Bool.true_and]
    go_enter Tryz.func102, Tryz.ntmps102
    go_wp2
    go_ret
    exact ⟨rfl, rfl⟩
  · have d1 : decide (1 ≤ o) = false := decide_eq_false h
    rw [d1, Bool.false_and]
    go_enter Tryz.func102, Tryz.ntmps102
    go_wp2
    go_ret
    exact ⟨rfl, rfl⟩
theorem count_yes (t F k : Nat) (os : List Nat) (w : World) (hT : Tab w t F os) (hk : k < 10) :
    Calls Tryz.prog 27 #[.pointer (some ⟨t, 0, none⟩), .int .i64 k] w fun e w' => e = .returned (.int .i64 (cn os k)) ∧ w = w' := by
  have hc := hT.tb.cnt k hk
  have h0 : ¬ ((k : Int) < 0) := by omega
  have h1 : ¬ (10 ≤ (k : Int)) := by omega
  clear hT
  go_enter Tryz.func27, Tryz.ntmps27
  go_wp2
  go_ret
  exact ⟨rfl, rfl⟩
theorem count_no (p : Value) (k : Int) (w : World) (hk : k < 0 ∨ 10 ≤ k) :
    Calls Tryz.prog 27 #[p, .int .i64 k] w fun e w' => e = .returned (.int .i64 0) ∧ w = w' := by
  by_cases h : k < 0
  · clear hk
    go_enter Tryz.func27, Tryz.ntmps27
    go_wp2
    go_ret
    exact ⟨rfl, rfl⟩
  · have h2 : 10 ≤ k := by omega
    clear hk
    go_enter Tryz.func27, Tryz.ntmps27
    go_wp2
    go_ret
    exact ⟨rfl, rfl⟩
theorem pass_any (t F f x to : Nat) (os : List Nat) (w : World) (hT : Tab w t F os) (hx : os[f]? = some x) (hto : to ≤ 9) :
    Calls Tryz.prog 76 #[.pointer (some ⟨t, 0, none⟩), .int .i64 f, .int .i64 to] w fun e w' => e = .returned (.tuple #[]) ∧ Tab w' t F (os.set f to) ∧ Only [t, F] w w' := by
  have hl : f < os.length := (List.getElem?_eq_some_iff.1 hx).1
  have hx9 : x ≤ 9 := hT.few x (List.mem_of_getElem? hx)
  have hlen := hT.len
  have hh := hT.tb.head
  have hc := hT.tb.row.cell f x hx
  have hk := hT.tb.cnt x (by omega)
  have hf := hT.tb.cfree x (by omega)
  have b := cn_le os x
  have b1 : 0 ≤ cn os x := b.1
  have b2 : cn os x ≤ 1024 := by have := b.2; omega
  obtain ⟨T1, O1⟩ := hT.tb.setCnt x (cn os x - 1) (by omega)
  have D1 := Only.drewN [] (w.setCell ⟨t, 1 + x, none⟩ (.int .i64 (cn os x - 1))) 1
  have T1' := Lib.hid (T1.kept D1 (by simp) (by simp))
  have O1' := Lib.hid (O1.trans (D1.mono (by simp)))
  have HT := Lib.hid hT
  have HX := Lib.hid hx
  clear b T1 O1 D1 hT hx
  generalize hcn : cn os x = c at *
  have HN := Lib.hid hcn
  clear hcn
  go_enter Tryz.func76, Tryz.ntmps76
  go_wp2_with fail
  go_region
  have T2 := T1'.out
  have O2 := O1'.out
  clear T1' O1' hh hc hk hf
  change Tb (w.setCell ⟨t, 1 + x, none⟩ (.int .i64 (c - 1))).drew t F os (upd (cn os) x (c - 1)) at T2
  change Only [t] w (w.setCell ⟨t, 1 + x, none⟩ (.int .i64 (c - 1))).drew at O2
  generalize (w.setCell ⟨t, 1 + x, none⟩ (.int .i64 (c - 1))).drew = w1 at *
  have hk := T2.cnt to (by omega)
  have hf := T2.cfree to (by omega)
  have hv : 0 ≤ upd (cn os) x (c - 1) to + 1 ∧ upd (cn os) x (c - 1) to ≤ 1024 := by
    have := cn_le os to
    unfold upd
    split <;> omega
  have hv1 := hv.1
  have hv2 := hv.2
  obtain ⟨T3, O3⟩ := T2.setCnt to (upd (cn os) x (c - 1) to + 1) (by omega)
  have D3 := Only.drewN [] (w1.setCell ⟨t, 1 + to, none⟩ (.int .i64 (upd (cn os) x (c - 1) to + 1))) 1
  have T3' := Lib.hid (T3.kept D3 (by simp) (by simp))
  have O3' := Lib.hid (O2.trans (O3.trans (D3.mono (by simp))))
  clear T3 O3 D3 T2 O2 hv
  generalize hcc : upd (cn os) x (c - 1) = cc at *
  have HC := Lib.hid hcc
  clear hcc
  generalize hd : cc to = d at *
  have HD := Lib.hid hd
  clear hd
  go_wp2_with fail
  go_region
  have T4 := T3'.out
  have O4 := O3'.out
  clear T3' O3' hk hf
  change Tb (w1.setCell ⟨t, 1 + to, none⟩ (.int .i64 (d + 1))).drew t F os (upd cc to (d + 1)) at T4
  change Only [t] w (w1.setCell ⟨t, 1 + to, none⟩ (.int .i64 (d + 1))).drew at O4
  generalize (w1.setCell ⟨t, 1 + to, none⟩ (.int .i64 (d + 1))).drew = w2 at *
  have hh := T4.head
  have hs := T4.row.some hl
  have hc := T4.row.cell f x HX.out
  have hf := T4.row.free f hl
  obtain ⟨T5, O5⟩ := T4.setRow f to hl
  have HT5 := Lib.hid T5
  have HO5 := Lib.hid ((O4.mono (S' := [t, F]) (by simp)).trans (O5.mono (by simp)))
  clear T5 O5 T4 O4
  go_wp2_with fail
  go_end0
  refine ⟨rfl, ⟨?_, few_set HT.out.few f to hto, by rw [List.length_set]; exact hlen⟩, HO5.out⟩
  have e : upd cc to (d + 1) = cn (os.set f to) := by
    funext k
    rw [cn_set HX.out k, ← HD.out, ← HC.out, ← HN.out]
    unfold upd
    by_cases h1 : k = x
    · subst h1
      by_cases h2 : k = to
      · subst h2
        simp
      · rw [if_neg h2, if_pos rfl, if_pos rfl, if_neg h2]; omega
    · by_cases h2 : k = to
      · subst h2
        rw [if_pos rfl, if_neg h1, if_neg h1, if_pos rfl]; omega
      · rw [if_neg h2, if_neg h1, if_neg h1, if_neg h2]; omega
  rw [← e]
  exact HT5.out
end Fr
end Go.Proofs.YtiiggmfindfkfaaGreat
namespace Go.Proofs.YtiiggmfindfkfaaGreat
namespace Fr

/-! ### A run that is nobody's -/
def isRun (n : Nat) (os : List Nat) (k : Nat) : Bool := decide (n * k + n ≤ os.length) && ((os.drop (n * k)).take n).all (· == 0)
theorem isRun_iff {n : Nat} {os : List Nat} {k : Nat} : isRun n os k = true ↔ n * k + n ≤ os.length ∧ ∀ i, i < n → os[n * k + i]? = some 0 := by
  unfold isRun
  rw [Bool.and_eq_true, decide_eq_true_iff, List.all_eq_true]
  constructor
  · rintro ⟨h1, h2⟩
    refine ⟨h1, fun i hi => ?_⟩
    have hl : n * k + i < os.length := by omega
    have hm : os[n * k + i] ∈ (os.drop (n * k)).take n := by
      rw [List.mem_iff_getElem?]
      refine ⟨i, ?_⟩
      rw [List.getElem?_take, if_pos hi, List.getElem?_drop, List.getElem?_eq_getElem hl]
    have := h2 _ hm
    rw [List.getElem?_eq_getElem hl]
    congr 1
    simpa using this
  · rintro ⟨h1, h2⟩
    refine ⟨h1, fun x hx => ?_⟩
    obtain ⟨i, hi⟩ := List.mem_iff_getElem?.1 hx
    rw [List.getElem?_take] at hi
    split at hi
    · rename_i hlt
      rw [List.getElem?_drop, h2 i hlt] at hi
      injection hi with hi
      subst hi
      rfl
    · cases hi
theorem isRun_no {n : Nat} {os : List Nat} {k i : Nat} {x : Nat} (hi : i < n) (hx : os[n * k + i]? = some x) (h : x ≠ 0) : isRun n os k = false := by
  cases e : isRun n os k with
  | false => rfl
  | true =>
    have := (isRun_iff.1 e).2 i hi
    rw [hx] at this
    injection this with this
    exact absurd this h
theorem isRun_far {n : Nat} {os : List Nat} {k : Nat} (h : os.length < n * k + n) : isRun n os k = false := by
  cases e : isRun n os k with
  | false => rfl
  | true => exact absurd (isRun_iff.1 e).1 (by omega)
def spot (n : Nat) (os : List Nat) : Option Nat := (List.range os.length).find? (isRun n os)
theorem spot_inv {n : Nat} {os : List Nat} {k : Nat} (h : spot n os = some k) : isRun n os k = true ∧ ∀ j, j < k → isRun n os j = false := by
  unfold spot at h
  rw [List.find?_range_eq_some] at h
  exact ⟨h.1, fun j hj => by simpa using h.2.2 j hj⟩
theorem spot_at {n : Nat} {os : List Nat} {k : Nat} (hn : 1 ≤ n) (h1 : isRun n os k = true) (h2 : ∀ j, j < k → isRun n os j = false) : spot n os = some k := by
  unfold spot
  rw [List.find?_range_eq_some]
  refine ⟨h1, ?_, fun j hj => by rw [h2 j hj]; rfl⟩
  have := (isRun_iff.1 h1).1
  have := Nat.le_mul_of_pos_left k hn
  rw [List.mem_range]
  omega
theorem spot_no {n : Nat} {os : List Nat} (h : ∀ j, isRun n os j = false) : spot n os = none := by
  unfold spot
  rw [List.find?_eq_none]
  exact fun j _ => by rw [h j]; simp
theorem spot_none {n : Nat} {os : List Nat} (hn : 1 ≤ n) (h : spot n os = none) (j : Nat) : isRun n os j = false := by
  unfold spot at h
  rw [List.find?_eq_none] at h
  by_cases hj : j < os.length
  · simpa using h j (List.mem_range.2 hj)
  · refine isRun_far ?_
    have := Nat.le_mul_of_pos_left j hn
    omega

/-! ### Frames that are set -/
/-- So many places from one on are put. -/
def setR (os : List Nat) (a : Nat) : Nat → Nat → List Nat
  | 0, _ => os
  | m + 1, x => (setR os a m x).set (a + m) x
theorem setR_len (os : List Nat) (a x : Nat) : ∀ m, (setR os a m x).length = os.length
  | 0 => rfl
  | m + 1 => by rw [setR, List.length_set, setR_len os a x m]
theorem setR_get (os : List Nat) (a x : Nat) : ∀ m i, a + m ≤ os.length → (setR os a m x)[i]? = if a ≤ i ∧ i < a + m then some x else os[i]?
  | 0, i, _ => by rw [if_neg (by omega)]; rfl
  | m + 1, i, h => by
    rw [setR]
    by_cases e : a + m = i
    · subst e
      rw [List.getElem?_set_self (by rw [setR_len]; omega), if_pos (by omega)]
    · rw [List.getElem?_set_ne e, setR_get os a x m i (by omega)]
      by_cases h1 : a ≤ i ∧ i < a + m
      · rw [if_pos h1, if_pos (by omega)]
      · rw [if_neg h1, if_neg (by omega)]
theorem setR_few {os : List Nat} (h : ∀ x ∈ os, x ≤ 9) (a x : Nat) (hx : x ≤ 9) : ∀ m, ∀ y ∈ setR os a m x, y ≤ 9
  | 0 => h
  | m + 1 => few_set (setR_few h a x hx m) _ _ hx
/-- What taking answers, and leaves. -/
def takeP (n : Nat) (o : Int) (os : List Nat) : Int × Int × List Nat :=
  if tk o then match spot n os with
    | some k => (((n * k : Nat) : Int), 0, setR os (n * k) n o.toNat)
    | none => (-1, 15, os)
  else (-1, 11, os)
/-- What moving answers, and leaves. -/
def mvP (f a b : Int) (os : List Nat) : Int × List Nat :=
  if f < 0 ∨ (os.length : Int) ≤ f ∨ tk a = false ∨ (b ≠ 0 ∧ tk b = false) then (11, os)
  else if ((os[f.toNat]?.getD 0 : Nat) : Int) ≠ a then (16, os)
  else (0, os.set f.toNat b.toNat)
/-- What Move answers, and leaves. -/
def moveP (f a b : Int) (os : List Nat) : Int × List Nat := if b = 0 then (11, os) else mvP f a b os
theorem tk_nat {o : Int} (h : tk o = true) : ∃ k : Nat, o = k ∧ 1 ≤ k ∧ k ≤ 9 := by
  unfold tk at h
  rw [Bool.and_eq_true, decide_eq_true_iff, decide_eq_true_iff] at h
  exact ⟨o.toNat, by omega, by omega, by omega⟩
theorem takeP_len (n : Nat) (o : Int) (os : List Nat) : (takeP n o os).2.2.length = os.length := by
  unfold takeP
  split
  · split
    · exact setR_len _ _ _ _
    · rfl
  · rfl
theorem mvP_len (f a b : Int) (os : List Nat) : (mvP f a b os).2.length = os.length := by
  unfold mvP
  split
  · rfl
  · split
    · rfl
    · rw [List.length_set]
theorem moveP_len (f a b : Int) (os : List Nat) : (moveP f a b os).2.length = os.length := by
  unfold moveP
  split
  · rfl
  · exact mvP_len f a b os

/-! ### Which frames are an owner's -/
def isOf (o : Int) (os : List Nat) (j : Nat) : Bool := decide (((os[j]?.getD 0 : Nat) : Int) = o)
def wh (o : Int) (os : List Nat) (i : Nat) : List Nat := (List.range i).filter (isOf o os)
def which (o : Int) (os : List Nat) : List Nat := wh o os os.length
theorem wh_yes {o : Int} {os : List Nat} {i x : Nat} (hx : os[i]? = some x) (h : (x : Int) = o) : wh o os (i + 1) = wh o os i ++ [i] := by
  unfold wh
  rw [List.range_succ, List.filter_append]
  congr 1
  simp [isOf, hx, h]
theorem wh_no {o : Int} {os : List Nat} {i x : Nat} (hx : os[i]? = some x) (h : (x : Int) ≠ o) : wh o os (i + 1) = wh o os i := by
  unfold wh
  rw [List.range_succ, List.filter_append]
  have : [i].filter (isOf o os) = [] := by simp [isOf, hx, h]
  rw [this, List.append_nil]
theorem wh_len (o : Int) (os : List Nat) (i : Nat) : (wh o os i).length ≤ i := by
  unfold wh
  exact Nat.le_trans (List.length_filter_le _ _) (by rw [List.length_range]; exact Nat.le_refl _)
theorem mem_which {o : Int} {os : List Nat} {j : Nat} : j ∈ which o os ↔ ∃ x, os[j]? = some x ∧ (x : Int) = o := by
  unfold which wh
  rw [List.mem_filter, List.mem_range]
  constructor
  · rintro ⟨h1, h2⟩
    refine ⟨os[j], List.getElem?_eq_getElem h1, ?_⟩
    unfold isOf at h2
    rw [List.getElem?_eq_getElem h1] at h2
    simpa using h2
  · rintro ⟨x, h1, h2⟩
    refine ⟨(List.getElem?_eq_some_iff.1 h1).1, ?_⟩
    unfold isOf
    rw [h1]
    simpa using h2
theorem wh_count (k : Nat) (os : List Nat) : ∀ i, i ≤ os.length → (wh k os i).length = (os.take i).count k
  | 0, _ => by simp [wh]
  | i + 1, h => by
    have hx : os[i]? = some os[i] := List.getElem?_eq_getElem (by omega)
    rw [List.take_succ_eq_append_getElem (by omega), List.count_append, ← wh_count k os i (by omega)]
    by_cases e : os[i] = k
    · rw [wh_yes hx (by rw [e]), List.length_append]
      simp [e]
    · rw [wh_no hx (by omega), List.count_singleton, if_neg (by simpa using e)]
      rfl
theorem which_count (k : Nat) (os : List Nat) : ((which k os).length : Int) = cn os k := by
  unfold which cn
  rw [wh_count k os _ (Nat.le_refl _), List.take_length]
theorem which_far {o : Int} {os : List Nat} (h : ∀ x ∈ os, x ≤ 9) (ho : o < 0 ∨ 10 ≤ o) : which o os = [] := by
  rw [List.eq_nil_iff_forall_not_mem]
  intro j hj
  obtain ⟨x, h1, h2⟩ := mem_which.1 hj
  have := h x (List.mem_of_getElem? h1)
  omega

/-! ### All of an owner's are given -/
def giveL (os : List Nat) (l : List Nat) : List Nat := l.foldl (fun os j => os.set j 0) os
theorem giveL_next {os l : List Nat} {i j : Nat} (h : l[i]? = some j) : giveL os (l.take (i + 1)) = (giveL os (l.take i)).set j 0 := by
  obtain ⟨hi, hj⟩ := List.getElem?_eq_some_iff.1 h
  unfold giveL
  rw [List.take_succ_eq_append_getElem hi, List.foldl_append, hj]
  rfl
theorem giveL_len : ∀ (l os : List Nat), (giveL os l).length = os.length
  | [], _ => rfl
  | j :: l, os => by
    have := giveL_len l (os.set j 0)
    rw [List.length_set] at this
    exact this
theorem giveL_get : ∀ (l os : List Nat) (i : Nat), i < os.length → (giveL os l)[i]? = if i ∈ l then some 0 else os[i]?
  | [], os, i, _ => by simp [giveL]
  | j :: l, os, i, hi => by
    have h := giveL_get l (os.set j 0) i (by rw [List.length_set]; exact hi)
    show (giveL (os.set j 0) l)[i]? = _
    rw [h]
    by_cases h1 : i ∈ l
    · rw [if_pos h1, if_pos (List.mem_cons_of_mem _ h1)]
    · rw [if_neg h1]
      by_cases h2 : j = i
      · subst h2
        rw [List.getElem?_set_self hi, if_pos (List.mem_cons_self ..)]
      · rw [List.getElem?_set_ne h2, if_neg (by
          intro h3
          rcases List.mem_cons.1 h3 with h4 | h4
          · exact h2 h4.symm
          · exact h1 h4)]
/-- What is left behind. -/
def goneP (o : Int) (os : List Nat) : List Nat := giveL os (which o os)
theorem goneP_len (o : Int) (os : List Nat) : (goneP o os).length = os.length := giveL_len _ _
theorem goneP_get {o : Int} {os : List Nat} {i x : Nat} (h : os[i]? = some x) : (goneP o os)[i]? = some (if (x : Int) = o then 0 else x) := by
  unfold goneP
  rw [giveL_get _ _ _ (List.getElem?_eq_some_iff.1 h).1]
  by_cases e : (x : Int) = o
  · rw [if_pos (mem_which.2 ⟨x, h, e⟩), if_pos e]
  · rw [if_neg, if_neg e]
    · exact h
    · intro hm
      obtain ⟨y, h1, h2⟩ := mem_which.1 hm
      rw [h] at h1
      injection h1 with h1
      subst h1
      exact e h2
theorem goneP_cn (k : Nat) (os : List Nat) (hk : k ≠ 0) : cn (goneP k os) k = 0 := by
  have : (goneP k os).count k = 0 := by
    rw [List.count_eq_zero]
    intro hm
    obtain ⟨i, hi⟩ := List.mem_iff_getElem?.1 hm
    have hl : i < os.length := by
      have := (List.getElem?_eq_some_iff.1 hi).1
      rw [goneP_len] at this
      exact this
    rw [goneP_get (List.getElem?_eq_getElem hl)] at hi
    injection hi with hi
    split at hi
    · exact hk hi.symm
    · omega
  unfold cn
  rw [this]
  rfl
end Fr
end Go.Proofs.YtiiggmfindfkfaaGreat
namespace Go.Proofs.YtiiggmfindfkfaaGreat
open Go.RowKit
namespace Fr
open Ph (Only)

/-- The first frame of the least run, or -1. -/
def spotI (n : Nat) (os : List Nat) : Int := match spot n os with
  | some k => ((n * k : Nat) : Int)
  | none => -1
theorem spotI_at {n : Nat} {os : List Nat} {k : Nat} (hn : 1 ≤ n) (h1 : isRun n os k = true) (h2 : ∀ j, j < k → isRun n os j = false) : spotI n os = ((n * k : Nat) : Int) := by
  unfold spotI
  rw [spot_at hn h1 h2]
theorem spotI_no {n : Nat} {os : List Nat} (h : ∀ j, isRun n os j = false) : spotI n os = -1 := by
  unfold spotI
  rw [spot_no h]
theorem isRun_one {os : List Nat} {k : Nat} : isRun 1 os k = true ↔ os[k]? = some 0 := by
  rw [isRun_iff]
  constructor
  · rintro ⟨_, h⟩
    simpa using h 0 (by omega)
  · intro h
    have := (List.getElem?_eq_some_iff.1 h).1
    refine ⟨by omega, fun i hi => ?_⟩
    obtain rfl : i = 0 := by omega
    simpa using h
theorem index_any (F cap : Nat) (os : List Nat) (w : World) (hR : IRow w F os) (hlen : os.length ≤ 1024) :
    Calls Tryz.prog 74 #[.slice (some ⟨F, 0, none⟩) os.length cap, .int .i64 0] w fun e w' => e = .returned (.int .i64 (spotI 1 os)) ∧ w = w' := by
  have HR := Lib.hid hR
  clear hR
  go_enter Tryz.func74, Tryz.ntmps74
  go_wp2_with fail
  go_loopw [8] (fun c wr => ∃ i : Nat, c = .int .i64 i ∧ i ≤ os.length ∧ (∀ j, j < i → isRun 1 os j = false) ∧ w = wr) (fun c _ => os.length - (intOf c).toNat)
  case atStart => exact ⟨0, rfl, Nat.zero_le _, fun j hj => absurd hj (by omega), rfl⟩
  case round =>
    obtain ⟨i, rfl, hi, hno, rfl⟩ := hrel
    have HNO := Lib.hid hno
    clear hno
    by_cases hil : i < os.length
    · obtain ⟨x, hx⟩ : ∃ x, os[i]? = some x := ⟨os[i], List.getElem?_eq_getElem hil⟩
      have hc := HR.out.cell i x hx
      have HX := Lib.hid hx
      clear hx
      by_cases h0 : x = 0
      · subst h0
        go_wp2_with fail
        go_ret
        refine ⟨?_, rfl⟩
        rw [spotI_at (Nat.le_refl _) (isRun_one.2 HX.out) HNO.out]
        simp
      · have hx0 : ((0 : Int) == (x : Int)) = false := by simp; omega
        go_wp2_with fail
        go_roundw
        case rel =>
          refine ⟨i + 1, rfl, by omega, fun j hj => ?_, trivial⟩
          by_cases e : j = i
          · subst e; exact isRun_no (i := 0) (by omega) (by simpa using HX.out) h0
          · exact HNO.out j (by omega)
        case measure => simp only [intOf, Int.toNat_natCast]; omega
    · obtain rfl : i = os.length := by omega
      go_wp2_with fail
      go_ret
      have e : spotI 1 os = -1 := by
        refine spotI_no fun j => ?_
        by_cases e : j < os.length
        · exact HNO.out j e
        · exact isRun_far (by omega)
      rw [e]
      exact ⟨rfl, rfl⟩
theorem inner_any (t F n : Nat) (o : Int) (os : List Nat) (w : World) (hT : Tab w t F os) (hn : 1 ≤ n) (hn64 : n ≤ 64) :
    Calls Tryz.prog 73 #[.pointer (some ⟨t, 0, none⟩), .int .i64 o, .int .i64 (spotI n os), .int .i64 n] w fun e w' => e = .returned (.tuple #[.int .i64 (takeP n o os).1, .int .i64 (takeP n o os).2.1]) ∧ Tab w' t F (takeP n o os).2.2 ∧ Only [t, F] w w' := by
  have HT := Lib.hid hT
  have hlen := hT.len
  clear hT
  cases htk : tk o with
  | false =>
    have e : takeP n o os = (-1, 11, os) := by unfold takeP; rw [htk]; rfl
    rw [e]
    clear e
    go_enter Tryz.func73, Tryz.ntmps73
    go_wp2_with (go_at_call 102; refine (takes_any o _).mono ?_; rintro e w1 ⟨rfl, rfl⟩; rw [htk])
    go_ret2
    exact ⟨rfl, HT.out, Only.refl _ _⟩
  | true =>
    obtain ⟨q, hq, hq1, hq9⟩ := tk_nat htk
    cases hs : spot n os with
    | none =>
      have e : takeP n o os = (-1, 15, os) := by unfold takeP; rw [htk, hs]; rfl
      have e2 : spotI n os = -1 := by unfold spotI; rw [hs]
      rw [e, e2]
      clear e e2 hq
      go_enter Tryz.func73, Tryz.ntmps73
      go_wp2_with (go_at_call 102; refine (takes_any o _).mono ?_; rintro e w1 ⟨rfl, rfl⟩; rw [htk])
      go_ret2
      exact ⟨rfl, HT.out, Only.refl _ _⟩
    | some k =>
      have e : takeP n o os = (((n * k : Nat) : Int), 0, setR os (n * k) n q) := by unfold takeP; rw [htk, hs, hq]; rfl
      have e2 : spotI n os = ((n * k : Nat) : Int) := by unfold spotI; rw [hs]
      have hr := (isRun_iff.1 (spot_inv hs).1).1
      rw [e, e2]
      clear e e2 hs
      subst hq
      obtain ⟨a, ha⟩ : ∃ a, a = n * k := ⟨_, rfl⟩
      rw [← ha] at hr ⊢
      clear ha
      have ha0 : ¬ (a : Int) < 0 := by omega
      go_enter Tryz.func73, Tryz.ntmps73
      go_wp2_with (go_at_call 102; refine (takes_any (q : Int) _).mono ?_; rintro e w1 ⟨rfl, rfl⟩; rw [htk])
      go_loopw [17] (fun c wr => ∃ i : Nat, c = .int .i64 i ∧ i ≤ n ∧ Tab wr t F (setR os a i q) ∧ Only [t, F] w wr) (fun c _ => n - (intOf c).toNat)
      case atStart => exact ⟨0, rfl, Nat.zero_le _, HT.out, Only.refl _ _⟩
      case round =>
        obtain ⟨i, rfl, hi, hTi, hOi⟩ := hrel
        have HTI := Lib.hid hTi
        have HOI := Lib.hid hOi
        clear hTi hOi
        by_cases hil : i < n
        · have hx : (setR os a i q)[a + i]? = some os[a + i] := by rw [setR_get _ _ _ _ _ (by omega), if_neg (by omega)]; exact List.getElem?_eq_getElem (by omega)
          have HX := Lib.hid hx
          clear hx
          go_wp2_with (go_at_call 76; refine (pass_any t F (a + i) _ q _ _ HTI.out HX.out hq9).mono ?_; rintro e w2 ⟨rfl, hT2, hO2⟩)
          go_roundw
          case rel => exact ⟨i + 1, rfl, by omega, hT2, HOI.out.trans hO2⟩
          case measure => simp only [intOf, Int.toNat_natCast]; omega
        · obtain rfl : i = n := by omega
          go_wp2_with fail
          go_ret2
          exact ⟨rfl, HTI.out, HOI.out⟩
theorem take_any (t F : Nat) (o : Int) (os : List Nat) (w : World) (hT : Tab w t F os) :
    Calls Tryz.prog 32 #[.pointer (some ⟨t, 0, none⟩), .int .i64 o] w fun e w' => e = .returned (.tuple #[.int .i64 (takeP 1 o os).1, .int .i64 (takeP 1 o os).2.1]) ∧ Tab w' t F (takeP 1 o os).2.2 ∧ Only [t, F] w w' := by
  have hh := hT.tb.head
  have HI := Lib.hid (index_any F os.length os w hT.tb.row hT.len)
  have HC := Lib.hid (inner_any t F 1 o os w hT (by omega) (by omega))
  clear hT
  generalize takeP 1 o os = tp at *
  generalize spotI 1 os = sp at *
  go_enter Tryz.func32, Tryz.ntmps32
  go_wp2_with (first | (go_at_call 74; refine HI.out.mono ?_; rintro e w1 ⟨rfl, rfl⟩) | (go_at_call 73; refine HC.out.mono ?_; rintro e w1 ⟨rfl, hT1, hO1⟩))
  go_ret2
  exact ⟨rfl, hT1, hO1⟩
end Fr
end Go.Proofs.YtiiggmfindfkfaaGreat
namespace Go.Proofs.YtiiggmfindfkfaaGreat
open Go.RowKit
namespace Fr
open Ph (Only)

/-- What owns answers. -/
def ownsP (o f : Int) (os : List Nat) : Int := if f < 0 ∨ (os.length : Int) ≤ f ∨ tk o = false then 11 else if ((os[f.toNat]?.getD 0 : Nat) : Int) ≠ o then 16 else 0
theorem owns_any (t F : Nat) (o f : Int) (os : List Nat) (w : World) (hT : Tab w t F os) :
    Calls Tryz.prog 75 #[.pointer (some ⟨t, 0, none⟩), .int .i64 o, .int .i64 f] w fun e w' => e = .returned (.int .i64 (ownsP o f os)) ∧ w = w' := by
  have hh := hT.tb.head
  have HR := Lib.hid hT.tb.row
  clear hT
  by_cases h1 : f < 0
  · have e : ownsP o f os = 11 := by unfold ownsP; rw [if_pos (Or.inl h1)]
    rw [e]
    clear e
    have d1 : decide (f < 0) = true := decide_eq_true h1
    go_enter Tryz.func75, Tryz.ntmps75
    go_wp2_with fail
    go_ret
    exact ⟨rfl, rfl⟩
  by_cases h2 : (os.length : Int) ≤ f
  · have e : ownsP o f os = 11 := by unfold ownsP; rw [if_pos (Or.inr (Or.inl h2))]
    rw [e]
    clear e
    go_enter Tryz.func75, Tryz.ntmps75
    go_wp2_with fail
    go_ret
    exact ⟨rfl, rfl⟩
  obtain ⟨k, rfl⟩ : ∃ k : Nat, f = k := ⟨f.toNat, by omega⟩
  cases htk : tk o with
  | false =>
    have e : ownsP o k os = 11 := by unfold ownsP; rw [if_pos (Or.inr (Or.inr htk))]
    rw [e]
    clear e
    go_enter Tryz.func75, Tryz.ntmps75
    go_wp2_with (go_at_call 102; refine (takes_any o _).mono ?_; rintro e w1 ⟨rfl, rfl⟩; rw [htk])
    go_ret
    exact ⟨rfl, rfl⟩
  | true =>
    have hk : k < os.length := by omega
    obtain ⟨x, hx⟩ : ∃ x, os[k]? = some x := ⟨os[k], List.getElem?_eq_getElem hk⟩
    have hc := HR.out.cell k x hx
    have e : ownsP o k os = if (x : Int) ≠ o then 16 else 0 := by
      unfold ownsP
      rw [if_neg (by rw [htk]; simp; omega), show (k : Int).toNat = k from rfl, hx]
      rfl
    rw [e]
    clear e hx
    by_cases hxo : (x : Int) = o
    · have d : ((x : Int) == o) = true := by simp; exact hxo
      rw [if_neg (by simp; exact hxo)]
      go_enter Tryz.func75, Tryz.ntmps75
      go_wp2_with (go_at_call 102; refine (takes_any o _).mono ?_; rintro e w1 ⟨rfl, rfl⟩; rw [htk])
      go_ret
      exact ⟨rfl, rfl⟩
    · have d : ((x : Int) == o) = false := by simp; exact hxo
      rw [if_pos hxo]
      go_enter Tryz.func75, Tryz.ntmps75
      go_wp2_with (go_at_call 102; refine (takes_any o _).mono ?_; rintro e w1 ⟨rfl, rfl⟩; rw [htk])
      go_ret
      exact ⟨rfl, rfl⟩
/-- What moving answers, by what owns does. -/
theorem mvP_owns (f a b : Int) (os : List Nat) (hb : b = 0 ∨ tk b = true) : mvP f a b os = if ownsP a f os = 0 then (0, os.set f.toNat b.toNat) else (ownsP a f os, os) := by
  have hb' : ¬ (b ≠ 0 ∧ tk b = false) := by
    rintro ⟨h1, h2⟩
    rcases hb with h | h
    · exact h1 h
    · rw [h] at h2; cases h2
  unfold mvP ownsP
  by_cases h : f < 0 ∨ (os.length : Int) ≤ f ∨ tk a = false
  · rw [if_pos (by rcases h with h | h | h <;> simp [h]), if_pos h]
    rfl
  · rw [if_neg (by
      rintro (h1 | h1 | h1 | h1)
      · exact h (Or.inl h1)
      · exact h (Or.inr (Or.inl h1))
      · exact h (Or.inr (Or.inr h1))
      · exact hb' h1), if_neg h]
    split
    · rfl
    · rfl
theorem owns_ok {o f : Int} {os : List Nat} (h : ownsP o f os = 0) : ∃ (k x : Nat), f = k ∧ o = x ∧ os[k]? = some x ∧ 1 ≤ x ∧ x ≤ 9 := by
  unfold ownsP at h
  split at h
  · cases h
  · rename_i h1
    split at h
    · cases h
    · rename_i h2
      have h3 : tk o = true := by
        cases e : tk o with
        | true => rfl
        | false => exact absurd (Or.inr (Or.inr e)) h1
      obtain ⟨q, rfl, hq1, hq9⟩ := tk_nat h3
      have hf0 : ¬ f < 0 := fun x => h1 (Or.inl x)
      have hfl : ¬ (os.length : Int) ≤ f := fun x => h1 (Or.inr (Or.inl x))
      refine ⟨f.toNat, q, by omega, rfl, ?_, hq1, hq9⟩
      have hl : f.toNat < os.length := by omega
      rw [List.getElem?_eq_getElem hl] at h2 ⊢
      simp at h2
      congr 1
      omega
theorem owns_err {o f : Int} {os : List Nat} : ownsP o f os = 0 ∨ ownsP o f os = 11 ∨ ownsP o f os = 16 := by
  unfold ownsP
  split
  · simp
  · split <;> simp
theorem give_any (t F : Nat) (o f : Int) (os : List Nat) (w : World) (hT : Tab w t F os) :
    Calls Tryz.prog 33 #[.pointer (some ⟨t, 0, none⟩), .int .i64 o, .int .i64 f] w fun e w' => e = .returned (.int .i64 (mvP f o 0 os).1) ∧ Tab w' t F (mvP f o 0 os).2 ∧ Only [t, F] w w' := by
  rw [mvP_owns f o 0 os (Or.inl rfl)]
  have HO := Lib.hid (owns_any t F o f os w hT)
  have HT := Lib.hid hT
  clear hT
  by_cases h : ownsP o f os = 0
  · obtain ⟨k, x, rfl, rfl, hx, h1, h9⟩ := owns_ok h
    have HP := Lib.hid (pass_any t F k x 0 os w HT.out hx (by omega))
    rw [if_pos h]
    rw [h] at HO
    clear hx
    go_enter Tryz.func33, Tryz.ntmps33
    go_wp2_with (first | (go_at_call 75; refine HO.out.mono ?_; rintro e w1 ⟨rfl, rfl⟩) | (go_at_call 76; refine HP.out.mono ?_; rintro e w1 ⟨rfl, hT1, hO1⟩))
    go_ret
    exact ⟨rfl, hT1, hO1⟩
  · rw [if_neg h]
    rcases owns_err (o := o) (f := f) (os := os) with h0 | h0 | h0
    · exact absurd h0 h
    · rw [h0] at HO ⊢
      clear h
      go_enter Tryz.func33, Tryz.ntmps33
      go_wp2_with (go_at_call 75; refine HO.out.mono ?_; rintro e w1 ⟨rfl, rfl⟩)
      go_ret
      exact ⟨rfl, HT.out, Only.refl _ _⟩
    · rw [h0] at HO ⊢
      clear h
      go_enter Tryz.func33, Tryz.ntmps33
      go_wp2_with (go_at_call 75; refine HO.out.mono ?_; rintro e w1 ⟨rfl, rfl⟩)
      go_ret
      exact ⟨rfl, HT.out, Only.refl _ _⟩
theorem tk_zero : tk 0 = false := rfl
theorem moveP_tk (f a b : Int) (os : List Nat) : moveP f a b os = if tk b = true then (if ownsP a f os = 0 then (0, os.set f.toNat b.toNat) else (ownsP a f os, os)) else (11, os) := by
  unfold moveP
  by_cases hb : b = 0
  · subst hb
    rw [if_pos rfl, tk_zero, if_neg (by simp)]
  · rw [if_neg hb]
    cases h : tk b with
    | true => rw [mvP_owns f a b os (Or.inr h), if_pos rfl]
    | false =>
      rw [if_neg (by simp)]
      unfold mvP
      rw [if_pos (Or.inr (Or.inr (Or.inr ⟨hb, h⟩)))]
end Fr
end Go.Proofs.YtiiggmfindfkfaaGreat
namespace Go.Proofs.YtiiggmfindfkfaaGreat
open Go.RowKit
namespace Fr
open Ph (Only)

/-- A block's cells, whole. -/
def Lay (w : World) (b : Nat) (t : TypeId) (cs : List Value) : Prop := w.heap[b]? = some (.cells cs.toArray t (0, 0))
theorem Lay.new (w : World) (t : TypeId) (cs : List Value) : Lay (w.alloc (.cells cs.toArray t)) w.heap.size t cs := heap_alloc_new w _
theorem Lay.lt {w : World} {b : Nat} {t : TypeId} {cs : List Value} (h : Lay w b t cs) : b < w.heap.size := (Array.getElem?_eq_some_iff.1 h).1
theorem Lay.kept {w w' : World} {b : Nat} {t : TypeId} {cs : List Value} {S : List Nat} (h : Lay w b t cs) (ho : Only S w w') (hb : b ∉ S) : Lay w' b t cs := (ho.block b h.lt hb).trans h
theorem Lay.cell {w : World} {b : Nat} {t : TypeId} {cs : List Value} (h : Lay w b t cs) (j : Nat) : w.cell? ⟨b, j, none⟩ = cs[j]? := by
  unfold Lay at h
  simp [World.cell?, h]
theorem Lay.free {w : World} {b : Nat} {t : TypeId} {cs : List Value} (h : Lay w b t cs) (j : Nat) : w.frozen? ⟨b, j, none⟩ = false := by
  unfold Lay at h
  simp [World.frozen?, h]
theorem infoInt : (Tryz.prog.info? 3).map (fun i => (i.zero, i.size, i.bytes)) = some (some (.int .i64 0), 1, 8) := by kernel_rfl
theorem info_parts {t : TypeId} {z : Value} {k b : Nat} (h : (Tryz.prog.info? t).map (fun i => (i.zero, i.size, i.bytes)) = some (some z, k, b)) : ∃ i, Tryz.prog.info? t = some i ∧ i.zero = some z ∧ i.size = k ∧ i.bytes = b := by
  obtain ⟨i, hi, hx⟩ := Option.map_eq_some_iff.1 h
  simp only [Prod.mk.injEq] at hx
  exact ⟨i, hi, hx⟩
theorem made_ints (n : Nat) (wx : World) (hn : n ≤ 1024) :
    (Instr.makeSlice 42 (.int .i64 (n : Int)) (.int .i64 (n : Int))).run Tryz.prog wx = .ok (.slice (some ⟨wx.heap.size, 0, none⟩) n n) (wx.alloc (.cells (madeCells #[.int .i64 0] n) 3)) := by
  obtain ⟨i, hi, hz0, hz1, hz2⟩ := info_parts infoInt
  have hr := run_make (P := Tryz.prog) wx 42 3 i _ Tryz.underlying42 hi hz0 .i64 .i64 n n (by omega) (Int.le_refl _) (by rw [hz2]; omega) (by omega)
  simp only [Int.toNat_natCast, hz1, Nat.mul_one] at hr
  exact hr
theorem made_row (n : Nat) (t : TypeId) (w : World) : IRow (w.alloc (.cells (madeCells #[.int .i64 0] n) t)) w.heap.size (List.replicate n 0) := by
  refine ⟨by simp, fun j x hj => ?_, fun j hj => World.frozen?_alloc_new w _ _ _⟩
  rw [List.getElem?_replicate] at hj
  split at hj
  · rename_i h
    injection hj with hj
    subst hj
    rw [World.cell?_alloc_new]
    unfold madeCells
    rw [Array.getElem?_map, Array.getElem?_range, if_pos h]
    simp [Nat.mod_one]
  · cases hj
theorem cn_replicate (n k : Nat) : cn (List.replicate n 0) k = if k = 0 then (n : Int) else 0 := by
  unfold cn
  rw [List.count_replicate]
  by_cases h : k = 0
  · subst h; simp
  · rw [if_neg h, if_neg (by simp; exact fun e => h e.symm)]
    rfl
theorem new_yes (n : Nat) (w : World) (h1 : 1 ≤ n) (h2 : n ≤ 1024) :
    Calls Tryz.prog 30 #[.int .i64 n] w fun e w' => e = .returned (.tuple #[.pointer (some ⟨w.heap.size + 1, 0, none⟩), .int .i64 0]) ∧ Tab w' (w.heap.size + 1) w.heap.size (List.replicate n 0) ∧ Only [] w w' := by
  have hm := fun wx => made_ints n wx h2
  have hr := Lib.hid (made_row n 3 w)
  go_enter Tryz.func30, Tryz.ntmps30
  go_wp2_with fail
  go_ret2
  have hL := Lay.new (w.alloc (.cells (madeCells #[.int .i64 0] n) 3)) 91 [.slice (some ⟨w.heap.size, 0, none⟩) n n, .int .i64 n, .int .i64 0, .int .i64 0, .int .i64 0, .int .i64 0, .int .i64 0, .int .i64 0, .int .i64 0, .int .i64 0, .int .i64 0]
  rw [World.size_alloc] at hL
  have hO := Only.alloc [] (w.alloc (.cells (madeCells #[.int .i64 0] n) 3)) (.cells #[.slice (some ⟨w.heap.size, 0, none⟩) n n, .int .i64 n, .int .i64 0, .int .i64 0, .int .i64 0, .int .i64 0, .int .i64 0, .int .i64 0, .int .i64 0, .int .i64 0, .int .i64 0] 91)
  refine ⟨rfl, ⟨⟨hL.lt, by omega, ?_, fun k hk => ?_, fun k _ => hL.free _, hr.out.kept hO (by simp)⟩, fun x hx => ?_, by simpa using h2⟩, (Only.alloc [] w _).trans hO⟩
  · rw [List.length_replicate]
    exact hL.cell 0
  · rw [cn_replicate]
    have hc := hL.cell (1 + k)
    match k, hk with
    | 0, _ => exact hc
    | 1, _ => exact hc
    | 2, _ => exact hc
    | 3, _ => exact hc
    | 4, _ => exact hc
    | 5, _ => exact hc
    | 6, _ => exact hc
    | 7, _ => exact hc
    | 8, _ => exact hc
    | 9, _ => exact hc
  · rw [List.eq_of_mem_replicate hx]
    omega
theorem new_no (n : Int) (w : World) (h : n < 1 ∨ 1024 < n) :
    Calls Tryz.prog 30 #[.int .i64 n] w fun e w' => e = .returned (.tuple #[.pointer none, .int .i64 11]) ∧ w = w' := by
  by_cases h1 : n < 1
  · clear h
    go_enter Tryz.func30, Tryz.ntmps30
    go_wp2
    go_ret2
    exact ⟨rfl, rfl⟩
  · have h2 : 1024 < n := by omega
    clear h
    go_enter Tryz.func30, Tryz.ntmps30
    go_wp2
    go_ret2
    exact ⟨rfl, rfl⟩
end Fr
end Go.Proofs.YtiiggmfindfkfaaGreat
namespace Go.Proofs.YtiiggmfindfkfaaGreat
open Go.RowKit
namespace Fr
open Ph (Only)

theorem add_eq (b off k : Nat) : ({ block := b, off := off } : Addr).add k = ⟨b, off + k, none⟩ := by simp [Addr.add]
/-- Numbers as cells. -/
def ints (l : List Nat) : List Value := l.map fun (x : Nat) => .int .i64 (x : Int)
theorem ints_snoc (l : List Nat) (x : Nat) : ints (l ++ [x]) = ints l ++ [.int .i64 (x : Int)] := by simp [ints]
/-- A row of numbers that is read; its block is new. -/
def Seen (B : Nat) (w : World) (v : Value) (l : List Nat) : Prop :=
  ∃ a cap, v = .slice a l.length cap ∧ l.length ≤ cap ∧ (0 < l.length → ∃ b, a = some ⟨b, 0, none⟩ ∧ B ≤ b ∧ b < w.heap.size ∧ ∀ (i x : Nat), l[i]? = some x → w.cell? ⟨b, i, none⟩ = some (.int .i64 (x : Int)))
theorem Seen.kept {B : Nat} {w w' : World} {v : Value} {l : List Nat} {S : List Nat} (h : Seen B w v l) (ho : Only S w w') (hs : ∀ x ∈ S, x < B) : Seen B w' v l := by
  obtain ⟨a, cap, rfl, hcap, hr⟩ := h
  refine ⟨a, cap, rfl, hcap, fun hl => ?_⟩
  obtain ⟨b, rfl, hB, hlt, hc⟩ := hr hl
  exact ⟨b, rfl, hB, Nat.lt_of_lt_of_le hlt ho.size, fun i x hx => (ho.cell hlt (fun h => by have := hs b h; omega) _).trans (hc i x hx)⟩
theorem Seen.mono {B B' : Nat} {w : World} {v : Value} {l : List Nat} (h : Seen B w v l) (hb : B' ≤ B) : Seen B' w v l := by
  obtain ⟨a, cap, rfl, hcap, hr⟩ := h
  refine ⟨a, cap, rfl, hcap, fun hl => ?_⟩
  obtain ⟨b, rfl, hB, hlt, hc⟩ := hr hl
  exact ⟨b, rfl, by omega, hlt, hc⟩
theorem row_seen {w : World} {base : Nat} {v : Value} {l : List Nat} (h : w.ownsRow base 3 1 v l.length (ints l)) : Seen base w v l := by
  have hlt := h.lt
  rcases h.2 with ⟨rfl, h0⟩ | ⟨g, cap, cur, rfl, hrest⟩
  · have : l = [] := by
      cases l with
      | nil => rfl
      | cons x r => simp at h0
    subst this
    exact ⟨_, _, rfl, Nat.le_refl _, fun h => by simp at h⟩
  · refine ⟨_, _, rfl, by have := hrest; simp at this; omega, fun _ => ⟨g, rfl, (hlt g rfl).1, (hlt g rfl).2, fun i x hx => ?_⟩⟩
    have := h.cells (g := g) rfl i (.int .i64 (x : Int)) (by unfold ints; rw [List.getElem?_map, hx]; rfl)
    rw [add_eq] at this
    simpa using this
set_option maxRecDepth 100000 in
/-- One number is appended to a row. -/
theorem step_int {ops : Array Oper} {rest : List Oper} {o : Oper} {a : Act} {Q : Exit → Act → World → Prop} (hgd : o.guard = none) (s x : Operand)
    (ho : o.op = .call { callee := .builtin .append, args := #[s, x], argTypes := #[42, 42] }) (B : Nat) (v : Value) (xs : List Nat) (z : Nat) (W : World)
    (hv : W.ownsRow B 3 1 v xs.length (ints xs)) (hB : B ≤ W.heap.size) (hn : xs.length ≤ 1024)
    (hs : a.eval s = v) (hx : a.eval x = .slice (some ⟨W.heap.size, 0, none⟩) 1 1)
    (h : ∀ v' W', W'.ownsRow B 3 1 v' (xs ++ [z]).length (ints (xs ++ [z])) → Below B W W' → wpList Tryz.prog ops Q rest (a.put o.dst v') W') :
    wpList Tryz.prog ops Q (o :: rest) a (W.alloc (.cells #[.int .i64 (z : Int)] 3)) := by
  obtain ⟨i0, hi, hz0, hz1, hz2⟩ := info_parts infoInt
  refine wpList_append_own _ hgd s x 42 ho B 3 i0 (.int .i64 0) 1 8 Tryz.underlying42 hi hz0 hz1 hz2 rfl (by decide) v xs.length (ints xs) hs (hv.alloc _) ⟨W.heap.size, 0, none⟩ 1 1 [.int .i64 (z : Int)] hx rfl
    (World.news_of_block (cs := #[.int .i64 (z : Int)]) (t := 3) (fr := (0, 0)) (heap_alloc_new W _)) (by simp [Value.oneCell']) (by unfold maxLen; omega) (by omega) (by simp; omega) ?_
  intro v' W' hown hgrow _
  refine h v' W' ?_ ?_
  · rw [List.length_append, ints_snoc]; exact hown
  · exact ((Below.refl B W).alloc hB _).grown hgrow (by simp; omega) (fun k hk => (hv.lt k hk).1)
theorem count_any (t F : Nat) (o : Int) (os : List Nat) (w : World) (hT : Tab w t F os) :
    Calls Tryz.prog 27 #[.pointer (some ⟨t, 0, none⟩), .int .i64 o] w fun e w' => e = .returned (.int .i64 ((which o os).length : Nat)) ∧ w = w' := by
  by_cases h : o < 0 ∨ 10 ≤ o
  · rw [which_far hT.few h]
    exact count_no _ o w h
  · obtain ⟨k, rfl⟩ : ∃ k : Nat, o = k := ⟨o.toNat, by omega⟩
    rw [which_count]
    exact count_yes t F k os w hT (by omega)
theorem which_len (o : Int) (os : List Nat) : (which o os).length ≤ os.length := wh_len o os _
set_option maxRecDepth 100000 in
theorem list_any (t F : Nat) (o : Int) (os : List Nat) (w : World) (hT : Tab w t F os) (ht : t < w.heap.size) (hF : F < w.heap.size) :
    Calls Tryz.prog 13 #[.pointer (some ⟨t, 0, none⟩), .int .i64 o] w fun e w' => ∃ v, e = .returned v ∧ Seen w.heap.size w' v (which o os) ∧ Below w.heap.size w w' := by
  have HC := Lib.hid (count_any t F o os w hT)
  have hlen := hT.len
  have hwl := which_len o os
  obtain ⟨c, hc⟩ : ∃ c, c = (which o os).length := ⟨_, rfl⟩
  rw [← hc] at HC hwl
  obtain ⟨i0, hi, hz0, hz1, hz2⟩ := info_parts infoInt
  obtain ⟨w1, hmk, hown0, hg0⟩ := run_make_own (P := Tryz.prog) (w := w) w.heap.size 42 3 i0 (.int .i64 0) 1 Tryz.underlying42 hi hz0 hz1 .i64 .i64 c (by rw [hz2]; omega) (by unfold maxLen; omega) (Nat.le_refl _)
  have hb0 : Below w.heap.size w w1 := (Below.refl _ _).grown hg0 (Nat.le_refl _) (by simp)
  have HT := Lib.hid hT
  have HB0 := Lib.hid hb0
  have HW0 := Lib.hid hown0
  have hh1 := (hT.keptB hb0 ht hF).tb.head
  clear hc hi hz0 hz1 hz2 hT hb0 hown0 hg0
  go_enter Tryz.func13, Tryz.ntmps13
  go_wp2_with (go_at_call 27; refine HC.out.mono ?_; rintro e w2 ⟨rfl, rfl⟩)
  go_loopw [5, 17] (fun v q wr => ∃ i : Nat, q = .int .i64 i ∧ i ≤ os.length ∧ wr.ownsRow w.heap.size 3 1 v (wh o os i).length (ints (wh o os i)) ∧ Below w.heap.size w wr) (fun _ q _ => os.length - (intOf q).toNat)
  case atStart => exact ⟨0, rfl, Nat.zero_le _, HW0.out, HB0.out⟩
  case round =>
    obtain ⟨i, rfl, hi, hW, hB⟩ := hrel
    have HW := Lib.hid hW
    have HB := Lib.hid hB
    clear hW hB
    by_cases hil : i < os.length
    · obtain ⟨x, hx⟩ : ∃ x, os[i]? = some x := ⟨os[i], List.getElem?_eq_getElem hil⟩
      have HX := Lib.hid hx
      have hc := ((HT.out.keptB HB.out ht hF).tb.row).cell i x hx
      clear hx
      by_cases hxo : (x : Int) = o
      · subst hxo
        have hz := HB.out.size
        go_wp2_with (at_builtin; refine step_int rfl (.tmp 25) (.tmp 27) rfl w.heap.size _ (wh x os i) i wr HW.out hz (by have := wh_len x os i; omega) rfl rfl ?_; intro v' w3 hown hb; have OW := Lib.hid hown; have BW := Lib.hid hb; clear hown hb)
        go_roundw
        case rel => exact ⟨i + 1, rfl, by omega, by rw [wh_yes HX.out rfl]; exact OW.out, HB.out.trans BW.out⟩
        case measure => simp only [intOf, Int.toNat_natCast]; omega
      · have d : ((x : Int) == o) = false := by simp; exact hxo
        go_wp2_with fail
        go_roundw
        case rel => exact ⟨i + 1, rfl, by omega, by rw [wh_no HX.out hxo]; exact HW.out, HB.out⟩
        case measure => simp only [intOf, Int.toNat_natCast]; omega
    · obtain rfl : i = os.length := by omega
      go_wp2_with fail
      go_ret
      exact ⟨_, rfl, row_seen HW.out, HB.out⟩
/-- What GiveAll answers, and leaves. -/
def gaL (o : Int) (os : List Nat) : List Nat := if tk o then which o os else []
def gaO (o : Int) (os : List Nat) : List Nat := if tk o then goneP o os else os
theorem gaO_len (o : Int) (os : List Nat) : (gaO o os).length = os.length := by
  unfold gaO
  split
  · exact goneP_len o os
  · rfl
theorem Seen.at {B : Nat} {w : World} {v : Value} {l : List Nat} (h : Seen B w v l) {i x : Nat} (hx : l[i]? = some x) : ∃ b cap, v = .slice (some ⟨b, 0, none⟩) l.length cap ∧ b < w.heap.size ∧ w.cell? ⟨b, i, none⟩ = some (.int .i64 (x : Int)) := by
  obtain ⟨a, cap, rfl, _, hr⟩ := h
  have hl := (List.getElem?_eq_some_iff.1 hx).1
  obtain ⟨b, rfl, _, hlt, hc⟩ := hr (by omega)
  exact ⟨b, cap, rfl, hlt, hc i x hx⟩
theorem Seen.form {B : Nat} {w : World} {v : Value} {l : List Nat} (h : Seen B w v l) : ∃ a cap, v = .slice a l.length cap := by
  obtain ⟨a, cap, rfl, _⟩ := h
  exact ⟨a, cap, rfl⟩
theorem Seen.none (B : Nat) (w : World) : Seen B w (.slice none 0 0) [] := ⟨_, _, rfl, Nat.le_refl _, fun h => absurd h (by simp)⟩
theorem eq_upto {l m : List Nat} (hl : l.length = m.length) (h : ∀ i, i < l.length → l[i]? = m[i]?) : l = m := by
  refine List.ext_getElem? fun i => ?_
  by_cases hi : i < l.length
  · exact h i hi
  · rw [List.getElem?_eq_none (by omega), List.getElem?_eq_none (by omega)]
end Fr
end Go.Proofs.YtiiggmfindfkfaaGreat
namespace Go.Proofs.YtiiggmfindfkfaaGreat
namespace Fr
theorem takeP_err {n : Nat} {o : Int} {os : List Nat} (h : (takeP n o os).2.1 ≠ 0) : (takeP n o os).2.2 = os := by
  unfold takeP at h ⊢
  split
  · rename_i h1
    rw [if_pos h1] at h
    split
    · rename_i h2
      rw [h2] at h
      exact absurd rfl h
    · rfl
  · rfl
theorem mvP_err {f a b : Int} {os : List Nat} (h : (mvP f a b os).1 ≠ 0) : (mvP f a b os).2 = os := by
  unfold mvP at h ⊢
  split
  · rfl
  · rename_i h1
    rw [if_neg h1] at h
    split
    · rfl
    · rename_i h2
      rw [if_neg h2] at h
      exact absurd rfl h
theorem moveP_err {f a b : Int} {os : List Nat} (h : (moveP f a b os).1 ≠ 0) : (moveP f a b os).2 = os := by
  unfold moveP at h ⊢
  split
  · rfl
  · rename_i h1
    rw [if_neg h1] at h
    exact mvP_err h
/-- The sum of the first owners' counts. -/
def sumC (os : List Nat) : Nat → Int
  | 0 => 0
  | k + 1 => sumC os k + cn os k
theorem cn_cons (x : Nat) (os : List Nat) (k : Nat) : cn (x :: os) k = cn os k + if x = k then 1 else 0 := by
  unfold cn
  rw [List.count_cons]
  by_cases h : x = k
  · rw [if_pos h, if_pos (by simpa using h)]; omega
  · rw [if_neg h, if_neg (by simpa using h)]; omega
theorem sumC_cons (x : Nat) (os : List Nat) : ∀ k, sumC (x :: os) k = sumC os k + if x < k then 1 else 0
  | 0 => by simp [sumC]
  | k + 1 => by
    rw [sumC, sumC, sumC_cons x os k, cn_cons]
    by_cases h : x = k
    · subst h
      rw [if_neg (by omega), if_pos rfl, if_pos (by omega)]; omega
    · rw [if_neg h]
      by_cases h2 : x < k
      · rw [if_pos h2, if_pos (by omega)]; omega
      · rw [if_neg h2, if_neg (by omega)]; omega
theorem sumC_nil : ∀ k, sumC [] k = 0
  | 0 => rfl
  | k + 1 => by rw [sumC, sumC_nil k]; rfl
theorem sumC_all : ∀ (os : List Nat), (∀ x ∈ os, x ≤ 9) → sumC os 10 = os.length
  | [], _ => by rw [sumC_nil]; rfl
  | x :: os, h => by
    rw [sumC_cons, sumC_all os (fun y hy => h y (List.mem_cons_of_mem _ hy)), if_pos (by have := h x (List.mem_cons_self ..); omega), List.length_cons]
    omega
theorem sumC_le (os : List Nat) : ∀ k, k ≤ 10 → os.length ≤ 1024 → 0 ≤ sumC os k ∧ sumC os k ≤ 1024 * k
  | 0, _, _ => by simp [sumC]
  | k + 1, h, hl => by
    have h1 := sumC_le os k (by omega) hl
    have h2 := cn_le os k
    rw [sumC]
    omega

/-! ### Frames taken one after the other -/
/-- The first i of N frames are q's. -/
def prt (N i q : Nat) : List Nat := setR (List.replicate N 0) 0 i q
theorem prt_len (N i q : Nat) : (prt N i q).length = N := by unfold prt; rw [setR_len, List.length_replicate]
theorem prt_get {N i q k : Nat} (hi : i ≤ N) (hk : k < N) : (prt N i q)[k]? = some (if k < i then q else 0) := by
  unfold prt
  rw [setR_get _ _ _ _ _ (by rw [List.length_replicate]; omega)]
  by_cases h : k < i
  · rw [if_pos (by omega), if_pos h]
  · rw [if_neg (by omega), if_neg h, List.getElem?_replicate, if_pos hk]
theorem prt_next (N i q : Nat) : prt N (i + 1) q = (prt N i q).set i q := by
  unfold prt
  rw [setR, Nat.zero_add]
theorem tk_in {q : Nat} (h1 : 1 ≤ q) (h9 : q ≤ 9) : tk q = true := by
  unfold tk
  rw [Bool.and_eq_true, decide_eq_true_iff, decide_eq_true_iff]
  omega
theorem prt_take {N i q : Nat} (hi : i < N) (h1 : 1 ≤ q) (h9 : q ≤ 9) : takeP 1 q (prt N i q) = ((i : Int), 0, prt N (i + 1) q) := by
  have hs : spot 1 (prt N i q) = some i := by
    refine spot_at (Nat.le_refl _) (isRun_one.2 ?_) fun j hj => isRun_no (i := 0) (x := q) (by omega) ?_ (by omega)
    · rw [prt_get (by omega) hi, if_neg (by omega)]
    · rw [Nat.one_mul, Nat.add_zero, prt_get (by omega) (by omega), if_pos hj]
  unfold takeP
  rw [tk_in h1 h9, hs, if_pos rfl]
  simp only [Nat.one_mul, prt_next, Int.toNat_natCast]
  rfl
theorem prt_full {N q : Nat} (h1 : 1 ≤ q) (h9 : q ≤ 9) : takeP 1 q (prt N N q) = (-1, 15, prt N N q) := by
  have hs : spot 1 (prt N N q) = none := by
    refine spot_no fun j => ?_
    by_cases hj : j < N
    · exact isRun_no (i := 0) (x := q) (by omega) (by rw [Nat.one_mul, Nat.add_zero, prt_get (Nat.le_refl _) hj, if_pos hj]) (by omega)
    · exact isRun_far (by rw [prt_len]; omega)
  unfold takeP
  rw [tk_in h1 h9, hs, if_pos rfl]
theorem prt_cn {N q : Nat} (h1 : 1 ≤ q) : ∀ i, i ≤ N → cn (prt N i q) q = i
  | 0, _ => by
    show cn (List.replicate N 0) q = _
    rw [show cn (List.replicate N 0) q = ((List.replicate N 0).count q : Nat) from rfl, List.count_replicate, if_neg (by simp; omega)]
  | i + 1, h => by
    have hg : (prt N i q)[i]? = some 0 := by rw [prt_get (by omega) (by omega), if_neg (by omega)]
    rw [prt_next, cn_set hg, prt_cn h1 i (by omega), if_neg (by omega), if_pos rfl]
    omega
theorem prt_gone {N q : Nat} (_ : 1 ≤ q) : goneP q (prt N N q) = List.replicate N 0 := by
  refine List.ext_getElem? fun k => ?_
  by_cases hk : k < N
  · rw [goneP_get (prt_get (Nat.le_refl _) hk), if_pos hk, if_pos rfl, List.getElem?_replicate, if_pos hk]
  · rw [List.getElem?_eq_none (by rw [goneP_len, prt_len]; omega), List.getElem?_eq_none (by rw [List.length_replicate]; omega)]
theorem none_run {N q : Nat} (h1 : 1 ≤ q) (h9 : q ≤ 9) (hN : N < 64) : takeP 64 q (List.replicate N 0) = (-1, 15, List.replicate N 0) := by
  have hs : spot 64 (List.replicate N 0) = none := spot_no fun j => isRun_far (by rw [List.length_replicate]; omega)
  unfold takeP
  rw [tk_in h1 h9, hs, if_pos rfl]
theorem first_run {N q : Nat} (h1 : 1 ≤ q) (h9 : q ≤ 9) (hN : 64 ≤ N) : takeP 64 q (List.replicate N 0) = (0, 0, prt N 64 q) := by
  have hs : spot 64 (List.replicate N 0) = some 0 := by
    refine spot_at (by omega) (isRun_iff.2 ⟨by rw [List.length_replicate]; omega, fun i hi => ?_⟩) fun j hj => by omega
    rw [List.getElem?_replicate, if_pos (by omega)]
  unfold takeP
  rw [tk_in h1 h9, hs, if_pos rfl]
  rfl
/-! ### The first frame that is nobody's -/
theorem isRun_isOf {os : List Nat} {k : Nat} (hk : k < os.length) : isRun 1 os k = isOf 0 os k := by
  rw [Bool.eq_iff_iff, isRun_one]
  unfold isOf
  rw [List.getElem?_eq_getElem hk]
  simp
theorem find_same (os : List Nat) : ∀ l : List Nat, (∀ k ∈ l, k < os.length) → l.find? (isRun 1 os) = l.find? (isOf 0 os)
  | [], _ => rfl
  | k :: l, h => by
    rw [List.find?_cons, List.find?_cons, isRun_isOf (h k (List.mem_cons_self ..)), find_same os l (fun j hj => h j (List.mem_cons_of_mem _ hj))]
theorem spot_which (os : List Nat) : spot 1 os = (which 0 os).head? := by
  unfold spot which wh
  rw [List.head?_filter]
  exact find_same os _ fun k hk => List.mem_range.1 hk
end Fr
end Go.Proofs.YtiiggmfindfkfaaGreat
