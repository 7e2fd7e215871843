/-
  The document's own space in memory: its pages, its first indexes, how many frames are left; and what its table does. Conditions: that it lies there.
-/
import Derived.Test.YtiiggmfindfkfaaGreatStAbs
namespace Go.Proofs.YtiiggmfindfkfaaGreat
open Go.RowKit Nt
namespace St
open Ph En Wk
/-- A page, as the document tells it: its frame, is it there, may it be written, executed. -/
abbrev PgT := Int × Bool × Bool × Bool
/-- What a space of the document's holds. -/
structure Rst where
  fr : Int
  f : Nat → Int
  q : Nat → PgT
def upd {α : Type} (f : Nat → α) (i : Nat) (v : α) (j : Nat) : α := if j = i then v else f j
theorem upd_at {α : Type} (f : Nat → α) (i : Nat) (v : α) : upd f i v i = v := by unfold upd; rw [if_pos rfl]
theorem upd_ne {α : Type} (f : Nat → α) {i j : Nat} (v : α) (h : j ≠ i) : upd f i v j = f j := by unfold upd; rw [if_neg h]
/-- It lies there. -/
structure Rs (w : World) (r P G n : Nat) (s : Rst) : Prop where
  lt : r < w.heap.size
  ltP : P < w.heap.size
  ltG : G < w.heap.size
  rP : r ≠ P
  rG : r ≠ G
  PG : P ≠ G
  few : n ≤ 1024
  c0 : w.cell? ⟨r, 0, none⟩ = some (.slice (some ⟨P, 0, none⟩) 4096 4096)
  c1 : w.cell? ⟨r, 1, none⟩ = some (.slice (some ⟨G, 0, none⟩) 64 64)
  c2 : w.cell? ⟨r, 2, none⟩ = some (.int .i64 (n : Int))
  c3 : w.cell? ⟨r, 3, none⟩ = some (.int .i64 s.fr)
  f3 : w.frozen? ⟨r, 3, none⟩ = false
  q0 : ∀ p, p < 4096 → w.cell? ⟨P, p * 4, none⟩ = some (.int .i64 (s.q p).1)
  q1 : ∀ p, p < 4096 → w.cell? ⟨P, p * 4 + 1, none⟩ = some (.bool (s.q p).2.1)
  q2 : ∀ p, p < 4096 → w.cell? ⟨P, p * 4 + 2, none⟩ = some (.bool (s.q p).2.2.1)
  q3 : ∀ p, p < 4096 → w.cell? ⟨P, p * 4 + 3, none⟩ = some (.bool (s.q p).2.2.2)
  fq : ∀ j, j < 16384 → w.frozen? ⟨P, j, none⟩ = false
  g0 : ∀ i, i < 64 → w.cell? ⟨G, i, none⟩ = some (.int .i64 (s.f i))
  fg : ∀ i, i < 64 → w.frozen? ⟨G, i, none⟩ = false
section
variable {w w' : World} {r P G n : Nat} {s s' : Rst}
theorem Rs.kept {S : List Nat} (h : Rs w r P G n s) (ho : Only S w w') (hr : r ∉ S) (hP : P ∉ S) (hG : G ∉ S) : Rs w' r P G n s :=
  { h with
    lt := Nat.lt_of_lt_of_le h.lt ho.size, ltP := Nat.lt_of_lt_of_le h.ltP ho.size, ltG := Nat.lt_of_lt_of_le h.ltG ho.size
    c0 := (ho.cell h.lt hr 0).trans h.c0, c1 := (ho.cell h.lt hr 1).trans h.c1, c2 := (ho.cell h.lt hr 2).trans h.c2, c3 := (ho.cell h.lt hr 3).trans h.c3, f3 := (ho.frozen h.lt hr 3).trans h.f3
    q0 := fun p hp => (ho.cell h.ltP hP _).trans (h.q0 p hp), q1 := fun p hp => (ho.cell h.ltP hP _).trans (h.q1 p hp), q2 := fun p hp => (ho.cell h.ltP hP _).trans (h.q2 p hp), q3 := fun p hp => (ho.cell h.ltP hP _).trans (h.q3 p hp)
    fq := fun j hj => (ho.frozen h.ltP hP j).trans (h.fq j hj)
    g0 := fun i hi => (ho.cell h.ltG hG i).trans (h.g0 i hi), fg := fun i hi => (ho.frozen h.ltG hG i).trans (h.fg i hi) }
theorem Rs.below (h : Rs w r P G n s) (hb : Below w.heap.size w w') : Rs w' r P G n s := h.kept (Only.of hb []) (by simp) (by simp) (by simp)
theorem Rs.congr (h : Rs w r P G n s) (e0 : s.fr = s'.fr) (e1 : ∀ i, i < 64 → s.f i = s'.f i) (e2 : ∀ p, p < 4096 → s.q p = s'.q p) : Rs w r P G n s' :=
  { h with c3 := by rw [← e0]; exact h.c3, q0 := fun p hp => by rw [← e2 p hp]; exact h.q0 p hp, q1 := fun p hp => by rw [← e2 p hp]; exact h.q1 p hp, q2 := fun p hp => by rw [← e2 p hp]; exact h.q2 p hp, q3 := fun p hp => by rw [← e2 p hp]; exact h.q3 p hp, g0 := fun i hi => by rw [← e1 i hi]; exact h.g0 i hi }
theorem frz_set (w : World) (a : Addr) (v : Value) (b : Addr) : (w.setCell a v).frozen? b = w.frozen? b := World.frozen?_setCell _ _ _ _
/-- How many are left is put. -/
theorem Rs.setFr (h : Rs w r P G n s) (v : Int) : Rs (w.setCell ⟨r, 3, none⟩ (.int .i64 v)) r P G n { s with fr := v } := by
  have ho : Only [r] w (w.setCell ⟨r, 3, none⟩ (.int .i64 v)) := Only.setCell w (by simp) 3 _
  have hP : P ∉ [r] := by simpa using fun e : P = r => h.rP e.symm
  have hG : G ∉ [r] := by simpa using fun e : G = r => h.rG e.symm
  have oth : ∀ j, j ≠ 3 → (w.setCell ⟨r, 3, none⟩ (.int .i64 v)).cell? ⟨r, j, none⟩ = w.cell? ⟨r, j, none⟩ := fun j hj => World.cell?_setCell_other _ _ _ _ (fun e => hj (by injection e with _ e; exact e.symm))
  exact
  { h with
    lt := Nat.lt_of_lt_of_le h.lt ho.size, ltP := Nat.lt_of_lt_of_le h.ltP ho.size, ltG := Nat.lt_of_lt_of_le h.ltG ho.size
    c0 := (oth 0 (by decide)).trans h.c0, c1 := (oth 1 (by decide)).trans h.c1, c2 := (oth 2 (by decide)).trans h.c2
    c3 := World.cell?_setCell_same' _ _ _ (by rw [h.c3]; rfl), f3 := by rw [frz_set]; exact h.f3
    q0 := fun p hp => (ho.cell h.ltP hP _).trans (h.q0 p hp), q1 := fun p hp => (ho.cell h.ltP hP _).trans (h.q1 p hp), q2 := fun p hp => (ho.cell h.ltP hP _).trans (h.q2 p hp), q3 := fun p hp => (ho.cell h.ltP hP _).trans (h.q3 p hp)
    fq := fun j hj => (ho.frozen h.ltP hP j).trans (h.fq j hj)
    g0 := fun i hi => (ho.cell h.ltG hG i).trans (h.g0 i hi), fg := fun i hi => (ho.frozen h.ltG hG i).trans (h.fg i hi) }
/-- A first index is put. -/
theorem Rs.setF (h : Rs w r P G n s) {i : Nat} (hi : i < 64) (v : Int) : Rs (w.setCell ⟨G, i, none⟩ (.int .i64 v)) r P G n { s with f := upd s.f i v } := by
  have ho : Only [G] w (w.setCell ⟨G, i, none⟩ (.int .i64 v)) := Only.setCell w (by simp) i _
  have hP : P ∉ [G] := by simpa using h.PG
  have hr : r ∉ [G] := by simpa using h.rG
  exact
  { h with
    lt := Nat.lt_of_lt_of_le h.lt ho.size, ltP := Nat.lt_of_lt_of_le h.ltP ho.size, ltG := Nat.lt_of_lt_of_le h.ltG ho.size
    c0 := (ho.cell h.lt hr 0).trans h.c0, c1 := (ho.cell h.lt hr 1).trans h.c1, c2 := (ho.cell h.lt hr 2).trans h.c2, c3 := (ho.cell h.lt hr 3).trans h.c3, f3 := (ho.frozen h.lt hr 3).trans h.f3
    q0 := fun p hp => (ho.cell h.ltP hP _).trans (h.q0 p hp), q1 := fun p hp => (ho.cell h.ltP hP _).trans (h.q1 p hp), q2 := fun p hp => (ho.cell h.ltP hP _).trans (h.q2 p hp), q3 := fun p hp => (ho.cell h.ltP hP _).trans (h.q3 p hp)
    fq := fun j hj => (ho.frozen h.ltP hP j).trans (h.fq j hj)
    g0 := fun j hj => by
      show _ = some (Value.int .i64 (upd s.f i v j))
      by_cases e : j = i
      · subst e
        rw [upd_at, World.cell?_setCell_same' _ _ _ (by rw [h.g0 j hj]; rfl)]
      · rw [upd_ne _ _ e, World.cell?_setCell_other _ _ _ _ (fun x => e (by injection x with _ x; exact x.symm))]
        exact h.g0 j hj
    fg := fun j hj => by rw [frz_set]; exact h.fg j hj }
/-- A page is put. -/
def set4q (w : World) (P p : Nat) (t : PgT) : World := (((w.setCell ⟨P, p * 4, none⟩ (.int .i64 t.1)).setCell ⟨P, p * 4 + 1, none⟩ (.bool t.2.1)).setCell ⟨P, p * 4 + 2, none⟩ (.bool t.2.2.1)).setCell ⟨P, p * 4 + 3, none⟩ (.bool t.2.2.2)
theorem only_set4q (w : World) (P p : Nat) (t : PgT) : Only [P] w (set4q w P p t) :=
  (((Only.setCell w (by simp) _ _).trans (Only.setCell _ (by simp) _ _)).trans (Only.setCell _ (by simp) _ _)).trans (Only.setCell _ (by simp) _ _)
theorem cell_set (w : World) (b i j : Nat) (v : Value) (h : (w.cell? ⟨b, i, none⟩).isSome = true) : (w.setCell ⟨b, i, none⟩ v).cell? ⟨b, j, none⟩ = if j = i then some v else w.cell? ⟨b, j, none⟩ := by
  by_cases e : j = i
  · subst e
    rw [if_pos rfl, World.cell?_setCell_same' _ _ _ h]
  · rw [if_neg e, World.cell?_setCell_other _ _ _ _ (fun x => e (by injection x with _ x; exact x.symm))]
theorem set4q_cell {w : World} {P p : Nat} (t : PgT) (h : ∀ k, k < 4 → (w.cell? ⟨P, p * 4 + k, none⟩).isSome = true) (j : Nat) :
    (set4q w P p t).cell? ⟨P, j, none⟩ = if j = p * 4 + 3 then some (.bool t.2.2.2) else if j = p * 4 + 2 then some (.bool t.2.2.1) else if j = p * 4 + 1 then some (.bool t.2.1) else if j = p * 4 then some (.int .i64 t.1) else w.cell? ⟨P, j, none⟩ := by
  have h0 := h 0 (by omega)
  have h1 := h 1 (by omega)
  have h2 := h 2 (by omega)
  have h3 := h 3 (by omega)
  have c1 : ∀ j, (w.setCell ⟨P, p * 4, none⟩ (.int .i64 t.1)).cell? ⟨P, j, none⟩ = if j = p * 4 then some (.int .i64 t.1) else w.cell? ⟨P, j, none⟩ := fun j => cell_set w P (p * 4) j _ h0
  have c2 : ∀ j, ((w.setCell ⟨P, p * 4, none⟩ (.int .i64 t.1)).setCell ⟨P, p * 4 + 1, none⟩ (.bool t.2.1)).cell? ⟨P, j, none⟩ = if j = p * 4 + 1 then some (.bool t.2.1) else if j = p * 4 then some (.int .i64 t.1) else w.cell? ⟨P, j, none⟩ := fun j => by
    rw [cell_set _ P (p * 4 + 1) j _ (by rw [c1, if_neg (by omega)]; exact h1), c1]
  have c3 : ∀ j, (((w.setCell ⟨P, p * 4, none⟩ (.int .i64 t.1)).setCell ⟨P, p * 4 + 1, none⟩ (.bool t.2.1)).setCell ⟨P, p * 4 + 2, none⟩ (.bool t.2.2.1)).cell? ⟨P, j, none⟩ = if j = p * 4 + 2 then some (.bool t.2.2.1) else if j = p * 4 + 1 then some (.bool t.2.1) else if j = p * 4 then some (.int .i64 t.1) else w.cell? ⟨P, j, none⟩ := fun j => by
    rw [cell_set _ P (p * 4 + 2) j _ (by rw [c2, if_neg (by omega), if_neg (by omega)]; exact h2), c2]
  unfold set4q
  rw [cell_set _ P (p * 4 + 3) j _ (by rw [c3, if_neg (by omega), if_neg (by omega), if_neg (by omega)]; exact h3), c3]
theorem set4q_frz (w : World) (P p : Nat) (t : PgT) (a : Addr) : (set4q w P p t).frozen? a = w.frozen? a := by unfold set4q; rw [frz_set, frz_set, frz_set, frz_set]
theorem Rs.setQ (h : Rs w r P G n s) {p : Nat} (hp : p < 4096) (t : PgT) : Rs (set4q w P p t) r P G n { s with q := upd s.q p t } := by
  have ho := only_set4q w P p t
  have hr : r ∉ [P] := by simpa using h.rP
  have hG : G ∉ [P] := by simpa using fun e : G = P => h.PG e.symm
  have hk : ∀ k, k < 4 → (w.cell? ⟨P, p * 4 + k, none⟩).isSome = true := fun k hk => by
    have : k = 0 ∨ k = 1 ∨ k = 2 ∨ k = 3 := by omega
    rcases this with rfl | rfl | rfl | rfl
    · rw [Nat.add_zero, h.q0 p hp]; rfl
    · rw [h.q1 p hp]; rfl
    · rw [h.q2 p hp]; rfl
    · rw [h.q3 p hp]; rfl
  have hc := set4q_cell t hk
  refine { h with
    lt := Nat.lt_of_lt_of_le h.lt ho.size, ltP := Nat.lt_of_lt_of_le h.ltP ho.size, ltG := Nat.lt_of_lt_of_le h.ltG ho.size
    c0 := (ho.cell h.lt hr 0).trans h.c0, c1 := (ho.cell h.lt hr 1).trans h.c1, c2 := (ho.cell h.lt hr 2).trans h.c2, c3 := (ho.cell h.lt hr 3).trans h.c3, f3 := (ho.frozen h.lt hr 3).trans h.f3
    q0 := fun j hj => ?_, q1 := fun j hj => ?_, q2 := fun j hj => ?_, q3 := fun j hj => ?_
    fq := fun j hj => by rw [set4q_frz]; exact h.fq j hj
    g0 := fun i hi => (ho.cell h.ltG hG i).trans (h.g0 i hi), fg := fun i hi => (ho.frozen h.ltG hG i).trans (h.fg i hi) }
  · rw [hc]
    show _ = some (Value.int .i64 (upd s.q p t j).1)
    by_cases e : j = p
    · subst e
      rw [upd_at, if_neg (by omega), if_neg (by omega), if_neg (by omega), if_pos rfl]
    · rw [upd_ne _ _ e, if_neg (by omega), if_neg (by omega), if_neg (by omega), if_neg (by omega)]
      exact h.q0 j hj
  · rw [hc]
    show _ = some (Value.bool (upd s.q p t j).2.1)
    by_cases e : j = p
    · subst e
      rw [upd_at, if_neg (by omega), if_neg (by omega), if_pos rfl]
    · rw [upd_ne _ _ e, if_neg (by omega), if_neg (by omega), if_neg (by omega), if_neg (by omega)]
      exact h.q1 j hj
  · rw [hc]
    show _ = some (Value.bool (upd s.q p t j).2.2.1)
    by_cases e : j = p
    · subst e
      rw [upd_at, if_neg (by omega), if_pos rfl]
    · rw [upd_ne _ _ e, if_neg (by omega), if_neg (by omega), if_neg (by omega), if_neg (by omega)]
      exact h.q2 j hj
  · rw [hc]
    show _ = some (Value.bool (upd s.q p t j).2.2.2)
    by_cases e : j = p
    · subst e
      rw [upd_at, if_pos rfl]
    · rw [upd_ne _ _ e, if_neg (by omega), if_neg (by omega), if_neg (by omega), if_neg (by omega)]
      exact h.q3 j hj
end
/-- What is between nought and a bound. -/
theorem rspan_any (p m : Int) (w : World) : Calls Tryz.prog 80 #[.int .i64 p, .int .i64 m] w fun e w' => e = .returned (.bool (decide (0 ≤ p) && decide (p < m))) ∧ w = w' := by
  by_cases h : 0 ≤ p
  · have d1 : decide (0 ≤ p) = true := decide_eq_true h
    rw [d1, Bool.true_and]
    go_enter Tryz.func80, Tryz.ntmps80
    go_wp2
    go_ret
    exact ⟨rfl, rfl⟩
  · have d1 : decide (0 ≤ p) = false := decide_eq_false h
    rw [d1, Bool.false_and]
    go_enter Tryz.func80, Tryz.ntmps80
    go_wp2
    go_ret
    exact ⟨rfl, rfl⟩
/-- A first index has a table, or is given one. -/
def tabR (s : Rst) (i : Nat) : Option Rst := if s.f i = 2 then some s else if s.fr ≤ 0 then none else some ⟨s.fr - 1, upd s.f i 2, s.q⟩
set_option maxRecDepth 100000 in
theorem rtable_no (r P G n i : Nat) (s : Rst) (w : World) (hS : Rs w r P G n s) (hi : i < 64) (h : tabR s i = none) :
    Calls Tryz.prog 81 #[.pointer (some ⟨r, 0, none⟩), .int .i64 (i : Int)] w fun e w' => e = .returned (.bool false) ∧ w = w' := by
  unfold tabR at h
  by_cases h1 : s.f i = 2
  · rw [if_pos h1] at h; cases h
  · rw [if_neg h1] at h
    by_cases h2 : s.fr ≤ 0
    · have c0 := hS.c1
      have c1 := hS.c3
      have c2 := hS.g0 i hi
      have d1 : (s.f i == 2) = false := by simpa using h1
      have d2 : decide (s.fr ≤ 0) = true := decide_eq_true h2
      clear h h1 hS
      go_enter Tryz.func81, Tryz.ntmps81
      go_wp2
      go_ret
      exact ⟨rfl, rfl⟩
    · rw [if_neg h2] at h; cases h
set_option maxRecDepth 100000 in
theorem rtable_yes (r P G n i : Nat) (s t : Rst) (w : World) (hS : Rs w r P G n s) (hi : i < 64) (h : tabR s i = some t) (hb : s.fr ≤ 5000) :
    Calls Tryz.prog 81 #[.pointer (some ⟨r, 0, none⟩), .int .i64 (i : Int)] w fun e w' => e = .returned (.bool true) ∧ Rs w' r P G n t ∧ Only [r, P, G] w w' := by
  unfold tabR at h
  by_cases h1 : s.f i = 2
  · rw [if_pos h1] at h
    injection h with h
    subst h
    have c0 := hS.c1
    have c2 := hS.g0 i hi
    rw [h1] at c2
    have HS := Lib.hid hS
    clear h1 hS hb
    go_enter Tryz.func81, Tryz.ntmps81
    go_wp2
    go_ret
    exact ⟨rfl, HS.out, Only.refl _ _⟩
  · rw [if_neg h1] at h
    by_cases h2 : s.fr ≤ 0
    · rw [if_pos h2] at h; cases h
    · rw [if_neg h2] at h
      injection h with h
      subst h
      have c0 := hS.c1
      have c1 := hS.c3
      have c2 := hS.g0 i hi
      have c4 := hS.f3
      have d1 : (s.f i == 2) = false := by simpa using h1
      have H1 := Lib.hid (hS.setFr (s.fr - 1))
      have H2 := Lib.hid (H1.out.setF hi 2)
      have O1 := Lib.hid (show Only [r, P, G] w (w.setCell ⟨r, 3, none⟩ (.int .i64 (s.fr - 1))) from Only.setCell w (by simp) 3 _)
      have O2 := Lib.hid (show Only [r, P, G] w ((w.setCell ⟨r, 3, none⟩ (.int .i64 (s.fr - 1))).setCell ⟨G, i, none⟩ (.int .i64 2)) from O1.out.trans (Only.setCell _ (by simp) i _))
      have e0 := H1.out.c1
      have e1 := H1.out.g0 i hi
      have e2 := H1.out.fg i hi
      clear h1 hS O1
      go_enter Tryz.func81, Tryz.ntmps81
      go_wp2
      go_ret
      exact ⟨rfl, H2.out, O2.out⟩
end St
end Go.Proofs.YtiiggmfindfkfaaGreat
