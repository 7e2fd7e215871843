/-
  Plain: what an advance leaves of a wheel's timers while it goes through the slots, and while it puts back what is later. Conditions: times of 63 bits.
-/
import Derived.Test.YtddiapihopgpbaaWhTieNext
namespace Go.Proofs.Ytddiapihopgpbaa
namespace Wh
open Hp (lt lt_irr lt_asym le_trans lt_total)

/-- Timers of the slots that have been gone through: due, and later; what isn't due yet. -/
def vis (t : Nat) (pre : List Nat) (x : DuT) : Bool := pre.contains (pl t x.2)
def dueV (t u : Nat) (pre : List Nat) (l : List DuT) : List DuT := l.filter (fun x => vis t pre x && decide (x.2 ≤ u))
def latV (t u : Nat) (pre : List Nat) (l : List DuT) : List DuT := l.filter (fun x => vis t pre x && !decide (x.2 ≤ u))
def allV (t u : Nat) (pre : List Nat) (l : List DuT) : List DuT := l.filter (fun x => !(vis t pre x && decide (x.2 ≤ u)))
def mV (m : Nat → Option Nat) (pre : List Nat) (k : Nat) : Option Nat := if k ∈ pre then none else m k
def LV (t : Nat) (l : List DuT) (pre : List Nat) (k : Nat) : List DuT := if k ∈ pre then [] else inK t l k
theorem dueV_nil (t u : Nat) (l : List DuT) : dueV t u [] l = [] := by unfold dueV vis; simp
theorem latV_nil (t u : Nat) (l : List DuT) : latV t u [] l = [] := by unfold latV vis; simp
theorem allV_nil (t u : Nat) (l : List DuT) : allV t u [] l = l := by unfold allV vis; simp
/-- Two kinds that exclude each other, one behind the other. -/
theorem filter_or (p q : DuT → Bool) : ∀ (l : List DuT), (∀ x ∈ l, ¬ (p x = true ∧ q x = true)) → (l.filter (fun x => p x || q x)).Perm (l.filter p ++ l.filter q)
  | [], _ => List.Perm.refl _
  | x :: l, h => by
    have ih := filter_or p q l (fun y hy => h y (by simp [hy]))
    have hx := h x (by simp)
    by_cases hp : p x = true
    · have hq : ¬ q x = true := fun e => hx ⟨hp, e⟩
      rw [List.filter_cons_of_pos (by simp [hp]), List.filter_cons_of_pos hp, List.filter_cons_of_neg hq]
      exact ih.cons x
    · by_cases hq : q x = true
      · rw [List.filter_cons_of_pos (by simp [hq]), List.filter_cons_of_neg hp, List.filter_cons_of_pos hq]
        exact (ih.cons x).trans List.perm_middle.symm
      · rw [List.filter_cons_of_neg (by simp [hp, hq]), List.filter_cons_of_neg hp, List.filter_cons_of_neg hq]
        exact ih
theorem vis_snoc (t : Nat) (pre : List Nat) (k : Nat) (x : DuT) : vis t (pre ++ [k]) x = (vis t pre x || (pl t x.2 == k)) := by
  unfold vis
  rw [List.contains_eq_mem, List.contains_eq_mem, Bool.eq_iff_iff]
  simp
theorem vis_not {t : Nat} {pre : List Nat} {k : Nat} (hk : k ∉ pre) {x : DuT} (h : pl t x.2 = k) : vis t pre x = false := by
  unfold vis
  rw [List.contains_eq_mem, h]
  simpa using hk
theorem part_snoc (t : Nat) (pre : List Nat) (k : Nat) (hk : k ∉ pre) (c : DuT → Bool) (l : List DuT) : (l.filter (fun x => vis t (pre ++ [k]) x && c x)).Perm (l.filter (fun x => vis t pre x && c x) ++ (inK t l k).filter c) := by
  have h1 := filter_or (fun x => vis t pre x && c x) (fun x => (pl t x.2 == k) && c x) l (fun x _ ⟨a, b⟩ => by
    simp at a b
    rw [vis_not hk b.1] at a
    exact absurd a.1 (by simp))
  have e1 : (l.filter (fun x => vis t (pre ++ [k]) x && c x)) = l.filter (fun x => (vis t pre x && c x) || ((pl t x.2 == k) && c x)) := by
    refine List.filter_congr fun x _ => ?_
    rw [vis_snoc]
    cases vis t pre x <;> cases (pl t x.2 == k) <;> cases c x <;> rfl
  have e2 : (inK t l k).filter c = l.filter (fun x => (pl t x.2 == k) && c x) := by
    unfold inK
    rw [List.filter_filter]
    exact List.filter_congr fun x _ => Bool.and_comm _ _
  rw [e1, e2]
  exact h1
theorem due_snoc {t u : Nat} {pre : List Nat} {k : Nat} (hk : k ∉ pre) {l ds xs : List DuT} (hd : ds.Perm (dueV t u pre l)) (hx : xs.Perm (inK t l k)) : (ds ++ xs.filter (fun x => decide (x.2 ≤ u))).Perm (dueV t u (pre ++ [k]) l) :=
  (hd.append (hx.filter _)).trans (part_snoc t pre k hk (fun x => decide (x.2 ≤ u)) l).symm
theorem lat_snoc {t u : Nat} {pre : List Nat} {k : Nat} (hk : k ∉ pre) {l ls xs : List DuT} (hd : ls.Perm (latV t u pre l)) (hx : xs.Perm (inK t l k)) : (ls ++ xs.filter (fun x => !decide (x.2 ≤ u))).Perm (latV t u (pre ++ [k]) l) :=
  (hd.append (hx.filter _)).trans (part_snoc t pre k hk (fun x => !decide (x.2 ≤ u)) l).symm
/-- What is left of a list when the due ones of a row are gone. -/
def gone (u : Nat) (xs la : List DuT) : List DuT := la.filter (fun y => !(xs.any (fun x => x.1 == y.1 && decide (x.2 ≤ u))))
theorem gone_nil (u : Nat) (la : List DuT) : gone u [] la = la := by unfold gone; simp
theorem gone_later {u : Nat} {xs la : List DuT} {x : DuT} (h : u < x.2) : gone u (xs ++ [x]) la = gone u xs la := by
  unfold gone
  refine List.filter_congr fun y _ => ?_
  have : decide (x.2 ≤ u) = false := by simp; exact h
  simp [this]
theorem canL_nat (d : Nat) (la : List DuT) : canL (d : Int) la = la.filter (fun y => y.1 != d) := by
  unfold canL canB del
  have h0 : (decide (0 ≤ (d : Int))) = true := by simp
  rw [h0, Bool.true_and, Int.toNat_natCast]
  split
  · rfl
  · rename_i h
    refine (List.filter_eq_self.2 fun y hy => ?_).symm
    cases hb : (y.1 != d) with
    | true => rfl
    | false => exact absurd (has_iff.2 ⟨y, hy, by simpa using hb⟩) h
theorem gone_due {u : Nat} {xs la : List DuT} {x : DuT} (h : x.2 ≤ u) : gone u (xs ++ [x]) la = canL (x.1 : Nat) (gone u xs la) := by
  rw [canL_nat]
  unfold gone
  rw [List.filter_filter]
  refine List.filter_congr fun y _ => ?_
  have : decide (x.2 ≤ u) = true := by simpa using h
  have e2 : (x.1 == y.1) = (y.1 == x.1) := by rw [Bool.eq_iff_iff, beq_iff_eq, beq_iff_eq]; exact eq_comm
  rw [List.any_append, Bool.not_or]
  simp only [List.any_cons, List.any_nil, this, Bool.and_true, Bool.or_false]
  rw [e2]
  cases (xs.any fun x => x.1 == y.1 && decide (x.2 ≤ u)) <;> cases h3 : (y.1 == x.1) <;> simp [bne, h3]
theorem all_snoc {t u : Nat} {pre : List Nat} {k : Nat} {l xs : List DuT} (hu : Uni l) (hx : xs.Perm (inK t l k)) : gone u xs (allV t u pre l) = allV t u (pre ++ [k]) l := by
  unfold gone allV
  rw [List.filter_filter]
  refine List.filter_congr fun y hy => ?_
  have he : xs.any (fun x => x.1 == y.1 && decide (x.2 ≤ u)) = ((pl t y.2 == k) && decide (y.2 ≤ u)) := by
    rw [Bool.eq_iff_iff, List.any_eq_true]
    constructor
    · rintro ⟨x, hxx, hc⟩
      obtain ⟨h1, h2⟩ := List.mem_filter.1 (hx.mem_iff.1 hxx)
      simp at hc h2
      have := uniT_eq hu h1 hy hc.1
      subst this
      simp [h2, hc.2]
    · intro hc
      simp at hc
      exact ⟨y, hx.mem_iff.2 (List.mem_filter.2 ⟨hy, by simp [hc.1]⟩), by simp [hc.2]⟩
  rw [he, vis_snoc]
  cases vis t pre y <;> cases (pl t y.2 == k) <;> cases decide (y.2 ≤ u) <;> rfl
theorem mV_snoc (m : Nat → Option Nat) (pre : List Nat) (k : Nat) : mV m (pre ++ [k]) = updM (mV m pre) k none := by
  funext j
  unfold mV updM
  by_cases e : j = k
  · simp [e]
  · simp [e]
theorem LV_snoc (t : Nat) (l : List DuT) (pre : List Nat) (k : Nat) : LV t l (pre ++ [k]) = updL (LV t l pre) k [] := by
  funext j
  unfold LV updL
  by_cases e : j = k
  · simp [e]
  · simp [e]

/-! ### When all slots are through -/
/-- The slots that have been gone through: those of timers up to the last one. -/
theorem vis_all {t u : Nat} {l : List DuT} {x : DuT} (hx : x ∈ l) : vis t (fulls (fullOf (inK t l)) (pl t u + 1)) x = decide (pl t x.2 ≤ pl t u) := by
  unfold vis
  rw [List.contains_eq_mem, Bool.eq_iff_iff, decide_eq_true_eq, decide_eq_true_eq, fulls_mem]
  constructor
  · rintro ⟨a, _⟩; omega
  · intro h
    exact ⟨by omega, full_iff.2 (List.length_pos_of_mem (List.mem_filter.2 ⟨hx, by simp⟩))⟩
theorem due_all {t u : Nat} {l : List DuT} (hf : Fine t l) (hu : u < 2 ^ 63) : dueV t u (fulls (fullOf (inK t l)) (pl t u + 1)) l = out u l := by
  unfold dueV out
  refine List.filter_congr fun x hx => ?_
  rw [vis_all hx]
  have ht := hf.time
  by_cases h : x.2 ≤ u
  · have := pl_mono (t := t) (a := x.2) (b := u) (by omega) hu (by omega)
    simp [h, this]
  · simp [h]
theorem all_all {t u : Nat} {l : List DuT} (hf : Fine t l) (hu : u < 2 ^ 63) : allV t u (fulls (fullOf (inK t l)) (pl t u + 1)) l = rst u l := by
  unfold allV rst
  refine List.filter_congr fun x hx => ?_
  rw [vis_all hx]
  have ht := hf.time
  by_cases h : x.2 ≤ u
  · have := pl_mono (t := t) (a := x.2) (b := u) (by omega) hu (by omega)
    simp [h, this]
  · simp [h]
/-- What is later and stands up to the last slot, and what stands behind it. -/
def ahd (t u : Nat) (l : List DuT) : List DuT := l.filter (fun x => decide (pl t x.2 ≤ pl t u) && !decide (x.2 ≤ u))
def bhd (t u : Nat) (l : List DuT) : List DuT := l.filter (fun x => decide (pl t u < pl t x.2))
theorem lat_all {t u : Nat} {l : List DuT} : latV t u (fulls (fullOf (inK t l)) (pl t u + 1)) l = ahd t u l := by
  unfold latV ahd
  refine List.filter_congr fun x hx => ?_
  rw [vis_all hx]
theorem rest_two {t u : Nat} {l : List DuT} (hf : Fine t l) (hu : u < 2 ^ 63) : (rst u l).Perm (ahd t u l ++ bhd t u l) := by
  have ht := hf.time
  have h1 := filter_or (fun x => decide (pl t x.2 ≤ pl t u) && !decide (x.2 ≤ u)) (fun x => decide (pl t u < pl t x.2)) l (fun x _ ⟨a, b⟩ => by simp at a b; omega)
  have e1 : rst u l = l.filter (fun x => (decide (pl t x.2 ≤ pl t u) && !decide (x.2 ≤ u)) || decide (pl t u < pl t x.2)) := by
    unfold rst
    refine List.filter_congr fun x hx => ?_
    by_cases h : pl t u < pl t x.2
    · have := pl_later (by omega) hu h
      have h2 : ¬ x.2 ≤ u := by omega
      simp [h, h2]
    · have h3 : pl t x.2 ≤ pl t u := by omega
      simp [h, h3]
  rw [e1]
  exact h1
/-- The slots when the time has been put. -/
theorem LV_all {t u : Nat} {l : List DuT} (k : Nat) : LV t l (fulls (fullOf (inK t l)) (pl t u + 1)) k = (bhd t u l).filter (fun x => pl t x.2 == k) := by
  unfold LV bhd
  rw [List.filter_filter]
  by_cases hk : k ∈ fulls (fullOf (inK t l)) (pl t u + 1)
  · rw [if_pos hk]
    have := (fulls_mem.1 hk).1
    refine (List.filter_eq_nil_iff.2 fun x _ => ?_).symm
    simp
    omega
  · rw [if_neg hk]
    unfold inK
    refine List.filter_congr fun x hx => ?_
    by_cases e : pl t x.2 = k
    · have : pl t u < pl t x.2 := by
        apply Classical.byContradiction
        intro h
        refine hk (fulls_mem.2 ⟨by omega, full_iff.2 (List.length_pos_of_mem (List.mem_filter.2 ⟨hx, by simpa using e⟩))⟩)
      simp [this]
    · simp [e]
theorem bhd_stays {t u : Nat} {l : List DuT} (hf : Fine t l) (hu : u < 2 ^ 63) (htu : t ≤ u) (k : Nat) : (bhd t u l).filter (fun x => pl t x.2 == k) = (bhd t u l).filter (fun x => pl u x.2 == k) := by
  have ht := hf.time
  refine List.filter_congr fun x hx => ?_
  obtain ⟨h1, h2⟩ := List.mem_filter.1 hx
  have hx2 := hf.ats x h1
  rw [pl_stays (by omega) hu (by omega) htu (by simpa using h2)]
/-- The slots while what is later is put back. -/
def putL (t u : Nat) (l ls : List DuT) (k : Nat) : List DuT := (ls ++ bhd t u l).filter (fun x => pl u x.2 == k)
theorem Fit.sub {l m : List DuT} (h : Fit l) (hs : m.Sublist l) : Fit m := ⟨h.uni.sublist hs, fun x hx => h.ids x (hs.subset hx), fun x hx => h.ats x (hs.subset hx)⟩
theorem fit_later {t u : Nat} {l ls : List DuT} (hf : Fine t l) (hu : u < 2 ^ 63) (hl : ls.Perm (ahd t u l)) : Fit (ls ++ bhd t u l) :=
  (hf.fit.filter (fun x => !decide (x.2 ≤ u))).perm ((rest_two hf hu).trans (hl.symm.append (List.Perm.refl _)))
/-- One more that is put back. -/
theorem put_next {t u : Nat} {l ls : List DuT} (hF : Fit (ls ++ bhd t u l)) {i : Nat} {x : DuT} (hx : ls[i]? = some x) (k : Nat) :
    (updL (putL t u l (ls.take i)) (pl u x.2) (x :: putL t u l (ls.take i) (pl u x.2)) k).Perm (putL t u l (ls.take (i + 1)) k) ∧ Fit (putL t u l (ls.take i) k) ∧ has x.1 (putL t u l (ls.take i) k) = false := by
  have hi := (List.getElem?_eq_some_iff.1 hx).1
  have hsp : ls = ls.take i ++ x :: ls.drop (i + 1) := by
    have e := (List.getElem?_eq_some_iff.1 hx).2
    rw [← e, ← List.drop_eq_getElem_cons hi, List.take_append_drop]
  have hsub : (ls.take i ++ bhd t u l).Sublist (ls ++ bhd t u l) := (List.take_sublist i ls).append (List.Sublist.refl _)
  have hfit := hF.sub hsub
  refine ⟨?_, hfit.filter _, ?_⟩
  · have ht : ls.take (i + 1) = ls.take i ++ [x] := by rw [List.take_add_one, hx]; rfl
    have hp : (x :: (ls.take i ++ bhd t u l)).Perm (ls.take (i + 1) ++ bhd t u l) := by
      rw [ht, List.append_assoc]
      exact List.perm_middle.symm
    have h2 := hp.filter (fun x => pl u x.2 == k)
    by_cases e : k = pl u x.2
    · subst e
      rw [updL_at]
      rw [List.filter_cons_of_pos (by simp)] at h2
      exact h2
    · rw [updL_of _ e]
      rw [List.filter_cons_of_neg (by simp; exact fun h => e h.symm)] at h2
      exact h2
  · cases h : has x.1 (putL t u l (ls.take i) k) with
    | false => rfl
    | true =>
      obtain ⟨y, hy, e⟩ := has_iff.1 h
      have hy1 := (List.mem_filter.1 hy).1
      have hu := hF.uni
      rw [hsp] at hu
      have hu2 := (List.pairwise_append.1 hu)
      have hu3 := List.pairwise_append.1 hu2.1
      rcases List.mem_append.1 hy1 with hy1 | hy1
      · exact absurd e (hu3.2.2 y hy1 x (by simp))
      · exact absurd e.symm (hu2.2.2 x (by simp) y hy1)
theorem put_all {t u : Nat} {l ls : List DuT} (hf : Fine t l) (hu : u < 2 ^ 63) (hl : ls.Perm (ahd t u l)) (k : Nat) : (putL t u l ls k).Perm (inK u (rst u l) k) := by
  unfold putL inK
  exact ((hl.append (List.Perm.refl _)).trans (rest_two hf hu).symm).filter _
theorem put_zero {t u : Nat} {l : List DuT} (hf : Fine t l) (hu : u < 2 ^ 63) (htu : t ≤ u) (k : Nat) : LV t l (fulls (fullOf (inK t l)) (pl t u + 1)) k = putL t u l [] k := by
  rw [LV_all, bhd_stays hf hu htu]
  rfl
/-- A row in order is the only one. -/
theorem sorted_one {ys zs : List DuT} (hp : ys.Perm zs) (h1 : ys.Pairwise (fun a b => ¬ lt b a)) (h2 : Srt zs) : ys = zs := by
  refine List.Perm.eq_of_pairwise (le := fun a b : DuT => ¬ lt b a) (fun a b _ _ h1 h2 => lt_total h2 h1) h1 (h2.imp (fun h => lt_asym h)) hp
end Wh
end Go.Proofs.Ytddiapihopgpbaa
