/-
  Plain: whose the frames are, while calls are done; what is there when a space is gone. Conditions: none.
-/
import Derived.Test.YtiiggmfindfkfaaGreatStBegin
import Derived.Test.YtiiggmfindfkfaaGreatFrKit
namespace Go.Proofs.YtiiggmfindfkfaaGreat
open Go.RowKit
namespace St
open Ph En Wk
/-- A frame is a second table's. -/
def IsTab (A : Nat → Fst) (t : Nat) : Prop := ∃ i pg, i < 64 ∧ A i = .tab t pg
/-- Whose the frames are: the last ones another one's, the tables' the monitor's. -/
structure Inv (n k r : Nat) (os : List Nat) (A : Nat → Fst) : Prop where
  len : os.length = n
  kn : k ≤ n
  rk : r < k
  lt : ∀ t, IsTab A t → t < k ∧ t ≠ r
  one : ∀ i j t pg pg', i < 64 → j < 64 → A i = .tab t pg → A j = .tab t pg' → i = j
  two : ∀ t, k ≤ t → t < n → os[t]? = some 2
  mine : ∀ t, t = r ∨ IsTab A t → os[t]? = some 1
  free : ∀ t, t < k → t ≠ r → ¬ IsTab A t → os[t]? = some 0
  c1 : Fr.cn os 1 = tabs A + 1
  c0 : Fr.cn os 0 = (k : Int) - 1 - tabs A
section
variable {n k r : Nat} {os : List Nat} {A : Nat → Fst}
theorem isTab_new {A : Nat → Fst} {i t s : Nat} {pg : Pgs} (hi : i < 64) (hn : isT (A i) = false) : IsTab (setA A i (.tab t pg)) s ↔ s = t ∨ IsTab A s := by
  constructor
  · rintro ⟨j, p, hj, e⟩
    by_cases a : j = i
    · rw [a, setA_at] at e; injection e with e _; exact Or.inl e.symm
    · rw [setA_ne _ _ a] at e; exact Or.inr ⟨j, p, hj, e⟩
  · rintro (rfl | ⟨j, p, hj, e⟩)
    · exact ⟨i, pg, hi, setA_at _ _ _⟩
    · have a : j ≠ i := by rintro rfl; rw [e] at hn; cases hn
      exact ⟨j, p, hj, by rw [setA_ne _ _ a]; exact e⟩
theorem isTab_pg {A : Nat → Fst} {i t s : Nat} {pg pg' : Pgs} (hi : i < 64) (h : A i = .tab t pg) : IsTab (setA A i (.tab t pg')) s ↔ IsTab A s := by
  constructor
  · rintro ⟨j, p, hj, e⟩
    obtain ⟨j', p', hj', e'⟩ := setTab h j s p hj e
    exact ⟨j', p', hj', e'⟩
  · rintro ⟨j, p, hj, e⟩
    by_cases a : j = i
    · rw [a, h] at e; injection e with e _; subst e; exact ⟨i, pg', hi, setA_at _ _ _⟩
    · exact ⟨j, p, hj, by rw [setA_ne _ _ a]; exact e⟩
theorem isTab_rep {A : Nat → Fst} {i t s : Nat} {pg : Pgs} {f : Fst} (hi : i < 64) (h : A i = .tab t pg) (hf : isT f = false) (one : ∀ i j t pg pg', i < 64 → j < 64 → A i = .tab t pg → A j = .tab t pg' → i = j) : IsTab (setA A i f) s ↔ IsTab A s ∧ s ≠ t := by
  constructor
  · rintro ⟨j, p, hj, e⟩
    by_cases a : j = i
    · rw [a, setA_at] at e; rw [e] at hf; cases hf
    · rw [setA_ne _ _ a] at e
      exact ⟨⟨j, p, hj, e⟩, fun x => a (one j i t p pg hj hi (x ▸ e) h)⟩
  · rintro ⟨⟨j, p, hj, e⟩, ne⟩
    have a : j ≠ i := by rintro rfl; rw [h] at e; injection e with e _; exact ne e.symm
    exact ⟨j, p, hj, by rw [setA_ne _ _ a]; exact e⟩
theorem isTab_off {A : Nat → Fst} {i s : Nat} {f : Fst} (hn : isT (A i) = false) (hf : isT f = false) : IsTab (setA A i f) s ↔ IsTab A s := by
  constructor
  · rintro ⟨j, p, hj, e⟩
    by_cases a : j = i
    · rw [a, setA_at] at e; rw [e] at hf; cases hf
    · rw [setA_ne _ _ a] at e; exact ⟨j, p, hj, e⟩
  · rintro ⟨j, p, hj, e⟩
    have a : j ≠ i := by rintro rfl; rw [e] at hn; cases hn
    exact ⟨j, p, hj, by rw [setA_ne _ _ a]; exact e⟩
theorem Inv.new (h : Inv n k r os A) {i t : Nat} {pg : Pgs} (hi : i < 64) (hn : isT (A i) = false) (hs : Fr.spot 1 os = some t) : Inv n k r (os.set t 1) (setA A i (.tab t pg)) := by
  have h0 := spot1 hs
  have tl : t < n := by rw [← h.len]; exact (List.getElem?_eq_some_iff.1 h0).1
  have tk : t < k := by
    refine Classical.byContradiction fun hc => ?_
    have := h.two t (by omega) tl
    rw [h0] at this
    cases this
  have tn : ¬ (t = r ∨ IsTab A t) := fun hc => by
    have := h.mine t hc
    rw [h0] at this
    cases this
  have it := fun s => isTab_new (A := A) (i := i) (t := t) (s := s) (pg := pg) hi hn
  have hts := tabs_set A (.tab t pg) hi
  rw [hn] at hts
  simp only [isT] at hts
  refine ⟨by rw [List.length_set]; exact h.len, h.kn, h.rk, fun s hs' => ?_, fun a b s p p' ha hb e1 e2 => ?_, fun s h1 h2 => ?_, fun s hs' => ?_, fun s h1 h2 h3 => ?_, ?_, ?_⟩
  · rcases (it s).1 hs' with rfl | h'
    · exact ⟨tk, fun e => tn (Or.inl e)⟩
    · exact h.lt s h'
  · by_cases x : a = i
    · by_cases y : b = i
      · rw [x, y]
      · rw [x, setA_at] at e1
        rw [setA_ne _ _ y] at e2
        injection e1 with e1 _
        subst e1
        exact absurd (Or.inr ⟨b, p', hb, e2⟩) tn
    · by_cases y : b = i
      · rw [y, setA_at] at e2
        rw [setA_ne _ _ x] at e1
        injection e2 with e2 _
        subst e2
        exact absurd (Or.inr ⟨a, p, ha, e1⟩) tn
      · rw [setA_ne _ _ x] at e1
        rw [setA_ne _ _ y] at e2
        exact h.one a b s p p' ha hb e1 e2
  · rw [List.getElem?_set_ne (by omega)]; exact h.two s h1 h2
  · by_cases e : t = s
    · subst e; exact List.getElem?_set_self (by rw [h.len]; exact tl)
    · rw [List.getElem?_set_ne e]
      rcases hs' with h' | h'
      · exact h.mine s (Or.inl h')
      · rcases (it s).1 h' with h' | h'
        · exact absurd h'.symm e
        · exact h.mine s (Or.inr h')
  · have e : t ≠ s := by rintro rfl; exact h3 ((it t).2 (Or.inl rfl))
    rw [List.getElem?_set_ne e]
    exact h.free s h1 h2 (fun x => h3 ((it s).2 (Or.inr x)))
  · rw [Fr.cn_set h0, h.c1]
    simp at hts ⊢
    omega
  · rw [Fr.cn_set h0, h.c0]
    simp at hts ⊢
    omega
theorem Inv.pg (h : Inv n k r os A) {i t : Nat} {pg pg' : Pgs} (hi : i < 64) (hA : A i = .tab t pg) : Inv n k r os (setA A i (.tab t pg')) := by
  have it := fun s => isTab_pg (A := A) (i := i) (t := t) (s := s) (pg := pg) (pg' := pg') hi hA
  have hts := tabs_set A (.tab t pg') hi
  rw [hA] at hts
  simp only [isT] at hts
  have ht : tabs (setA A i (.tab t pg')) = tabs A := by omega
  refine ⟨h.len, h.kn, h.rk, fun s hs => h.lt s ((it s).1 hs), fun a b s p p' ha hb e1 e2 => ?_, h.two, fun s hs => h.mine s (hs.imp id (it s).1), fun s h1 h2 h3 => h.free s h1 h2 (fun x => h3 ((it s).2 x)), by rw [ht]; exact h.c1, by rw [ht]; exact h.c0⟩
  have fix : ∀ a p, setA A i (.tab t pg') a = .tab s p → ∃ p', A a = .tab s p' := by
    intro a p e
    by_cases x : a = i
    · rw [x, setA_at] at e; injection e with e _; subst e; exact ⟨pg, by rw [x]; exact hA⟩
    · rw [setA_ne _ _ x] at e; exact ⟨p, e⟩
  obtain ⟨q, f1⟩ := fix a p e1
  obtain ⟨q', f2⟩ := fix b p' e2
  exact h.one a b s q q' ha hb f1 f2
theorem Inv.rep (h : Inv n k r os A) {i t : Nat} {pg : Pgs} {f : Fst} (hi : i < 64) (hA : A i = .tab t pg) (hf : isT f = false) : Inv n k r (os.set t 0) (setA A i f) := by
  have it := fun s => isTab_rep (A := A) (i := i) (t := t) (s := s) (pg := pg) (f := f) hi hA hf h.one
  have h1t := h.mine t (Or.inr ⟨i, pg, hi, hA⟩)
  obtain ⟨tk, tr⟩ := h.lt t ⟨i, pg, hi, hA⟩
  have hts := tabs_set A f hi
  rw [hA, hf] at hts
  simp only [isT] at hts
  refine ⟨by rw [List.length_set]; exact h.len, h.kn, h.rk, fun s hs => h.lt s ((it s).1 hs).1, fun a b s p p' ha hb e1 e2 => ?_, fun s h1 h2 => ?_, fun s hs => ?_, fun s h1 h2 h3 => ?_, ?_, ?_⟩
  · have fix : ∀ a p, setA A i f a = .tab s p → A a = .tab s p := by
      intro a p e
      by_cases x : a = i
      · rw [x, setA_at] at e; rw [e] at hf; cases hf
      · rw [setA_ne _ _ x] at e; exact e
    exact h.one a b s p p' ha hb (fix a p e1) (fix b p' e2)
  · rw [List.getElem?_set_ne (by omega)]; exact h.two s h1 h2
  · have e : t ≠ s := by
      rcases hs with h' | h'
      · rw [h']; exact tr
      · exact fun x => ((it s).1 h').2 x.symm
    rw [List.getElem?_set_ne e]
    exact h.mine s (hs.imp id fun h' => ((it s).1 h').1)
  · by_cases e : t = s
    · subst e; exact List.getElem?_set_self (by rw [h.len]; have := h.kn; omega)
    · rw [List.getElem?_set_ne e]
      exact h.free s h1 h2 (fun x => h3 ((it s).2 ⟨x, fun y => e y.symm⟩))
  · rw [Fr.cn_set h1t, h.c1]
    simp at hts ⊢
    omega
  · rw [Fr.cn_set h1t, h.c0]
    simp at hts ⊢
    omega
theorem Inv.off (h : Inv n k r os A) {i : Nat} {f : Fst} (hi : i < 64) (hn : isT (A i) = false) (hf : isT f = false) : Inv n k r os (setA A i f) := by
  have it := fun s => isTab_off (A := A) (i := i) (s := s) (f := f) hn hf
  have hts := tabs_set A f hi
  rw [hn, hf] at hts
  have ht : tabs (setA A i f) = tabs A := by simp at hts; exact hts
  refine ⟨h.len, h.kn, h.rk, fun s hs => h.lt s ((it s).1 hs), fun a b s p p' ha hb e1 e2 => ?_, h.two, fun s hs => h.mine s (hs.imp id (it s).1), fun s h1 h2 h3 => h.free s h1 h2 (fun x => h3 ((it s).2 x)), by rw [ht]; exact h.c1, by rw [ht]; exact h.c0⟩
  have fix : ∀ a p, setA A i f a = .tab s p → A a = .tab s p := by
    intro a p e
    by_cases x : a = i
    · rw [x, setA_at] at e; rw [e] at hf; cases hf
    · rw [setA_ne _ _ x] at e; exact e
  exact h.one a b s p p' ha hb (fix a p e1) (fix b p' e2)
theorem Inv.ready (h : Inv n k r os A) {i : Nat} (hi : i < 64) {os1 : List Nat} {A1 : Nat → Fst} (hr : readyA os A i = some (os1, A1)) : Inv n k r os1 A1 := by
  unfold readyA at hr
  split at hr
  · rename_i w e F hA
    split at hr
    · cases hr
    · rename_i t hs
      injection hr with hr
      injection hr with h1 h2
      subst h1 h2
      exact h.new hi (by rw [hA]; rfl) hs
  · injection hr with hr
    injection hr with h1 h2
    subst h1 h2
    exact h
theorem Inv.laid (h : Inv n k r os A) {i : Nat} (hi : i < 64) {os1 : List Nat} {A1 : Nat → Fst} (hr : laidA os A i = some (os1, A1)) : Inv n k r os1 A1 := by
  unfold laidA at hr
  split at hr
  · rename_i hA
    split at hr
    · cases hr
    · rename_i t hs
      injection hr with hr
      injection hr with h1 h2
      subst h1 h2
      exact h.new hi (by rw [hA]; rfl) hs
  · injection hr with hr
    injection hr with h1 h2
    subst h1 h2
    exact h
theorem Inv.pgA (h : Inv n k r os A) {i j : Nat} {o : Option (Bool × Bool × Nat)} (hi : i < 64) : Inv n k r os (pgA A i j o) := by
  unfold St.pgA
  split
  · rename_i t pg hA; exact h.pg hi hA
  · exact h
theorem Inv.repA (h : Inv n k r os A) {i : Nat} {f : Fst} (hi : i < 64) (hf : isT f = false) : Inv n k r (repA os A i f).1 (repA os A i f).2 := by
  unfold St.repA
  split
  · rename_i t pg hA; exact h.rep hi hA hf
  · exact h
theorem Inv.tidy (h : Inv n k r os A) {i : Nat} (hi : i < 64) : Inv n k r (tidyA os A i).1 (tidyA os A i).2 := by
  unfold tidyA
  split
  · exact h.repA hi rfl
  · exact h
theorem Inv.op (h : Inv n k r os A) (c : Cq) : Inv n k r (opA n os A c).2.1 (opA n os A c).2.2 := by
  have pg64 : ∀ {p : Int}, ¬ inR 4096 p = false → p.toNat / 64 < 64 := fun {p} hp => by
    have := inR_iff.1 (by simpa using hp : inR 4096 p = true); omega
  have i64 : ∀ {p : Int}, ¬ inR 64 p = false → p.toNat < 64 := fun {p} hp => by
    have := inR_iff.1 (by simpa using hp : inR 64 p = true); omega
  unfold opA
  split
  · unfold mapA
    split
    · exact h
    · rename_i hr
      split
      · exact h
      · split
        · exact h
        · rename_i os1 A1 hL
          exact (h.laid (pg64 (fun x => hr (Or.inl x))) hL).pgA (pg64 (fun x => hr (Or.inl x)))
  split
  · unfold runA
    split
    · exact h
    · rename_i hr
      split
      · exact h
      · rename_i hn
        refine h.off (i64 (fun x => hr (Or.inl x))) ?_ rfl
        cases e : A c.page.toNat with
        | no => rfl
        | blk a b F => rfl
        | tab t pg => rw [e] at hn; simp [isNo] at hn
  split
  · unfold unmA
    split
    · exact h
    · rename_i hr
      split
      · exact h
      · split
        · exact h
        · rename_i os1 A1 hL
          exact ((h.ready (pg64 hr) hL).pgA (pg64 hr)).tidy (pg64 hr)
  split
  · unfold proA
    split
    · exact h
    · rename_i hr
      split
      · exact h
      · split
        · exact h
        · rename_i os1 A1 hL
          exact (h.ready (pg64 hr) hL).pgA (pg64 hr)
  split
  · unfold splA
    split
    · exact h
    · rename_i hr
      split
      · exact h
      · split
        · exact h
        · rename_i os1 A1 hL
          exact h.ready (i64 hr) hL
  · unfold merA
    split
    · exact h
    · rename_i hr
      split
      · split
        · exact h
        · exact h.repA (i64 hr) rfl
      · exact h
theorem inv_beg {n away : Nat} (h : away < n) (room : Nat) : Inv n (n - away) 0 (beg n away room).os (fun _ => .no) := by
  have nt : ∀ t, ¬ IsTab (fun _ => Fst.no) t := fun t ⟨i, pg, _, e⟩ => by cases e
  have e0 : (own0 n (n - away))[0]? = some 0 := by rw [own0_get (by omega) (by omega), if_pos (by omega)]
  have cc : ∀ j, (own0 n (n - away)).count j = (if j = 0 then n - away else 0) + (if j = 2 then away else 0) := by
    intro j
    unfold own0
    rw [List.count_append, List.count_replicate, List.count_replicate]
    by_cases h1 : j = 0
    · subst h1; simp
    · by_cases h2 : j = 2
      · subst h2; simp; omega
      · simp [h1, h2, Ne.symm h1, Ne.symm h2]
  have t0 : tabs (fun _ => Fst.no) = 0 := by decide
  refine ⟨by show ((own0 n (n - away)).set 0 1).length = n; rw [List.length_set, own0_len (by omega)], by omega, by omega, fun t ht => absurd ht (nt t), fun i j t pg pg' _ _ e _ => (by cases e), fun t h1 h2 => ?_, fun t ht => ?_, fun t h1 h2 h3 => ?_, ?_, ?_⟩
  · show ((own0 n (n - away)).set 0 1)[t]? = _
    rw [List.getElem?_set_ne (by omega), own0_get (by omega) h2, if_neg (by omega)]
  · rcases ht with rfl | ht
    · exact List.getElem?_set_self (by rw [own0_len (by omega)]; omega)
    · exact absurd ht (nt t)
  · show ((own0 n (n - away)).set 0 1)[t]? = _
    rw [List.getElem?_set_ne (by omega), own0_get (by omega) (by omega), if_pos h1]
  · show Fr.cn ((own0 n (n - away)).set 0 1) 1 = _
    rw [Fr.cn_set e0, t0]
    unfold Fr.cn
    rw [cc]
    simp
  · show Fr.cn ((own0 n (n - away)).set 0 1) 0 = _
    rw [Fr.cn_set e0, t0]
    unfold Fr.cn
    rw [cc]
    simp
/-- What is left when the space is gone: as it was ahead of it. -/
theorem Inv.gone (h : Inv n k r os A) : Fr.giveL os (r :: tabL A 64) = own0 n k := by
  apply List.ext_getElem?
  intro t
  by_cases ht : t < n
  · rw [Fr.giveL_get _ _ _ (by rw [h.len]; exact ht), own0_get h.kn ht]
    have hm : t ∈ r :: tabL A 64 ↔ t = r ∨ IsTab A t := by
      rw [List.mem_cons, mem_tabL]; rfl
    by_cases e : t = r ∨ IsTab A t
    · rw [if_pos (hm.2 e), if_pos]
      rcases e with rfl | e
      · exact h.rk
      · exact (h.lt t e).1
    · rw [if_neg (fun x => e (hm.1 x))]
      by_cases hk : t < k
      · rw [if_pos hk]; exact h.free t hk (fun x => e (Or.inl x)) (fun x => e (Or.inr x))
      · rw [if_neg hk]; exact h.two t (by omega) ht
  · rw [List.getElem?_eq_none (by rw [Fr.giveL_len, h.len]; omega), List.getElem?_eq_none (by rw [own0_len h.kn]; omega)]
theorem own0_cnt {n k : Nat} (j : Nat) : Fr.cn (own0 n k) j = ((if j = 0 then k else 0) + (if j = 2 then n - k else 0) : Nat) := by
  unfold Fr.cn own0
  rw [List.count_append, List.count_replicate, List.count_replicate]
  by_cases h1 : j = 0
  · subst h1; simp
  · by_cases h2 : j = 2
    · subst h2; simp
    · simp [h1, h2, Ne.symm h1, Ne.symm h2]
/-- Calls, one behind the other. -/
theorem runs_inv {vm : Nat} {x : Pl} (cs : Nat → Cq) (hR : Rep n x A) (h : Inv n k x.root x.os A) : ∀ m, Inv n k x.root (runsP n vm cs m (x, A)).1.os (runsP n vm cs m (x, A)).2 ∧ (runsP n vm cs m (x, A)).1.root = x.root
  | 0 => ⟨h, rfl⟩
  | m + 1 => by
    obtain ⟨i1, i2⟩ := runs_inv (vm := vm) cs hR h m
    have hl := runs_rep (vm := vm) cs hR m
    generalize hs : runsP n vm cs m (x, A) = s at i1 i2 hl
    have e : runsP n vm cs (m + 1) (x, A) = ((stepR n vm s.1 s.2 (cs m)).x, (stepR n vm s.1 s.2 (cs m)).A) := by rw [runsP, hs]
    rw [e, stepR_live hl.live]
    have ha := op_abs (n := n) (vm := vm) (x := s.1.noLog) (A := s.2) (cs m)
    rw [show s.1.noLog.os = s.1.os from rfl] at ha
    have hg := op_good (vm := vm) (hl.log []) rfl (cs m)
    obtain ⟨_, _, tk, gv, hd⟩ := hg
    refine ⟨?_, hd.root.trans i2⟩
    have h1 := congrArg (·.2.1) ha
    have h2 := congrArg (·.2.2) ha
    simp only [absR] at h1 h2
    rw [h1, h2]
    exact i1.op (cs m)
end
theorem Rep.nxt {n : Nat} {x : Pl} {A : Nat → Fst} (h : Rep n x A) (nx : Nat) : Rep n { x with next := nx } A := ⟨h.by8, h.few, h.len, h.rt, h.own, h.live, h.wrd, h.ok, h.one⟩
/-- The TLB is turned. -/
theorem Wd.tlb {B g : Nat} {L : Loc} {w w' : World} {v : Value} {x : Pl} {ps' : List (Option Tl.SlotT)} {next' : Nat} {S : List Nat} (h : Wd B g L w v x) (hT : Tl.Tlb w' L.p L.pm L.room next' ps') (ho : Only S w w') (hS : ∀ k ∈ S, k = L.p ∨ k = L.pm) : Wd B g L w' v { x with ps := ps', next := next' } := by
  refine ⟨h.st.withTlb hT ho hS, h.lay.kept ho (fun hm => h.out ?_), h.out, h.off, h.new, h.newg, h.newv⟩
  rcases hS g hm with e | e
  · rw [e]; simp [Loc.all]
  · rw [e]; simp [Loc.all]
theorem Wd.belT {B g : Nat} {L : Loc} {w w' : World} {v : Value} {x : Pl} {S : List Nat} (h : Wd B g L w v x) (ho : Only S w w') (hS : ∀ k ∈ S, k = L.p ∨ k = L.pm) : Below B w w' :=
  ⟨ho.os, ho.tape, ho.output, ho.size, fun k hk => ho.block k (Nat.lt_of_lt_of_le hk h.le) (fun hm => by
    have h1 := h.new L.p (by simp [Loc.all]); have h2 := h.new L.pm (by simp [Loc.all])
    rcases hS k hm with e | e <;> omega)⟩
/-- Nothing of a vmid is found when all of it has been dropped. -/
theorem find_off (vm : Nat) (b : Int) : ∀ (ps : List (Option Tl.SlotT)) (i : Nat), Tl.findP vm b i (ps.map (offV vm)) = none
  | [], i => rfl
  | none :: r, i => find_off vm b r (i + 1)
  | some s :: r, i => by
    show Tl.findP vm b i (offV vm (some s) :: r.map (offV vm)) = none
    unfold offV Tl.off
    by_cases h : s.1 = (vm : Int)
    · simp only [h, decide_true, if_true]
      exact find_off vm b r (i + 1)
    · simp only [h, decide_false]
      have : Tl.named vm b s = false := by unfold Tl.named; simp [h]
      show Tl.findP vm b i (some s :: r.map (offV vm)) = none
      unfold Tl.findP
      rw [this]
      exact find_off vm b r (i + 1)
theorem lay_bel {B b : Nat} {w w' : World} {t : TypeId} {cs : List Value} (hb : Below B w w') (hk : b < B) (h : Tl.Lay w b t cs) : Tl.Lay w' b t cs := (hb.block b hk).trans h
theorem own0_w1 {n k : Nat} : (Fr.which 1 (own0 n k)).length = 0 := by
  have h := Fr.which_count 1 (own0 n k)
  rw [own0_cnt] at h
  simp at h
  simp [h]
theorem own0_w0 {n k : Nat} (_ : k ≤ n) : (Fr.which 0 (own0 n k)).length = k := by
  have h := Fr.which_count 0 (own0 n k)
  rw [own0_cnt] at h
  simp at h
  omega
theorem deeds_form {B : Nat} {w : World} {u : Value} {l : List Deed} (h : Deeds B w u l) : ∃ a cap, u = .slice a l.length cap := by
  unfold Deeds at h
  rcases h.2 with ⟨rfl, h0⟩ | ⟨g, cap, cur, rfl, _⟩
  · exact ⟨_, _, by rw [h0]⟩
  · exact ⟨_, _, rfl⟩
end St
end Go.Proofs.YtiiggmfindfkfaaGreat
