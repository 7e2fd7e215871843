/-
  The plain facts of a TLB's places: what is found, replaced, dropped. Conditions: none.
-/
import Derived.Test.YtcpadnedfnkieaaTlBase
namespace Go.Proofs.Ytcpadnedfnkieaa
open Go.RowKit Go.Maps Go.WideShapes Go.ChangeShapes
namespace Tl
open Ph (Only)

def zeroH : HeldT := (0, 0, 0, 0, false, false)
/-- Has an entry this name? -/
def named (a b : Int) (s : SlotT) : Bool := decide (s.1 = a) && decide (s.2.1 = b)
theorem named_iff {a b : Int} {s : SlotT} : named a b s = true ↔ s.1 = a ∧ s.2.1 = b := by simp [named]
/-- The entry of a name, in its place. -/
def findP (a b : Int) : Nat → List (Option SlotT) → Option HeldT
  | _, [] => none
  | i, none :: r => findP a b (i + 1) r
  | i, some s :: r => if named a b s then some ((i : Int), s) else findP a b (i + 1) r
theorem findP_some {a b : Int} {h : HeldT} : ∀ {i : Nat} {ps : List (Option SlotT)}, findP a b i ps = some h → ∃ k s, ps[k]? = some (some s) ∧ h = (((i + k : Nat) : Int), s) ∧ named a b s = true
  | i, [], e => by simp [findP] at e
  | i, none :: r, e => by
    obtain ⟨k, s, h1, h2, h3⟩ := findP_some (i := i + 1) (ps := r) e
    exact ⟨k + 1, s, by simpa using h1, by rw [h2]; congr 2; omega, h3⟩
  | i, some t :: r, e => by
    simp only [findP] at e
    by_cases hn : named a b t = true
    · rw [if_pos hn] at e
      injection e with e
      exact ⟨0, t, by simp, by rw [← e]; simp, hn⟩
    · rw [if_neg hn] at e
      obtain ⟨k, s, h1, h2, h3⟩ := findP_some (i := i + 1) (ps := r) e
      exact ⟨k + 1, s, by simpa using h1, by rw [h2]; congr 2; omega, h3⟩
theorem findP_none {a b : Int} : ∀ {i : Nat} {ps : List (Option SlotT)}, findP a b i ps = none → ∀ (k : Nat) (s : SlotT), ps[k]? = some (some s) → named a b s = false
  | i, [], _, k, s, h => by simp at h
  | i, none :: r, e, 0, s, h => by simp at h
  | i, none :: r, e, k + 1, s, h => findP_none (i := i + 1) (ps := r) e k s (by simpa using h)
  | i, some t :: r, e, k, s, h => by
    simp only [findP] at e
    by_cases hn : named a b t = true
    · rw [if_pos hn] at e; cases e
    · rw [if_neg hn] at e
      cases k with
      | zero =>
        simp at h
        subst h
        simpa using hn
      | succ k => exact findP_none (i := i + 1) (ps := r) e k s (by simpa using h)
theorem Good.mem {ps : List (Option SlotT)} (h : Good ps) {s : SlotT} (hs : some s ∈ ps) : W64 s.1 ∧ W64 s.2.1 := by
  obtain ⟨i, hi⟩ := List.mem_iff_getElem?.1 hs
  exact h.wf i s hi
theorem same_key {a b c d : Int} (ha : W64 a) (hb : W64 b) (hc : W64 c) (hd : W64 d) : (keyL a b).sameKey (keyL c d) = (decide (a = c) && decide (b = d)) := by
  by_cases h : a = c ∧ b = d
  · obtain ⟨rfl, rfl⟩ := h
    rw [WideAt.sameKey_self (key_lit ha hb)]; simp
  · rw [sameKey_ne (fun e => h (key_inj ha hb hc hd e))]
    cases h1 : decide (a = c) <;> cases h2 : decide (b = d) <;> simp_all
theorem ents_any {a b : Int} (ha : W64 a) (hb : W64 b) : ∀ (i : Nat) (ps : List (Option SlotT)), (∀ s, some s ∈ ps → W64 s.1 ∧ W64 s.2.1) → (ents i ps).any (fun p => p.1.sameKey (keyL a b)) = (findP a b i ps).isSome
  | _, [], _ => rfl
  | i, none :: r, h => by
    simp only [ents, findP]
    exact ents_any ha hb (i + 1) r (fun s hs => h s (by simp [hs]))
  | i, some t :: r, h => by
    have ht := h t (by simp)
    simp only [ents, findP, List.any_cons]
    rw [same_key ht.1 ht.2 ha hb, ents_any ha hb (i + 1) r (fun s hs => h s (by simp [hs]))]
    show (named a b t || _) = _
    by_cases hn : named a b t = true
    · rw [if_pos hn, hn]; rfl
    · rw [if_neg hn]; simp [hn]
theorem has_at {a b : Int} {ps : List (Option SlotT)} {es : List (Lit × DataW HeldT)} (hp : es.Perm (ents 0 ps)) (hg : Good ps) (ha : W64 a) (hb : W64 b) : Maps.has (.map es) (keyL a b) = (findP a b 0 ps).isSome := by
  rw [has_eq, hp.any_eq]
  exact ents_any ha hb 0 ps (fun s hs => hg.mem hs)
theorem key_look {a b : Int} {ps : List (Option SlotT)} {es : List (Lit × DataW HeldT)} (hp : es.Perm (ents 0 ps)) (hap : es.Pairwise (fun p q => p.1 ≠ q.1)) (hg : Good ps) (ha : W64 a) (hb : W64 b) (z : HeldT) :
    (DataW.map es).atKey (keyL a b) (.held z) = .held ((findP a b 0 ps).getD z) := by
  cases h : findP a b 0 ps with
  | none => exact atKey_of_not_has (by rw [has_at hp hg ha hb, h]; rfl) _
  | some x =>
    obtain ⟨k, s, h1, rfl, h3⟩ := findP_some h
    obtain ⟨rfl, rfl⟩ := named_iff.1 h3
    exact WideAt.atKey_mem (.held z) (key_lit ha hb) hap (hp.mem_iff.2 ((mem_ents 0 ps).2 ⟨k, s, h1, rfl⟩))
/-- An entry of a name is gone. -/
def delP (a b : Int) (ps : List (Option SlotT)) : List (Option SlotT) := ps.map (off (named a b))
theorem ents_del {a b : Int} {ps : List (Option SlotT)} (hg : Good ps) (ha : W64 a) (hb : W64 b) : (ents 0 ps).filter (fun x => !x.1.sameKey (keyL a b)) = ents 0 (delP a b ps) := by
  unfold delP
  rw [← dropH_slot _ 0, ents_dropH]
  refine List.filter_congr (fun x hx => ?_)
  obtain ⟨k, s, h1, rfl⟩ := (mem_ents 0 ps).1 hx
  have := hg.wf k s h1
  rw [same_key this.1 this.2 ha hb]
  rfl
theorem del_perm {a b : Int} {ps : List (Option SlotT)} {es : List (Lit × DataW HeldT)} (hp : es.Perm (ents 0 ps)) (hg : Good ps) (ha : W64 a) (hb : W64 b) : ∃ es', (DataW.map es).del (keyL a b) = .map es' ∧ es'.Perm (ents 0 (delP a b ps)) :=
  ⟨_, rfl, by rw [← ents_del hg ha hb]; exact hp.filter _⟩
theorem Good.del {ps : List (Option SlotT)} (h : Good ps) (a b : Int) : Good (delP a b ps) := by
  unfold delP
  rw [← dropH_slot _ 0]
  exact h.drop _ _
theorem ents_set (s : SlotT) : ∀ (k i : Nat) (ps : List (Option SlotT)), i < ps.length → (ents k (ps.set i (some s))).Perm ((keyL s.1 s.2.1, .held (((k + i : Nat) : Int), s)) :: ents k (ps.set i none))
  | k, i, [], h => by simp at h
  | k, 0, o :: r, _ => by simp [ents]
  | k, i + 1, none :: r, h => by
    simp only [List.set_cons_succ, ents]
    have := ents_set s (k + 1) i r (by simpa using h)
    rwa [show k + 1 + i = k + (i + 1) by omega] at this
  | k, i + 1, some t :: r, h => by
    simp only [List.set_cons_succ, ents]
    have := ents_set s (k + 1) i r (by simpa using h)
    rw [show k + 1 + i = k + (i + 1) by omega] at this
    exact (this.cons _).trans (List.Perm.swap _ _ _)
theorem put_perm {s : SlotT} {i : Nat} {ps : List (Option SlotT)} {es : List (Lit × DataW HeldT)} (hp : es.Perm (ents 0 ps)) (hg : Good ps) (ha : W64 s.1) (hb : W64 s.2.1) (hi : i < ps.length) (ho : delP s.1 s.2.1 ps = ps.set i none) :
    ∃ es', (DataW.map es).put (keyL s.1 s.2.1) (.held ((i : Int), s)) = .map es' ∧ es'.Perm (ents 0 (ps.set i (some s))) := by
  refine ⟨_, rfl, ?_⟩
  have h1 := ents_set s 0 i ps hi
  rw [← ho, ← ents_del hg ha hb, Nat.zero_add] at h1
  exact (insert_perm _ _).trans (((hp.filter _).cons _).trans h1.symm)
theorem Good.put {s : SlotT} {i : Nat} {ps : List (Option SlotT)} (h : Good ps) (ha : W64 s.1) (hb : W64 s.2.1) (ho : delP s.1 s.2.1 ps = ps.set i none) : Good (ps.set i (some s)) := by
  have none_named : ∀ (k : Nat) (t : SlotT), k ≠ i → ps[k]? = some (some t) → ¬ (s.1 = t.1 ∧ s.2.1 = t.2.1) := by
    rintro k t hk hkt ⟨e1, e2⟩
    have h1 : (ps.set i none)[k]? = some (some t) := by rw [List.getElem?_set_ne (Ne.symm hk)]; exact hkt
    rw [← ho] at h1
    unfold delP at h1
    rw [List.getElem?_map, hkt] at h1
    have : named s.1 s.2.1 t = true := named_iff.2 ⟨e1.symm, e2.symm⟩
    simp [off, this] at h1
  have one : ∀ (k : Nat) (t : SlotT), (ps.set i (some s))[k]? = some (some t) → (k = i ∧ t = s) ∨ (k ≠ i ∧ ps[k]? = some (some t)) := by
    intro k t e
    by_cases hk : k = i
    · subst hk
      left
      refine ⟨rfl, ?_⟩
      by_cases hl : k < ps.length
      · rw [List.getElem?_set_self hl] at e; simpa using e.symm
      · rw [List.getElem?_eq_none (by simpa using hl)] at e; cases e
    · rw [List.getElem?_set_ne (Ne.symm hk)] at e
      exact Or.inr ⟨hk, e⟩
  refine ⟨fun k t e => ?_, fun k j t u e e' h1 h2 => ?_⟩
  · rcases one k t e with ⟨_, rfl⟩ | ⟨_, e⟩
    · exact ⟨ha, hb⟩
    · exact h.wf k t e
  · rcases one k t e with ⟨k1, k2⟩ | ⟨hk, e1⟩
    · rcases one j u e' with ⟨j1, _⟩ | ⟨hj, e2⟩
      · rw [k1, j1]
      · exact absurd (by rw [← k2]; exact ⟨h1, h2⟩) (none_named j u hj e2)
    · rcases one j u e' with ⟨_, j2⟩ | ⟨_, e2⟩
      · exact absurd (by rw [← j2]; exact ⟨h1.symm, h2.symm⟩) (none_named k t hk e1)
      · exact h.one k j t u e1 e2 h1 h2
/-- An entry that is found is the only one of its name. -/
theorem del_found {a b : Int} {k : Nat} {s : SlotT} {ps : List (Option SlotT)} (h : Good ps) (hk : ps[k]? = some (some s)) (hn : named a b s = true) : delP a b ps = ps.set k none := by
  apply List.ext_getElem?
  intro j
  unfold delP
  rw [List.getElem?_map]
  by_cases hj : j = k
  · subst hj
    have hl : j < ps.length := (List.getElem?_eq_some_iff.1 hk).1
    rw [hk, List.getElem?_set_self hl]
    simp [off, hn]
  · rw [List.getElem?_set_ne (Ne.symm hj)]
    cases hp : ps[j]? with
    | none => rfl
    | some o =>
      cases o with
      | none => rfl
      | some t =>
        have : named a b t = false := by
          cases hb : named a b t
          · rfl
          · obtain ⟨e1, e2⟩ := named_iff.1 hb
            obtain ⟨f1, f2⟩ := named_iff.1 hn
            exact absurd (h.one j k t s hp hk (e1.trans f1.symm) (e2.trans f2.symm)) hj
        simp [off, this]
theorem del_none {a b : Int} {ps : List (Option SlotT)} (h : ∀ (k : Nat) (s : SlotT), ps[k]? = some (some s) → named a b s = false) : delP a b ps = ps := by
  apply List.ext_getElem?
  intro j
  unfold delP
  rw [List.getElem?_map]
  cases hp : ps[j]? with
  | none => rfl
  | some o =>
    cases o with
    | none => rfl
    | some t => simp [off, h j t hp]
theorem del_taken {a b : Int} {k : Nat} {ps : List (Option SlotT)} (h : findP a b 0 ps = none) : delP a b (ps.set k none) = (ps.set k none).set k none := by
  rw [List.set_set]
  refine del_none (fun j s hs => ?_)
  by_cases hj : j = k
  · subst hj
    by_cases hl : j < ps.length
    · rw [List.getElem?_set_self hl] at hs; simp at hs
    · rw [List.getElem?_eq_none (by simpa using hl)] at hs; cases hs
  · rw [List.getElem?_set_ne (Ne.symm hj)] at hs
    exact findP_none h j s hs
theorem ents_none : ∀ (i n : Nat), ents i (List.replicate n none) = []
  | _, 0 => rfl
  | i, n + 1 => by rw [List.replicate_succ]; exact ents_none (i + 1) n
theorem good_none (n : Nat) : Good (List.replicate n none) := by
  refine ⟨fun i s h => ?_, fun i j s t h => ?_⟩
  all_goals
    have := List.mem_of_getElem? h
    simp at this
/-- An entry is kept: where the next place is then, and what stands in the places. -/
def fillN (room next : Nat) (ps : List (Option SlotT)) (s : SlotT) : Nat := match findP s.1 s.2.1 0 ps with
  | some _ => next
  | none => (next + 1) % room
def fillP (next : Nat) (ps : List (Option SlotT)) (s : SlotT) : List (Option SlotT) := match findP s.1 s.2.1 0 ps with
  | some h => ps.set h.1.toNat (some s)
  | none => ps.set next (some s)
/-- The entries, in the order of their places. -/
def slots (ps : List (Option SlotT)) : List SlotT := ps.filterMap id
end Tl
end Go.Proofs.Ytcpadnedfnkieaa
