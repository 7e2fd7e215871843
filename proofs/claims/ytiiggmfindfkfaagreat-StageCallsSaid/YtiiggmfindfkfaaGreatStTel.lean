/-
  Plain: what the document's own space answers and leaves is what a call on a space answers and leaves. Conditions: none.
-/
import Derived.Test.YtiiggmfindfkfaaGreatStRdo
import Derived.Test.YtiiggmfindfkfaaGreatStInv
namespace Go.Proofs.YtiiggmfindfkfaaGreat
namespace St
open Ph En Wk
def pgO : Option Tp → PgT
  | none => (0, false, false, false)
  | some t => ((t.F : Int), true, t.W, t.X)
def fK : Fst → Int
  | .no => 0
  | .blk _ _ _ => 1
  | .tab _ _ => 2
/-- The document's space tells the same. -/
structure Tel (k : Nat) (A : Nat → Fst) (s : Rst) : Prop where
  fr : s.fr = (k : Int) - 1 - (tabs A : Nat)
  f : ∀ i, i < 64 → s.f i = fK (A i)
  q : ∀ p, p < 4096 → s.q p = pgO (told A p)
section
variable {n k r : Nat} {os : List Nat} {A : Nat → Fst} {s : Rst}
theorem told_at (A : Nat → Fst) {i j : Nat} (hj : j < 64) : told A (64 * i + j) = (A i).told j := by
  unfold told
  rw [show (64 * i + j) / 64 = i by omega, show (64 * i + j) % 64 = j by omega]
theorem told_set (A : Nat → Fst) (i : Nat) (f : Fst) (p : Nat) : told (setA A i f) p = if p / 64 = i then f.told (p % 64) else told A p := by
  unfold told setA
  split <;> rfl
theorem pgO_T (o : Option Tp) : (pgO o).2.1 = o.isSome := by cases o <;> rfl
theorem fK_2 (f : Fst) : fK f = 2 ↔ isT f = true := by cases f <;> simp [fK, isT]
theorem fK_1 (f : Fst) : fK f = 1 ↔ isB f = true := by cases f <;> simp [fK, isB]
theorem fK_0 (f : Fst) : fK f = 0 ↔ isNo f = true := by cases f <;> simp [fK, isNo]
theorem Tel.first (h : Tel k A s) {i : Nat} (hi : i < 64) {f : Fst} {s' : Rst} (h1 : s'.fr + (if isT f = true then 1 else 0) = s.fr + (if isT (A i) = true then 1 else 0)) (h2 : ∀ m, m < 64 → s'.f m = if m = i then fK f else s.f m) (h3 : ∀ p, p < 4096 → s'.q p = if p / 64 = i then pgO (f.told (p % 64)) else s.q p) : Tel k (setA A i f) s' := by
  refine ⟨?_, fun m hm => ?_, fun p hp => ?_⟩
  · have h4 := tabs_set A f hi
    have h5 := h.fr
    split at h1 <;> split at h1 <;> simp_all <;> omega
  · rw [h2 m hm]
    by_cases e : m = i
    · subst e; rw [if_pos rfl, setA_at]
    · rw [if_neg e, setA_ne _ _ e]; exact h.f m hm
  · rw [h3 p hp, told_set]
    split
    · rfl
    · exact h.q p hp
theorem spot_tel (hI : Inv n k r os A) (h : Tel k A s) : (Fr.spot 1 os = none → s.fr ≤ 0) ∧ ∀ t, Fr.spot 1 os = some t → ¬ s.fr ≤ 0 := by
  have e : s.fr = Fr.cn os 0 := by rw [h.fr, hI.c0]
  constructor
  · intro hn
    have h0 := spot1_no hn
    have : (os.count 0 : Nat) = 0 := by
      rw [List.count_eq_zero]
      intro hm
      obtain ⟨t, ht⟩ := List.getElem?_of_mem hm
      exact h0 t ht
    rw [e]
    unfold Fr.cn
    omega
  · intro t ht
    have h0 := spot1 ht
    have : 0 < os.count 0 := List.count_pos_iff.2 (List.mem_of_getElem? h0)
    rw [e]
    unfold Fr.cn
    omega
/-- A first index is given a table that tells the same. -/
theorem Tel.table (h : Tel k A s) {i t : Nat} (hi : i < 64) {pg : Pgs} (hn : isT (A i) = false) (hp : ∀ j, j < 64 → pgO ((Fst.tab t pg).told j) = pgO ((A i).told j)) : Tel k (setA A i (.tab t pg)) ⟨s.fr - 1, upd s.f i 2, s.q⟩ := by
  refine h.first hi ?_ (fun m _ => rfl) (fun p hp4 => ?_)
  · rw [hn]; simp [isT]
  · split
    · rename_i e
      rw [hp _ (by omega), h.q p hp4]
      unfold told
      rw [e]
    · rfl
theorem tabR_has (h : Tel k A s) {i : Nat} (hi : i < 64) (hT : isT (A i) = true) : tabR s i = some s := by
  unfold tabR
  rw [if_pos (by rw [h.f i hi]; exact (fK_2 _).2 hT)]
theorem tabR_new (h : Tel k A s) {i : Nat} (hi : i < 64) (hT : isT (A i) = false) (hf : ¬ s.fr ≤ 0) : tabR s i = some ⟨s.fr - 1, upd s.f i 2, s.q⟩ := by
  unfold tabR
  rw [if_neg (by rw [h.f i hi]; intro e; rw [(fK_2 _).1 e] at hT; cases hT), if_neg hf]
theorem tabR_full (h : Tel k A s) {i : Nat} (hi : i < 64) (hT : isT (A i) = false) (hf : s.fr ≤ 0) : tabR s i = none := by
  unfold tabR
  rw [if_neg (by rw [h.f i hi]; intro e; rw [(fK_2 _).1 e] at hT; cases hT), if_pos hf]
/-- A first index of a page that isn't told has a table, or is given one. -/
theorem laid_tel (hI : Inv n k r os A) (h : Tel k A s) {i : Nat} (hi : i < 64) (hb : isB (A i) = false) :
    (laidA os A i = none → tabR s i = none) ∧ ∀ os1 A1, laidA os A i = some (os1, A1) → ∃ s1, tabR s i = some s1 ∧ Tel k A1 s1 ∧ isT (A1 i) = true ∧ s1.q = s.q := by
  obtain ⟨p1, p2⟩ := spot_tel hI h
  cases e : A i with
  | blk w x F => rw [e] at hb; cases hb
  | tab t pg =>
    have hT : isT (A i) = true := by rw [e]; rfl
    unfold laidA
    rw [e]
    refine ⟨(fun x => by simp at x), fun os1 A1 x => ?_⟩
    simp only [Option.some.injEq, Prod.mk.injEq] at x
    obtain ⟨rfl, rfl⟩ := x
    exact ⟨s, tabR_has h hi hT, h, hT, rfl⟩
  | no =>
    have hT : isT (A i) = false := by rw [e]; rfl
    unfold laidA
    rw [e]
    simp only
    cases hs : Fr.spot 1 os with
    | none => exact ⟨fun _ => tabR_full h hi hT (p1 hs), (fun os1 A1 x => by cases x)⟩
    | some t =>
      refine ⟨(fun x => by cases x), fun os1 A1 x => ?_⟩
      simp only [Option.some.injEq, Prod.mk.injEq] at x
      obtain ⟨rfl, rfl⟩ := x
      exact ⟨_, tabR_new h hi hT (p2 t hs), h.table hi hT (fun j _ => by rw [e]; rfl), by rw [setA_at]; rfl, rfl⟩
/-- A first index of a page that is told has a table, or is given one. -/
theorem ready_tel (hI : Inv n k r os A) (h : Tel k A s) {i : Nat} (hi : i < 64) (hb : isNo (A i) = false) :
    (readyA os A i = none → tabR s i = none) ∧ ∀ os1 A1, readyA os A i = some (os1, A1) → ∃ s1, tabR s i = some s1 ∧ Tel k A1 s1 ∧ isT (A1 i) = true ∧ s1.q = s.q := by
  obtain ⟨p1, p2⟩ := spot_tel hI h
  cases e : A i with
  | no => rw [e] at hb; cases hb
  | tab t pg =>
    have hT : isT (A i) = true := by rw [e]; rfl
    unfold readyA
    rw [e]
    refine ⟨(fun x => by simp at x), fun os1 A1 x => ?_⟩
    simp only [Option.some.injEq, Prod.mk.injEq] at x
    obtain ⟨rfl, rfl⟩ := x
    exact ⟨s, tabR_has h hi hT, h, hT, rfl⟩
  | blk w x F =>
    have hT : isT (A i) = false := by rw [e]; rfl
    unfold readyA
    rw [e]
    simp only
    cases hs : Fr.spot 1 os with
    | none => exact ⟨fun _ => tabR_full h hi hT (p1 hs), (fun os1 A1 x => by cases x)⟩
    | some t =>
      refine ⟨(fun x => by cases x), fun os1 A1 x => ?_⟩
      simp only [Option.some.injEq, Prod.mk.injEq] at x
      obtain ⟨rfl, rfl⟩ := x
      exact ⟨_, tabR_new h hi hT (p2 t hs), h.table hi hT (fun j _ => by rw [e]; rfl), by rw [setA_at]; rfl, rfl⟩
def pgQ : Option (Bool × Bool × Nat) → PgT
  | none => (0, false, false, false)
  | some (w, e, F) => ((F : Int), true, w, e)
theorem tab_told (t : Nat) (pg : Pgs) (j : Nat) : pgO ((Fst.tab t pg).told j) = pgQ (pg j) := by
  cases h : pg j with
  | none => simp only [Fst.told, h]; rfl
  | some q => obtain ⟨w, e, F⟩ := q; simp only [Fst.told, h]; rfl
/-- A page is put. -/
theorem Tel.pg (h : Tel k A s) {p : Nat} (hp : p < 4096) (hT : isT (A (p / 64)) = true) (o : Option (Bool × Bool × Nat)) : Tel k (pgA A (p / 64) (p % 64) o) { s with q := upd s.q p (pgQ o) } ∧ ∃ t pg, A (p / 64) = .tab t pg ∧ pgA A (p / 64) (p % 64) o = setA A (p / 64) (.tab t (setP pg (p % 64) o)) := by
  cases e : A (p / 64) with
  | no => rw [e] at hT; cases hT
  | blk w x F => rw [e] at hT; cases hT
  | tab t pg =>
    have ea : pgA A (p / 64) (p % 64) o = setA A (p / 64) (.tab t (setP pg (p % 64) o)) := by unfold pgA; rw [e]
    refine ⟨?_, t, pg, rfl, ea⟩
    rw [ea]
    refine h.first (by omega) (by rw [e]; rfl) (fun m hm => ?_) (fun a ha => ?_)
    · split
      · rename_i hm'; rw [h.f m hm, hm', e]; rfl
      · rfl
    · show upd s.q p (pgQ o) a = _
      rw [tab_told]
      by_cases e1 : a = p
      · subst e1
        rw [upd_at, if_pos rfl, setP_at]
      · rw [upd_ne _ _ e1]
        split
        · rename_i e2
          rw [setP_ne _ _ (by omega), h.q a ha]
          unfold told
          rw [e2, e, tab_told]
        · rfl
theorem map_tel (hI : Inv n k r os A) (h : Tel k A s) (p f : Int) (w e : Bool) : (mapR n s p f w e).1 = (mapA n os A p f w e).1 ∧ Tel k (mapA n os A p f w e).2.2 (mapR n s p f w e).2 := by
  unfold mapR mapA
  by_cases h0 : inR 4096 p = false ∨ inR n f = false
  · rw [if_pos h0, if_pos h0]; exact ⟨rfl, h⟩
  · rw [if_neg h0, if_neg h0]
    have h1 : inR 4096 p = true := by cases x : inR 4096 p with | true => rfl | false => exact absurd (Or.inl x) h0
    have h2 : inR n f = true := by cases x : inR n f with | true => rfl | false => exact absurd (Or.inr x) h0
    obtain ⟨m, rfl, hm⟩ := inR_nat h1
    obtain ⟨g, rfl, hg⟩ := inR_nat h2
    simp only [Int.toNat_natCast]
    rw [h.q m hm, pgO_T]
    by_cases h3 : (told A m).isSome = true
    · rw [if_pos h3, if_pos h3]; exact ⟨rfl, h⟩
    · rw [if_neg h3, if_neg h3]
      have hb : isB (A (m / 64)) = false := by
        cases x : A (m / 64) with
        | blk a b F => exact absurd (by unfold told Fst.told; rw [x]; rfl) h3
        | no => rfl
        | tab t pg => rfl
      obtain ⟨q1, q2⟩ := laid_tel hI h (i := m / 64) (by omega) hb
      cases hl : laidA os A (m / 64) with
      | none => rw [q1 hl]; exact ⟨rfl, h⟩
      | some y =>
        obtain ⟨os1, A1⟩ := y
        obtain ⟨s1, e1, t1, T1, eq⟩ := q2 os1 A1 hl
        rw [e1]
        exact ⟨rfl, (t1.pg hm T1 (some (w, e, g))).1⟩
theorem run_tel (h : Tel k A s) (p f : Int) (w e : Bool) : (runR n s p f w e).1 = (runA n os A p f w e).1 ∧ Tel k (runA n os A p f w e).2.2 (runR n s p f w e).2 := by
  unfold runR runA
  by_cases h0 : inR 64 p = false ∨ inR n f = false ∨ inR n (f + 63) = false ∨ f % 64 ≠ 0
  · have h1 : inR 64 p = false ∨ inR n f = false ∨ f % 64 ≠ 0 ∨ (n : Int) < f + 64 := by
      rcases h0 with a | a | a | a
      · exact Or.inl a
      · exact Or.inr (Or.inl a)
      · cases hf : inR n f with
        | false => exact Or.inr (Or.inl rfl)
        | true =>
          have := inR_iff.1 hf
          have a' : ¬ (0 ≤ f + 63 ∧ f + 63 < n) := fun x => by rw [inR_iff.2 x] at a; cases a
          exact Or.inr (Or.inr (Or.inr (by omega)))
      · exact Or.inr (Or.inr (Or.inl a))
    rw [if_pos h0, if_pos h1]; exact ⟨rfl, h⟩
  · have h1 : ¬ (inR 64 p = false ∨ inR n f = false ∨ f % 64 ≠ 0 ∨ (n : Int) < f + 64) := by
      rintro (a | a | a | a)
      · exact h0 (Or.inl a)
      · exact h0 (Or.inr (Or.inl a))
      · exact h0 (Or.inr (Or.inr (Or.inr a)))
      · cases x : inR n (f + 63) with
        | false => exact h0 (Or.inr (Or.inr (Or.inl x)))
        | true => have := inR_iff.1 x; omega
    rw [if_neg h0, if_neg h1]
    have h2 : inR 64 p = true := by cases x : inR 64 p with | true => rfl | false => exact absurd (Or.inl x) h0
    have h3 : inR n f = true := by cases x : inR n f with | true => rfl | false => exact absurd (Or.inr (Or.inl x)) h0
    obtain ⟨i, rfl, hi⟩ := inR_nat h2
    obtain ⟨g, rfl, hg⟩ := inR_nat h3
    simp only [Int.toNat_natCast]
    rw [h.f i hi]
    by_cases h4 : fK (A i) = 0
    · have h5 := (fK_0 _).1 h4
      rw [if_neg (by simpa using h4), if_neg (by rw [h5]; simp)]
      have hT : isT (A i) = false := by cases x : A i with | no => rfl | blk a b F => rfl | tab t pg => rw [x] at h4; cases h4
      refine ⟨rfl, h.first hi (by rw [hT]; rfl) (fun m _ => rfl) (fun a ha => ?_)⟩
      show runQ s.q i g w e 64 a = _
      unfold runQ
      by_cases e1 : a / 64 = i
      · rw [if_pos (by omega), if_pos e1]
        show _ = (((g + a % 64 : Nat) : Int), true, w, e)
        congr 1
        omega
      · rw [if_neg (by omega), if_neg e1]
    · rw [if_pos (by simpa using h4), if_pos (by cases x : isNo (A i) with | false => rfl | true => exact absurd ((fK_0 _).2 x) h4)]
      exact ⟨rfl, h⟩
/-- None of a first index's pages is there just if its table is bare. -/
theorem lft_bare (h : Tel k A s) {i t : Nat} {pg : Pgs} (hi : i < 64) (e : A i = .tab t pg) : lft s.q i 64 = !bare (A i) := by
  have key : ∀ j, j < 64 → (s.q (64 * i + j)).2.1 = (pg j).isSome := fun j hj => by
    rw [h.q _ (by omega), told_at A hj, e, tab_told]
    cases pg j with
    | none => rfl
    | some q => obtain ⟨a, b, c⟩ := q; rfl
  rw [e]
  unfold lft bare
  rw [List.any_eq_not_all_not]
  congr 1
  rw [Bool.eq_iff_iff, List.all_eq_true, List.all_eq_true]
  constructor
  · intro hh j hj
    have := hh j hj
    rw [key j (List.mem_range.1 hj)] at this
    simpa using this
  · intro hh j hj
    have := hh j hj
    rw [key j (List.mem_range.1 hj)]
    simpa using this
theorem fin_tel (h : Tel k A s) {i t : Nat} {pg : Pgs} (hi : i < 64) (e : A i = .tab t pg) : Tel k (tidyA os A i).2 (fin s i) := by
  have hl := lft_bare h hi e
  unfold tidyA fin
  by_cases hb : bare (A i) = true
  case neg =>
    have hb' : bare (A i) = false := by simpa using hb
    rw [hb'] at hl
    rw [if_pos (show lft s.q i 64 = true from hl), if_neg hb]
    exact h
  case pos =>
    rw [hb] at hl
    rw [if_neg (show ¬ lft s.q i 64 = true by rw [hl]; simp), if_pos hb]
    unfold repA
    rw [e]
    simp only
    refine h.first hi (by rw [e]; simp [isT]) (fun m _ => rfl) (fun a ha => ?_)
    split
    · rename_i e1
      rw [h.q a ha]
      unfold told
      have hb2 : bare (.tab t pg) = true := by rw [← e]; exact hb
      rw [e1, e, tab_told, bare_iff.1 hb2 (a % 64) (by omega)]
      rfl
    · rfl
theorem told_no {p : Nat} (h : (told A p).isSome = true) : isNo (A (p / 64)) = false := by
  cases x : A (p / 64) with
  | no => unfold told Fst.told at h; rw [x] at h; cases h
  | blk a b F => rfl
  | tab t pg => rfl
theorem unm_tel (hI : Inv n k r os A) (h : Tel k A s) (p : Int) : (chgR s p (0, false, false, false)).1 = (unmA os A p).1 ∧ Tel k (unmA os A p).2.2 (chgR s p (0, false, false, false)).2 := by
  unfold chgR unmA
  by_cases h1 : inR 4096 p = false
  · rw [if_pos h1, if_pos h1]; exact ⟨rfl, h⟩
  · rw [if_neg h1, if_neg h1]
    obtain ⟨m, rfl, hm⟩ := inR_nat (m := 4096) (p := p) (by simpa using h1)
    simp only [Int.toNat_natCast]
    rw [h.q m hm, pgO_T]
    by_cases h3 : (told A m).isSome = false
    · rw [if_pos h3, if_pos h3]; exact ⟨rfl, h⟩
    · rw [if_neg h3, if_neg h3]
      obtain ⟨q1, q2⟩ := ready_tel hI h (i := m / 64) (by omega) (told_no (by cases hx : (told A m).isSome with | true => rfl | false => exact absurd hx h3))
      cases hl : readyA os A (m / 64) with
      | none => rw [q1 hl]; exact ⟨rfl, h⟩
      | some y =>
        obtain ⟨os1, A1⟩ := y
        obtain ⟨s1, e1, t1, T1, eq⟩ := q2 os1 A1 hl
        rw [e1]
        obtain ⟨t2, t, pg, e2, e3⟩ := t1.pg hm T1 none
        refine ⟨rfl, fin_tel t2 (by omega) (t := t) (pg := setP pg (m % 64) none) (by rw [e3, setA_at])⟩
theorem pro_tel (hI : Inv n k r os A) (h : Tel k A s) (p : Int) (w e : Bool) : (chgR s p (0, true, w, e)).1 = (proA os A p w e).1 ∧ Tel k (proA os A p w e).2.2 (chgR s p (0, true, w, e)).2 := by
  unfold chgR proA
  by_cases h1 : inR 4096 p = false
  · rw [if_pos h1, if_pos h1]; exact ⟨rfl, h⟩
  · rw [if_neg h1, if_neg h1]
    obtain ⟨m, rfl, hm⟩ := inR_nat (m := 4096) (p := p) (by simpa using h1)
    simp only [Int.toNat_natCast]
    rw [h.q m hm]
    cases hq : told A m with
    | none => exact ⟨rfl, h⟩
    | some q =>
      rw [if_neg (by simp [pgO])]
      obtain ⟨q1, q2⟩ := ready_tel hI h (i := m / 64) (by omega) (told_no (by rw [hq]; rfl))
      simp only
      cases hl : readyA os A (m / 64) with
      | none => rw [q1 hl]; exact ⟨rfl, h⟩
      | some y =>
        obtain ⟨os1, A1⟩ := y
        obtain ⟨s1, e1, t1, T1, eq⟩ := q2 os1 A1 hl
        rw [e1]
        obtain ⟨t2, t, pg, e2, e3⟩ := t1.pg hm T1 (some (w, e, q.F))
        have hfin : fin { s1 with q := upd s1.q m (pgQ (some (w, e, q.F))) } (m / 64) = { s1 with q := upd s1.q m (pgQ (some (w, e, q.F))) } := by
          unfold fin
          rw [if_pos]
          have hl2 := lft_bare t2 (i := m / 64) (t := t) (pg := setP pg (m % 64) (some (w, e, q.F))) (by omega) (by rw [e3, setA_at])
          rw [hl2, e3, setA_at]
          cases hb : bare (.tab t (setP pg (m % 64) (some (w, e, q.F)))) with
          | false => rfl
          | true =>
            have := bare_iff.1 hb (m % 64) (by omega)
            rw [setP_at] at this
            cases this
        refine ⟨rfl, ?_⟩
        show Tel k _ (fin { s1 with q := upd s1.q m (pgQ (some (w, e, q.F))) } (m / 64))
        rw [hfin]
        exact t2
theorem spl_tel (hI : Inv n k r os A) (h : Tel k A s) (p : Int) : (splR s p).1 = (splA os A p).1 ∧ Tel k (splA os A p).2.2 (splR s p).2 := by
  unfold splR splA
  by_cases h1 : inR 64 p = false
  · rw [if_pos h1, if_pos h1]; exact ⟨rfl, h⟩
  · rw [if_neg h1, if_neg h1]
    obtain ⟨i, rfl, hi⟩ := inR_nat (m := 64) (p := p) (by simpa using h1)
    simp only [Int.toNat_natCast]
    rw [h.f i hi]
    by_cases h3 : fK (A i) = 1
    · have h4 := (fK_1 _).1 h3
      rw [if_neg (by simpa using h3), if_neg (by rw [h4]; simp)]
      obtain ⟨q1, q2⟩ := ready_tel hI h hi (by cases x : A i with | no => rw [x] at h4; cases h4 | blk a b F => rfl | tab t pg => rfl)
      cases hl : readyA os A i with
      | none => rw [q1 hl]; exact ⟨rfl, h⟩
      | some y =>
        obtain ⟨os1, A1⟩ := y
        obtain ⟨s1, e1, t1, T1, eq⟩ := q2 os1 A1 hl
        rw [e1]
        exact ⟨rfl, t1⟩
    · rw [if_pos (by simpa using h3), if_pos (by cases x : isB (A i) with | false => rfl | true => exact absurd ((fK_1 _).2 x) h3)]
      exact ⟨rfl, h⟩
theorem pgQ_inj {a b : Option (Bool × Bool × Nat)} (h : pgQ a = pgQ b) : a = b := by
  cases a with
  | none =>
    cases b with
    | none => rfl
    | some q => obtain ⟨w, e, F⟩ := q; simp [pgQ] at h
  | some q =>
    obtain ⟨w, e, F⟩ := q
    cases b with
    | none => simp [pgQ] at h
    | some q' =>
      obtain ⟨w', e', F'⟩ := q'
      simp only [pgQ, Prod.mk.injEq] at h
      obtain ⟨h1, _, h2, h3⟩ := h
      rw [h2, h3, show F = F' by omega]
theorem mer_tel (h : Tel k A s) (p : Int) : (merR s p).1 = (merA os A p).1 ∧ Tel k (merA os A p).2.2 (merR s p).2 := by
  unfold merR merA
  by_cases h1 : inR 64 p = false
  · rw [if_pos h1, if_pos h1]; exact ⟨rfl, h⟩
  · rw [if_neg h1, if_neg h1]
    obtain ⟨i, rfl, hi⟩ := inR_nat (m := 64) (p := p) (by simpa using h1)
    simp only [Int.toNat_natCast]
    rw [h.f i hi]
    cases e : A i with
    | no => exact ⟨rfl, h⟩
    | blk w x F => exact ⟨rfl, h⟩
    | tab t pg =>
      rw [if_neg (by simp [fK])]
      simp only
      have key : ∀ j, j < 64 → s.q (64 * i + j) = pgQ (pg j) := fun j hj => by rw [h.q _ (by omega), told_at A hj, e, tab_told]
      have k0 : s.q (64 * i) = pgQ (pg 0) := by have := key 0 (by omega); rwa [Nat.add_zero] at this
      cases hm : mrg pg with
      | none =>
        rw [if_neg]
        · exact ⟨rfl, h⟩
        · rintro ⟨a, b, c⟩
          rw [k0] at a b
          rcases mrg_none hm with x | ⟨w, x, F, e0, y⟩
          · rw [x] at a; cases a
          · rw [e0] at b
            have bF : F % 64 = 0 := by simp only [pgQ] at b; omega
            rcases y with y | ⟨_, j, hj, y⟩
            · exact y bF
            · unfold mok at c
              rw [List.all_eq_true] at c
              have := c j (List.mem_range.2 hj)
              rw [decide_eq_true_eq, key j hj, k0, e0] at this
              refine y (pgQ_inj (this.trans ?_))
              simp [pgQ]
      | some y =>
        obtain ⟨w, x, F⟩ := y
        obtain ⟨m1, m2⟩ := mrg_some hm
        rw [if_pos]
        · unfold repA
          rw [e]
          simp only
          refine ⟨by trivial, h.first hi (by rw [e]; simp [isT]) (fun m _ => rfl) (fun a ha => ?_)⟩
          split
          · rename_i e1
            have : a = 64 * i + a % 64 := by omega
            rw [this, key _ (by omega), m2 _ (by omega), show (64 * i + a % 64) % 64 = a % 64 by omega]
            simp [pgQ, Fst.told, pgO]
          · rfl
        · rw [k0, m2 0 (by omega)]
          refine ⟨by first | rfl | trivial, by simp only [pgQ]; omega, ?_⟩
          unfold mok
          rw [List.all_eq_true]
          intro j hj
          have hj := List.mem_range.1 hj
          rw [decide_eq_true_eq, key j hj, k0, m2 j hj, m2 0 (by omega)]
          simp [pgQ]
theorem op_tel (hI : Inv n k r os A) (h : Tel k A s) (c : Cq) : (opR n s c).1 = (opA n os A c).1 ∧ Tel k (opA n os A c).2.2 (opR n s c).2 := by
  unfold opR opA
  split
  · exact map_tel hI h _ _ _ _
  · split
    · exact run_tel h _ _ _ _
    · split
      · exact unm_tel hI h _
      · split
        · exact pro_tel hI h _ _ _
        · split
          · exact spl_tel hI h _
          · exact mer_tel h _
theorem tel_new (k : Nat) : Tel k (fun _ => Fst.no) (newR ((k : Int) - 1)) := by
  refine ⟨?_, fun _ _ => rfl, fun _ _ => rfl⟩
  have : tabs (fun _ => Fst.no) = 0 := by
    unfold tabs cntN
    simp [isT]
  rw [this]
  show (k : Int) - 1 = _
  omega
end
end St
end Go.Proofs.YtiiggmfindfkfaaGreat
