/-
  Plain: each call on a space keeps what tells it; what it has done is what its log says. Conditions: none.
-/
import Derived.Test.YtiiggmfindfkfaaGreatStStep
namespace Go.Proofs.YtiiggmfindfkfaaGreat
namespace St
open Ph En Wk
section
variable {n vm : Nat} {x x1 : Pl} {A A1 A2 : Nat → Fst} {tk gv : Option Nat}
theorem Did.refl (hl : x.log = []) : Did n vm x x A A none none :=
  ⟨fun _ h => (by cases h), fun _ h => (by cases h), From.nil hl, rfl, fun _ _ _ _ => rfl, fun i t pg hi h => ⟨Or.inr ⟨i, pg, hi, h⟩, by simp⟩, rfl, rfl⟩
theorem Did.took (hl : x.log = []) {t : Nat} (ht : x.os[t]? = some 0) : Did n vm x (x.took t) A A (some t) none :=
  ⟨fun s h => by injection h with h; subst h; exact ht, fun _ h => (by cases h), From.took hl t, rfl, fun j _ _ h => fil_off _ (fun e => h (by rw [e])), fun i s pg hi h => ⟨Or.inr ⟨i, pg, hi, h⟩, by simp⟩, rfl, rfl⟩
/-- One more change of an entry. -/
theorem Did.chg (h : Did n vm x x1 A A1 tk gv) {t j : Nat} {y : Int} (ht : t = x.root ∨ tk = some t ∨ ∃ i pg, i < 64 ∧ A1 i = .tab t pg) (htn : t < n) (hj : j < 64) (hy : W32 y)
    (hA : ∀ i s pg, i < 64 → A2 i = .tab s pg → (∃ i' pg', i' < 64 ∧ A1 i' = .tab s pg') ∨ (tk = some s ∧ gv ≠ some s)) : Did n vm x (x1.chg n vm (256 * t + 4 * j) y) A A2 tk gv := by
  refine ⟨h.free, h.mine, h.frm.chg htn hj hy, by rw [Pl.chg_os]; exact h.os, fun k h1 h2 h3 => ?_, fun i s pg hi e => ?_, by rw [Pl.chg_next]; exact h.next, by rw [Pl.chg_root]; exact h.root⟩
  · rw [chg_off y hj (t := t)]
    · exact h.far k h1 h2 h3
    · rintro rfl
      rcases ht with e | e | ⟨i, pg, hi, e⟩
      · exact h1 e
      · exact h3 e
      · rcases (h.tabs i _ pg hi e).1 with e | ⟨i', pg', hi', e'⟩
        · exact h3 e
        · exact h2 i' _ pg' hi' e' rfl
  · rcases hA i s pg hi e with ⟨i', pg', hi', e'⟩ | ⟨e1, e2⟩
    · exact h.tabs i' s pg' hi' e'
    · exact ⟨Or.inl e1, e2⟩
/-- A frame is given back. -/
theorem Did.gave (h : Did n vm x x1 A A1 tk none) {g : Nat} (hg : ∃ i pg, i < 64 ∧ A i = .tab g pg) (hA : ∀ i s pg, i < 64 → A2 i = .tab s pg → s ≠ g ∧ ∃ i' pg', i' < 64 ∧ A1 i' = .tab s pg') : Did n vm x (x1.gave g) A A2 tk (some g) := by
  refine ⟨h.free, fun g' e => by injection e with e; subst e; exact hg, ⟨h.frm.z, h.frm.ch, h.frm.ps⟩, ?_, h.far, fun i s pg hi e => ?_, h.next, h.root⟩
  · show x1.os.set g 0 = _
    rw [h.os]; rfl
  · obtain ⟨ne, i', pg', hi', e'⟩ := hA i s pg hi e
    exact ⟨(h.tabs i' s pg' hi' e').1, fun e => ne (by injection e with e; exact e.symm)⟩
theorem bup_did (hR : Rep n x A) (hl : x.log = []) {i t : Nat} {w e : Bool} {F : Nat} (hi : i < 64) (ht : x.os[t]? = some 0) :
    Did n vm x (bup n vm x i t w e F) A (setA A i (.tab t (blkPg w e F))) (some t) none := by
  obtain ⟨_, htn, _, _, _⟩ := hR.took ht
  have go : ∀ k, k ≤ 64 → Did n vm x (bupN n vm (x.took t) t w e F k) A A (some t) none := by
    intro k
    induction k with
    | zero => exact fun _ => Did.took hl ht
    | succ k ih => exact fun hk => (ih (by omega)).chg (Or.inr (Or.inl rfl)) htn (by omega) (w32_pg _) (fun i s pg hi e => Or.inl ⟨i, pg, hi, e⟩)
  have := (go 64 (Nat.le_refl _)).chg (A2 := setA A i (.tab t (blkPg w e F))) (t := x.root) (j := i) (Or.inl rfl) hR.rt hi (w32_W (.tab t (blkPg w e F))) (fun k s pg hk ek => by
    by_cases a : k = i
    · rw [a, setA_at] at ek
      injection ek with e1 e2
      exact Or.inr ⟨by rw [e1], by simp⟩
    · rw [setA_ne _ _ a] at ek
      exact Or.inl ⟨k, pg, hk, ek⟩)
  exact this
/-- A table for a page that is told. -/
theorem ready_some (hR : Rep n x A) (hl : x.log = []) {p : Nat} {q : Tp} (hp : p < 4096) (hT : told A p = some q) (hr : ready n vm x A (p / 64) = some (x1, A1)) :
    Rep n x1 A1 ∧ (∃ t pg, A1 (p / 64) = .tab t pg ∧ pg (p % 64) = some (q.W, q.X, q.F)) ∧ x1.log.length ≤ 195 ∧ ∃ tk, Did n vm x x1 A A1 tk none := by
  have hi : p / 64 < 64 := by omega
  unfold ready at hr
  unfold told at hT
  cases e : A (p / 64) with
  | no => rw [e] at hT; cases hT
  | tab t pg =>
    rw [e] at hr hT
    simp only [Option.some.injEq, Prod.mk.injEq] at hr
    obtain ⟨rfl, rfl⟩ := hr
    refine ⟨hR, ⟨t, pg, e, ?_⟩, by rw [hl]; simp, none, Did.refl hl⟩
    unfold Fst.told at hT
    split at hT
    · rename_i he; cases he
    · rename_i he; cases he
    · rename_i he
      injection he with h1 h2
      subst h1 h2
      split at hT
      · cases hT
      · rename_i hg
        injection hT with hT
        subst hT
        exact hg
  | blk w b F =>
    rw [e] at hr hT
    simp only at hr
    cases hs : Fr.spot 1 x.os with
    | none => rw [hs] at hr; cases hr
    | some t =>
      rw [hs] at hr
      simp only [Option.some.injEq, Prod.mk.injEq] at hr
      obtain ⟨rfl, rfl⟩ := hr
      have ht := spot1 hs
      injection hT with hT
      subst hT
      refine ⟨(bup_rep hR hl hi e ht).1, ⟨t, _, setA_at _ _ _, rfl⟩, ?_, some t, bup_did hR hl hi ht⟩
      have := bup_len n vm x (p / 64) t w b F
      rw [hl] at this
      simpa using this
theorem ready_none {i : Nat} (hr : ready n vm x A i = none) : ∃ w e F, A i = .blk w e F ∧ Fr.spot 1 x.os = none := by
  unfold ready at hr
  split at hr
  · rename_i w e F h
    split at hr
    · rename_i hs; exact ⟨w, e, F, h, hs⟩
    · cases hr
  · cases hr
/-- What pgP does to what is told. -/
theorem pgP_at {i j t : Nat} {pg : Pgs} {o : Option (Bool × Bool × Nat)} (h : A i = .tab t pg) : pgP n vm x A i j o = (x.chg n vm (256 * t + 4 * j) (pgW o), setA A i (.tab t (setP pg j o))) := by unfold pgP; rw [h]
theorem repP_at {i t : Nat} {pg : Pgs} {f : Fst} (h : A i = .tab t pg) : repP n vm x A i f = ((x.chg n vm (256 * x.root + 4 * i) f.W).gave t, setA A i f) := by unfold repP; rw [h]
theorem setTab {i : Nat} {t : Nat} {pg pg' : Pgs} (h : A i = .tab t pg) : ∀ k s p, k < 64 → setA A i (.tab t pg') k = .tab s p → ∃ k' p', k' < 64 ∧ A k' = .tab s p' := by
  intro k s p hk e
  by_cases a : k = i
  · rw [a, setA_at] at e
    injection e with e1 e2
    subst e1
    exact ⟨k, pg, hk, by rw [a]; exact h⟩
  · rw [setA_ne _ _ a] at e
    exact ⟨k, p, hk, e⟩
theorem pg_did (h : Did n vm x x1 A A1 tk gv) (hR : Rep n x1 A1) {i j t : Nat} {pg : Pgs} {o : Option (Bool × Bool × Nat)} (hi : i < 64) (hj : j < 64) (hA : A1 i = .tab t pg) (ho : PgOK n o) :
    Rep n (x1.chg n vm (256 * t + 4 * j) (pgW o)) (setA A1 i (.tab t (setP pg j o))) ∧ Did n vm x (x1.chg n vm (256 * t + 4 * j) (pgW o)) A (setA A1 i (.tab t (setP pg j o))) tk gv :=
  ⟨hR.chgPg hi hA hj ho, h.chg (Or.inr (Or.inr ⟨i, pg, hi, hA⟩)) (hR.tabAt hi hA).1 hj (w32_pg o) (fun k s p hk e => Or.inl (setTab hA k s p hk e))⟩
/-- A first index's table is replaced by what names none. -/
theorem rep_did (h : Did n vm x x1 A A1 tk none) (hR : Rep n x1 A1) {i t : Nat} {pg : Pgs} {f : Fst} (hi : i < 64) (hA : A1 i = .tab t pg) (hA0 : ∃ k p, k < 64 ∧ A k = .tab t p) (hf : FstOK n x1 f) (hn : isT f = false) :
    Rep n ((x1.chg n vm (256 * x1.root + 4 * i) f.W).gave t) (setA A1 i f) ∧ Did n vm x ((x1.chg n vm (256 * x1.root + 4 * i) f.W).gave t) A (setA A1 i f) tk (some t) := by
  have nt : ∀ s p, f ≠ .tab s p := fun s p e => by rw [e] at hn; cases hn
  obtain ⟨htn, _, htr, _⟩ := hR.tabAt hi hA
  have nT : NoTab (setA A1 i f) t := fun k hk p e => by
    by_cases a : k = i
    · rw [a, setA_at] at e; exact nt _ _ e
    · rw [setA_ne _ _ a] at e
      exact a (hR.one k i t p pg hk hi e hA)
  have r1 := hR.chgRoot (vm := vm) (f := f) hi hf (fun s p e => absurd e (nt s p))
  have d1 := h.chg (A2 := setA A1 i f) (t := x1.root) (j := i) (Or.inl h.root) hR.rt hi (w32_W f) (fun k s p hk e => by
    by_cases a : k = i
    · rw [a, setA_at] at e; exact absurd e (nt _ _)
    · rw [setA_ne _ _ a] at e; exact Or.inl ⟨k, p, hk, e⟩)
  refine ⟨r1.gave (by rw [Pl.chg_root]; exact htr) nT, d1.gave hA0 (fun k s p hk e => ⟨?_, k, p, hk, e⟩)⟩
  rintro rfl
  exact nT k hk p e
theorem bare_iff {t : Nat} {pg : Pgs} : bare (.tab t pg) = true ↔ noPg pg 64 := by
  unfold bare noPg
  simp only [List.all_eq_true, List.mem_range]
  constructor
  · intro h j hj
    have := h j hj
    simpa using this
  · intro h j hj
    rw [h j hj]; rfl
/-- What a call does is kept, and told by its log. -/
def Good (n vm : Nat) (x : Pl) (A : Nat → Fst) (r : Res) : Prop := (r.k ≠ 0 → r.x = x ∧ r.A = A) ∧ Rep n r.x r.A ∧ ∃ tk gv, Did n vm x r.x A r.A tk gv
theorem good_no (hR : Rep n x A) (hl : x.log = []) (k : Int) : Good n vm x A ⟨k, x, A⟩ := ⟨fun _ => ⟨rfl, rfl⟩, hR, none, none, Did.refl hl⟩
theorem inR_iff {m : Nat} {p : Int} : inR m p = true ↔ 0 ≤ p ∧ p < m := by unfold inR; simp
theorem inR_nat {m : Nat} {p : Int} (h : inR m p = true) : ∃ k : Nat, p = k ∧ k < m := by
  have := inR_iff.1 h
  exact ⟨p.toNat, by omega, by omega⟩
theorem laid_some (hR : Rep n x A) (hl : x.log = []) {p : Nat} (hp : p < 4096) (hT : told A p = none) (hr : laid n vm x A (p / 64) = some (x1, A1)) :
    Rep n x1 A1 ∧ (∃ t pg, A1 (p / 64) = .tab t pg ∧ pg (p % 64) = none) ∧ x1.log.length ≤ 3 ∧ ∃ tk, Did n vm x x1 A A1 tk none := by
  have hi : p / 64 < 64 := by omega
  unfold laid at hr
  unfold told at hT
  cases e : A (p / 64) with
  | blk w b F => rw [e] at hT; cases hT
  | tab t pg =>
    rw [e] at hr hT
    simp only [Option.some.injEq, Prod.mk.injEq] at hr
    obtain ⟨rfl, rfl⟩ := hr
    refine ⟨hR, ⟨t, pg, e, ?_⟩, by rw [hl]; simp, none, Did.refl hl⟩
    unfold Fst.told at hT
    split at hT
    · rename_i he; cases he
    · rename_i he; cases he
    · rename_i he
      injection he with h1 h2
      subst h1 h2
      split at hT
      · rename_i hg; exact hg
      · cases hT
  | no =>
    rw [e] at hr
    simp only at hr
    cases hs : Fr.spot 1 x.os with
    | none => rw [hs] at hr; cases hr
    | some t =>
      rw [hs] at hr
      simp only [Option.some.injEq, Prod.mk.injEq] at hr
      obtain ⟨rfl, rfl⟩ := hr
      have ht := spot1 hs
      obtain ⟨r1, htn, htr, hn, h0⟩ := hR.took ht
      have er : (x.took t).root = x.root := rfl
      refine ⟨?_, ⟨t, _, setA_at _ _ _, rfl⟩, ?_, some t, ?_⟩
      · have := r1.chgRoot (vm := vm) (f := .tab t (fun _ => none)) hi ⟨htn, ?_, htr, fun j hj => ⟨h0 j hj, pgOK_none n⟩⟩ (fun s pg' ef k hk hne pg2 => ?_)
        · exact this
        · show (x.os.set t 1)[t]? = some 1
          exact List.getElem?_set_self (by rw [hR.len]; exact htn)
        · injection ef with e1 e2
          subst e1
          exact hn k hk pg2
      · have := Pl.chg_len n vm (x.took t) (256 * x.root + 4 * (p / 64)) (Fst.tab t (fun _ => none)).W
        have h3 : (x.took t).log.length = 0 := by show x.log.length = 0; rw [hl]; rfl
        omega
      · exact (Did.took hl ht).chg (t := x.root) (j := p / 64) (Or.inl rfl) hR.rt hi (w32_W _) (fun k s pg hk ek => by
          by_cases a : k = p / 64
          · rw [a, setA_at] at ek
            injection ek with e1 e2
            exact Or.inr ⟨by rw [e1], by simp⟩
          · rw [setA_ne _ _ a] at ek
            exact Or.inl ⟨k, pg, hk, ek⟩)
theorem told_F (hR : Rep n x A) {p : Nat} {q : Tp} (hp : p < 4096) (hT : told A p = some q) : q.F < n := by
  have hi : p / 64 < 64 := by omega
  have ok := hR.ok _ hi
  unfold told Fst.told at hT
  split at hT
  · cases hT
  · rename_i w e F h
    rw [h] at ok
    injection hT with hT
    subst hT
    have := ok.2
    show F + p % 64 < n
    omega
  · rename_i t pg h
    split at hT
    · cases hT
    · rename_i w e F hg
      injection hT with hT
      subst hT
      exact (hR.tabAt hi h).2.2.2 _ (by omega) |>.2 _ _ _ hg
theorem map_good (hR : Rep n x A) (hl : x.log = []) (p f : Int) (w e : Bool) : Good n vm x A (mapP n vm x A p f w e) := by
  unfold mapP
  split
  · exact good_no hR hl _
  · rename_i hr
    have hr1 : inR 4096 p = true := by cases h : inR 4096 p with | true => rfl | false => exact absurd (Or.inl h) hr
    have hr2 : inR n f = true := by cases h : inR n f with | true => rfl | false => exact absurd (Or.inr h) hr
    obtain ⟨k, rfl, hk⟩ := inR_nat hr1
    obtain ⟨g, rfl, hg⟩ := inR_nat hr2
    rw [Int.toNat_natCast, Int.toNat_natCast]
    split
    · exact good_no hR hl _
    · rename_i hT
      have hT : told A k = none := by simpa using hT
      cases hL : laid n vm x A (k / 64) with
      | none => exact good_no hR hl _
      | some q =>
        obtain ⟨x1, A1⟩ := q
        obtain ⟨r1, ⟨t, pg, e1, e2⟩, _, tk, d1⟩ := laid_some hR hl hk hT hL
        simp only
        rw [pgP_at e1]
        obtain ⟨a, b⟩ := pg_did d1 r1 (by omega) (Nat.mod_lt k (by omega)) e1 (o := some (w, e, g)) (pgOK_some hg)
        exact ⟨fun h => absurd rfl h, a, tk, none, b⟩
theorem run_good (hR : Rep n x A) (hl : x.log = []) (i f : Int) (w e : Bool) : Good n vm x A (runM n vm x A i f w e) := by
  unfold runM
  split
  · exact good_no hR hl _
  · rename_i hr
    have hr1 : inR 64 i = true := by cases h : inR 64 i with | true => rfl | false => exact absurd (Or.inl h) hr
    have hr2 : inR n f = true := by cases h : inR n f with | true => rfl | false => exact absurd (Or.inr (Or.inl h)) hr
    have hr3 : inR n (f + 63) = true := by cases h : inR n (f + 63) with | true => rfl | false => exact absurd (Or.inr (Or.inr (Or.inl h))) hr
    have hr4 : f % 64 = 0 := by
      by_cases h : f % 64 = 0
      · exact h
      · exact absurd (Or.inr (Or.inr (Or.inr h))) hr
    obtain ⟨k, rfl, hk⟩ := inR_nat hr1
    obtain ⟨g, rfl, hg⟩ := inR_nat hr2
    have h3 := (inR_iff.1 hr3).2
    rw [Int.toNat_natCast, Int.toNat_natCast]
    split
    · exact good_no hR hl _
    · have ok : FstOK n x (.blk w e g) := ⟨by omega, by omega⟩
      refine ⟨fun h => absurd rfl h, hR.chgRoot hk ok (fun t pg e => by cases e), none, none, ?_⟩
      exact (Did.refl hl).chg (t := x.root) (j := k) (Or.inl rfl) hR.rt hk (w32_W _) (fun j s pg hj ek => by
        change setA A k (.blk w e g) j = _ at ek
        by_cases a : j = k
        · rw [a, setA_at] at ek; cases ek
        · rw [setA_ne _ _ a] at ek
          exact Or.inl ⟨j, pg, hj, ek⟩)
theorem unm_good (hR : Rep n x A) (hl : x.log = []) (p : Int) : Good n vm x A (unmP n vm x A p) := by
  unfold unmP
  split
  · exact good_no hR hl _
  · rename_i hr
    have hr1 : inR 4096 p = true := by simpa using hr
    obtain ⟨k, rfl, hk⟩ := inR_nat hr1
    rw [Int.toNat_natCast]
    split
    · exact good_no hR hl _
    · rename_i hT
      cases hT' : told A k with
      | none => rw [hT'] at hT; exact absurd rfl hT
      | some q =>
        cases hL : ready n vm x A (k / 64) with
        | none => exact good_no hR hl _
        | some y =>
          obtain ⟨x1, A1⟩ := y
          obtain ⟨r1, ⟨t, pg, e1, e2⟩, _, tk, d1⟩ := ready_some hR hl hk hT' hL
          have hi : k / 64 < 64 := by omega
          simp only
          rw [pgP_at e1]
          obtain ⟨a, b⟩ := pg_did d1 r1 hi (Nat.mod_lt k (by omega)) e1 (o := none) (pgOK_none n)
          unfold tidy
          simp only [setA_at]
          by_cases hb : bare (.tab t (setP pg (k % 64) none)) = true
          · rw [if_pos hb, repP_at (setA_at _ _ _)]
            have hA0 : ∃ k' p, k' < 64 ∧ A k' = .tab t p := by
              unfold ready at hL
              cases e : A (k / 64) with
              | no =>
                unfold told at hT'
                rw [e] at hT'
                cases hT'
              | tab s pg0 =>
                rw [e] at hL
                simp only [Option.some.injEq, Prod.mk.injEq] at hL
                rw [← hL.2, e] at e1
                injection e1 with e1 _
                subst e1
                exact ⟨_, pg0, hi, e⟩
              | blk w b F =>
                exfalso
                rw [e] at hL
                simp only at hL
                cases hs : Fr.spot 1 x.os with
                | none => rw [hs] at hL; cases hL
                | some s =>
                  rw [hs] at hL
                  simp only [Option.some.injEq, Prod.mk.injEq] at hL
                  rw [← hL.2, setA_at] at e1
                  injection e1 with e1 e3
                  have hb := bare_iff.1 hb
                  have := hb (if k % 64 = 0 then 1 else 0) (by split <;> omega)
                  rw [setP_ne _ _ (by split <;> omega), ← e3] at this
                  cases this
            obtain ⟨c, d⟩ := rep_did (f := .no) b a hi (setA_at _ _ _) hA0 trivial rfl
            exact ⟨fun h => absurd rfl h, c, tk, some t, d⟩
          · rw [if_neg hb]
            exact ⟨fun h => absurd rfl h, a, tk, none, b⟩
theorem pro_good (hR : Rep n x A) (hl : x.log = []) (p : Int) (w e : Bool) : Good n vm x A (proP n vm x A p w e) := by
  unfold proP
  split
  · exact good_no hR hl _
  · rename_i hr
    have hr1 : inR 4096 p = true := by simpa using hr
    obtain ⟨k, rfl, hk⟩ := inR_nat hr1
    rw [Int.toNat_natCast]
    cases hT : told A k with
    | none => exact good_no hR hl _
    | some q =>
      simp only
      cases hL : ready n vm x A (k / 64) with
      | none => exact good_no hR hl _
      | some y =>
        obtain ⟨x1, A1⟩ := y
        obtain ⟨r1, ⟨t, pg, e1, e2⟩, _, tk, d1⟩ := ready_some hR hl hk hT hL
        simp only
        rw [pgP_at e1]
        obtain ⟨a, b⟩ := pg_did d1 r1 (by omega) (Nat.mod_lt k (by omega)) e1 (o := some (w, e, q.F)) (pgOK_some (told_F hR hk hT))
        exact ⟨fun h => absurd rfl h, a, tk, none, b⟩
theorem spl_good (hR : Rep n x A) (hl : x.log = []) (i : Int) : Good n vm x A (splP n vm x A i) := by
  unfold splP
  split
  · exact good_no hR hl _
  · rename_i hr
    have hr1 : inR 64 i = true := by simpa using hr
    obtain ⟨k, rfl, hk⟩ := inR_nat hr1
    rw [Int.toNat_natCast]
    split
    · exact good_no hR hl _
    · unfold ready
      cases e : A k with
      | no => exact good_no hR hl _
      | tab t pg => exact good_no hR hl _
      | blk w b F =>
        simp only
        cases hs : Fr.spot 1 x.os with
        | none => exact good_no hR hl _
        | some t =>
          have ht := spot1 hs
          exact ⟨fun h => absurd rfl h, (bup_rep hR hl hk e ht).1, some t, none, bup_did hR hl hk ht⟩
theorem mer_good (hR : Rep n x A) (hl : x.log = []) (i : Int) : Good n vm x A (merP n vm x A i) := by
  unfold merP
  split
  · exact good_no hR hl _
  · rename_i hr
    have hr1 : inR 64 i = true := by simpa using hr
    obtain ⟨k, rfl, hk⟩ := inR_nat hr1
    rw [Int.toNat_natCast]
    cases e : A k with
    | no => exact good_no hR hl _
    | blk w b F => exact good_no hR hl _
    | tab t pg =>
      simp only
      cases hm : mrg pg with
      | none => exact good_no hR hl _
      | some y =>
        obtain ⟨w, b, F⟩ := y
        obtain ⟨h0, h1⟩ := mrg_some hm
        simp only
        rw [repP_at e]
        have hw := (hR.tabAt hk e).2.2.2
        have hF : F + 63 < n := (hw 63 (by omega)).2 _ _ _ (h1 63 (by omega))
        obtain ⟨c, d⟩ := rep_did (vm := vm) (f := .blk w b F) (Did.refl hl) hR hk e ⟨k, pg, hk, e⟩ ⟨h0, by omega⟩ rfl
        exact ⟨fun h => absurd rfl h, c, none, some t, d⟩
theorem op_good (hR : Rep n x A) (hl : x.log = []) (c : Cq) : Good n vm x A (opP n vm x A c) := by
  unfold opP
  repeat' split
  · exact map_good hR hl _ _ _ _
  · exact run_good hR hl _ _ _ _
  · exact unm_good hR hl _
  · exact pro_good hR hl _ _ _
  · exact spl_good hR hl _
  · exact mer_good hR hl _
end
end St
end Go.Proofs.YtiiggmfindfkfaaGreat
