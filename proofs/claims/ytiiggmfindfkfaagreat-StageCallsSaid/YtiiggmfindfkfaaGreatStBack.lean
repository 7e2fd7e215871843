/-
  Plain: no table tells nothing; a page that is mapped and unmapped leaves what was. Conditions: none.
-/
import Derived.Test.YtiiggmfindfkfaaGreatStInv
namespace Go.Proofs.YtiiggmfindfkfaaGreat
open Go.RowKit
namespace St
open Ph En Wk
/-- No table tells nothing. -/
def NB (A : Nat → Fst) : Prop := ∀ i, i < 64 → bare (A i) = false
theorem NB.set {A : Nat → Fst} (h : NB A) {i : Nat} {f : Fst} (hf : bare f = false) : NB (setA A i f) := fun k hk => by
  unfold setA
  split
  · exact hf
  · exact h k hk
theorem bare_some {t j : Nat} {pg : Pgs} {q : Bool × Bool × Nat} (hj : j < 64) (h : pg j = some q) : bare (.tab t pg) = false := by
  cases e : bare (.tab t pg) with
  | false => rfl
  | true => rw [bare_iff.1 e j hj] at h; cases h
theorem nb_no : NB (fun _ => Fst.no) := fun _ _ => rfl
theorem nb_ready {os os1 : List Nat} {A A1 : Nat → Fst} {i : Nat} (h : NB A) (hr : readyA os A i = some (os1, A1)) : NB A1 := by
  unfold readyA at hr
  split at hr
  · split at hr
    · cases hr
    · injection hr with hr
      injection hr with _ h2
      subst h2
      exact h.set (bare_some (j := 0) (by omega) rfl)
  · injection hr with hr
    injection hr with _ h2
    subst h2
    exact h
theorem nb_pg {A : Nat → Fst} {i j : Nat} {q : Bool × Bool × Nat} (h : ∀ k, k < 64 → k ≠ i → bare (A k) = false) (ht : ∀ t pg, A i = .tab t pg → True) (hn : isT (A i) = false → bare (A i) = false) (hj : j < 64) : NB (pgA A i j (some q)) := by
  have _ := ht
  unfold pgA
  split
  · intro k hk
    by_cases e : k = i
    · rw [e, setA_at]; exact bare_some hj (setP_at _ _ _)
    · rw [setA_ne _ _ e]; exact h k hk e
  · rename_i hx
    intro k hk
    by_cases e : k = i
    · rw [e]
      refine hn ?_
      cases e' : A i with
      | no => rfl
      | blk a b F => rfl
      | tab t pg => exact absurd e' (hx t pg)
    · exact h k hk e
theorem bare_not {f : Fst} (h : isT f = false) : bare f = false := by
  cases f with
  | no => rfl
  | blk a b F => rfl
  | tab t pg => cases h
theorem nb_laid {os os1 : List Nat} {A A1 : Nat → Fst} {i : Nat} (h : NB A) (hr : laidA os A i = some (os1, A1)) : ∀ k, k < 64 → k ≠ i → bare (A1 k) = false := by
  unfold laidA at hr
  split at hr
  · split at hr
    · cases hr
    · injection hr with hr
      injection hr with _ h2
      subst h2
      intro k hk ne
      rw [setA_ne _ _ ne]
      exact h k hk
  · injection hr with hr
    injection hr with _ h2
    subst h2
    exact fun k hk _ => h k hk
theorem nb_rep {os : List Nat} {A : Nat → Fst} {i : Nat} {f : Fst} (h : ∀ k, k < 64 → k ≠ i → bare (A k) = false) (hf : bare f = false) (hb : isT (A i) = true ∨ bare (A i) = false) : NB (repA os A i f).2 := by
  unfold repA
  split
  · show NB (setA A i f)
    intro k hk
    by_cases e : k = i
    · rw [e, setA_at]; exact hf
    · rw [setA_ne _ _ e]; exact h k hk e
  · rename_i hx
    intro k hk
    show bare (A k) = false
    by_cases e : k = i
    · rw [e]
      rcases hb with hb | hb
      · cases e' : A i with
        | no => rw [e'] at hb; cases hb
        | blk a b F => rw [e'] at hb; cases hb
        | tab t pg => exact absurd e' (hx t pg)
      · exact hb
    · exact h k hk e
theorem nb_tidy {os : List Nat} {A : Nat → Fst} {i : Nat} (h : ∀ k, k < 64 → k ≠ i → bare (A k) = false) : NB (tidyA os A i).2 := by
  unfold tidyA
  split
  · rename_i hb
    refine nb_rep h rfl (Or.inl ?_)
    cases e : A i with
    | no => rw [e] at hb; cases hb
    | blk a b F => rw [e] at hb; cases hb
    | tab t pg => rfl
  · rename_i hb
    intro k hk
    show bare (A k) = false
    by_cases e : k = i
    · rw [e]; simpa using hb
    · exact h k hk e
theorem nb_pgA {A : Nat → Fst} {i j : Nat} {o : Option (Bool × Bool × Nat)} (h : NB A) : ∀ k, k < 64 → k ≠ i → bare (pgA A i j o k) = false := by
  intro k hk ne
  unfold pgA
  cases A i with
  | no => exact h k hk
  | blk a b F => exact h k hk
  | tab t pg => show bare (setA A i _ k) = false; rw [setA_ne _ _ ne]; exact h k hk
theorem nb_op {n : Nat} {os : List Nat} {A : Nat → Fst} (h : NB A) (c : Cq) : NB (opA n os A c).2.2 := by
  unfold opA
  split
  · unfold mapA
    split
    · exact h
    · rename_i hr
      split
      · exact h
      · split
        · exact h
        · rename_i os1 A1 hL
          exact nb_pg (nb_laid h hL) (fun _ _ _ => trivial) bare_not (Nat.mod_lt _ (by omega))
  split
  · unfold runA
    split
    · exact h
    · split
      · exact h
      · exact h.set rfl
  split
  · unfold unmA
    split
    · exact h
    · split
      · exact h
      · split
        · exact h
        · rename_i os1 A1 hL
          exact nb_tidy (nb_pgA (nb_ready h hL))
  split
  · unfold proA
    split
    · exact h
    · split
      · exact h
      · split
        · exact h
        · rename_i os1 A1 hL
          exact nb_pg (fun k hk _ => nb_ready h hL k hk) (fun _ _ _ => trivial) bare_not (Nat.mod_lt _ (by omega))
  split
  · unfold splA
    split
    · exact h
    · split
      · exact h
      · split
        · exact h
        · rename_i os1 A1 hL
          exact nb_ready h hL
  · unfold merA
    split
    · exact h
    · split
      · split
        · exact h
        · exact nb_rep (fun k hk _ => h k hk) rfl (by
            cases e : isT (A c.page.toNat) with
            | true => exact Or.inl rfl
            | false => exact Or.inr (bare_not e))
      · exact h
theorem runs_nb {n vm : Nat} {x : Pl} {A : Nat → Fst} (cs : Nat → Cq) (hR : Rep n x A) (h : NB A) : ∀ m, NB (runsP n vm cs m (x, A)).2
  | 0 => h
  | m + 1 => by
    have i1 := runs_nb (vm := vm) cs hR h m
    have hl := runs_rep (vm := vm) cs hR m
    generalize hs : runsP n vm cs m (x, A) = s at i1 hl
    have e : runsP n vm cs (m + 1) (x, A) = ((stepR n vm s.1 s.2 (cs m)).x, (stepR n vm s.1 s.2 (cs m)).A) := by rw [runsP, hs]
    rw [e, stepR_live hl.live]
    have h2 := congrArg (·.2.2) (op_abs (n := n) (vm := vm) (x := s.1.noLog) (A := s.2) (cs m))
    simp only [absR] at h2
    rw [h2]
    exact nb_op i1 (cs m)
section
variable {n vm : Nat} {x : Pl} {A : Nat → Fst}
theorem setA_twice (A : Nat → Fst) (i : Nat) (f g : Fst) : setA (setA A i f) i g = setA A i g := by
  funext k
  unfold setA
  split
  · rfl
  · rfl
theorem setA_self {A : Nat → Fst} {i : Nat} {f : Fst} (h : A i = f) : setA A i f = A := by
  funext k
  unfold setA
  split
  · rename_i e; rw [e]; exact h.symm
  · rfl
theorem setP_back {pg : Pgs} {j : Nat} {o : Option (Bool × Bool × Nat)} (h : pg j = none) : setP (setP pg j o) j none = pg := by
  funext k
  unfold setP
  split
  · rename_i e; rw [e]; exact h.symm
  · rfl
/-- A page that is mapped is told; it is unmapped, and all is as it was. -/
theorem map_back (hR : Rep n x A) (hl : x.log = []) (hB : NB A) {p f : Int} {w e : Bool} (hk : (mapP n vm x A p f w e).k = 0) :
    ∃ k g : Nat, p = k ∧ k < 4096 ∧ f = g ∧ g < n ∧ told (mapP n vm x A p f w e).A k = some ⟨w, e, g, false⟩ ∧
      ∀ y, (unmP n vm y (mapP n vm x A p f w e).A p).k = 0 ∧ told (unmP n vm y (mapP n vm x A p f w e).A p).A k = none ∧ tabs (unmP n vm y (mapP n vm x A p f w e).A p).A = tabs A := by
  unfold mapP at hk ⊢
  split at hk
  · cases hk
  rename_i hr
  rw [if_neg hr]
  have hr1 : inR 4096 p = true := by cases h : inR 4096 p with | true => rfl | false => exact absurd (Or.inl h) hr
  have hr2 : inR n f = true := by cases h : inR n f with | true => rfl | false => exact absurd (Or.inr h) hr
  obtain ⟨k, rfl, hk'⟩ := inR_nat hr1
  obtain ⟨g, rfl, hg⟩ := inR_nat hr2
  rw [Int.toNat_natCast, Int.toNat_natCast] at hk ⊢
  split at hk
  · cases hk
  rename_i hT
  rw [if_neg hT]
  have hT : told A k = none := by simpa using hT
  cases hL : laid n vm x A (k / 64) with
  | none => rw [hL] at hk; cases hk
  | some y =>
    obtain ⟨x1, A1⟩ := y
    obtain ⟨r1, ⟨t, pg, e1, e2⟩, _, _⟩ := laid_some hR hl hk' hT hL
    have hi : k / 64 < 64 := by omega
    have hj : k % 64 < 64 := by omega
    simp only
    rw [pgP_at e1]
    have hT2 : told (setA A1 (k / 64) (.tab t (setP pg (k % 64) (some (w, e, g))))) k = some ⟨w, e, g, false⟩ := by
      unfold told
      rw [setA_at]
      unfold Fst.told
      simp only [setP_at]
    refine ⟨k, g, rfl, hk', rfl, hg, hT2, fun y => ?_⟩
    have eu : unmP n vm y (setA A1 (k / 64) (.tab t (setP pg (k % 64) (some (w, e, g))))) (k : Int) = ⟨0, (tidy n vm (y.chg n vm (256 * t + 4 * (k % 64)) (pgW none)) A1 (k / 64)).1, (tidy n vm (y.chg n vm (256 * t + 4 * (k % 64)) (pgW none)) A1 (k / 64)).2⟩ := by
      unfold unmP ready
      rw [if_neg (by rw [hr1]; simp), Int.toNat_natCast, hT2, setA_at]
      simp only [pgP_at (setA_at _ _ _), setA_twice, setP_back e2, setA_self e1]
      rfl
    rw [eu]
    refine ⟨rfl, ?_⟩
    simp only
    have ta := congrArg (·.2) (tidy_abs (n := n) (vm := vm) (x := y.chg n vm (256 * t + 4 * (k % 64)) (pgW none)) (A := A1) (k / 64))
    simp only at ta
    rw [ta]
    have key : (tidyA (y.chg n vm (256 * t + 4 * (k % 64)) (pgW none)).os A1 (k / 64)).2 = A := by
      unfold laid at hL
      cases eA : A (k / 64) with
      | blk a b F =>
        rw [eA] at hL
        simp only [Option.some.injEq, Prod.mk.injEq] at hL
        rw [← hL.2, eA] at e1
        cases e1
      | tab s pg0 =>
        rw [eA] at hL
        simp only [Option.some.injEq, Prod.mk.injEq] at hL
        rw [← hL.2]
        unfold tidyA
        rw [if_neg (by rw [hB _ hi]; simp)]
      | no =>
        rw [eA] at hL
        simp only at hL
        cases hs : Fr.spot 1 x.os with
        | none => rw [hs] at hL; cases hL
        | some s =>
          rw [hs] at hL
          simp only [Option.some.injEq, Prod.mk.injEq] at hL
          rw [← hL.2]
          unfold tidyA repA
          rw [setA_at, if_pos (bare_iff.2 (fun _ _ => rfl))]
          simp only
          rw [setA_twice, setA_self eA]
    rw [key]
    exact ⟨hT, rfl⟩
end
end St
end Go.Proofs.YtiiggmfindfkfaaGreat
