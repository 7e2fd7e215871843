/-
  What Split, Merge and Protect do to what is told; a row of entries that grows. Conditions: none.
-/
import Derived.Test.YtiiggmfindfkfaaStTold
namespace Go.Proofs.Ytiiggmfindfkfaa
open Go.RowKit Nt
namespace St
open Ph En Wk
theorem Alike.refl (A : Nat → Fst) (but : Int) : Alike A A but := fun p _ => ⟨rfl, fun q q' h h' _ => by rw [h] at h'; injection h' with h'; subst h'; exact ⟨rfl, rfl, rfl⟩⟩
theorem Alike.trans {A A1 A2 : Nat → Fst} {but : Int} (h : Alike A A1 but) (k : Alike A1 A2 but) : Alike A A2 but := fun p hp => by
  obtain ⟨a1, a2⟩ := h p hp
  obtain ⟨b1, b2⟩ := k p hp
  refine ⟨b1.trans a1, fun q q' hq hq' hn => ?_⟩
  obtain ⟨q1, hq1⟩ : ∃ q1, told A1 p = some q1 := by rw [hq] at a1; exact Option.isSome_iff_exists.1 a1
  obtain ⟨c1, c2, c3⟩ := a2 q q1 hq hq1 hn
  obtain ⟨d1, d2, d3⟩ := b2 q1 q' hq1 hq' hn
  exact ⟨d1.trans c1, d2.trans c2, d3.trans c3⟩
theorem told_set (A : Nat → Fst) (i : Nat) (f : Fst) (p : Nat) : told (setA A i f) p = if p / 64 = i then f.told (p % 64) else told A p := by
  unfold told setA
  split <;> rfl
theorem blk_alike {A : Nat → Fst} {i t : Nat} {w e : Bool} {F : Nat} (hA : A i = .blk w e F) (but : Int) : Alike A (setA A i (.tab t (blkPg w e F))) but := fun p _ => by
  rw [told_set]
  by_cases h : p / 64 = i
  · rw [if_pos h]
    have h1 : told A p = some ⟨w, e, F + p % 64, true⟩ := by unfold told; rw [h, hA]; rfl
    have h2 : (Fst.tab t (blkPg w e F)).told (p % 64) = some ⟨w, e, F + p % 64, false⟩ := rfl
    rw [h1, h2]
    exact ⟨rfl, fun q q' hq hq' _ => by injection hq with hq; injection hq' with hq'; subst hq hq'; exact ⟨rfl, rfl, rfl⟩⟩
  · rw [if_neg h]
    exact ⟨rfl, fun q q' hq hq' _ => by rw [hq] at hq'; injection hq' with hq'; subst hq'; exact ⟨rfl, rfl, rfl⟩⟩
section
variable {n vm : Nat} {x x1 : Pl} {A A1 : Nat → Fst}
theorem ready_alike {i : Nat} (hr : ready n vm x A i = some (x1, A1)) (but : Int) : Alike A A1 but := by
  unfold ready at hr
  split at hr
  · rename_i w e F hA
    split at hr
    · cases hr
    · injection hr with hr
      injection hr with _ h2
      subst h2
      exact blk_alike hA but
  · injection hr with hr
    injection hr with _ h2
    subst h2
    exact Alike.refl _ _
theorem mrg_blk {w e : Bool} {F : Nat} (h : F % 64 = 0) : mrg (blkPg w e F) = some (w, e, F) := by
  have hr : runP (blkPg w e F) w e F = true := runP_yes.2 fun _ _ => rfl
  unfold mrg
  show (if F % 64 = 0 ∧ runP (blkPg w e F) w e F = true then some (w, e, F) else none) = _
  rw [if_pos ⟨h, hr⟩]
theorem split_back (hR : Rep n x A) {i : Int} (hk : (splP n vm x A i).k = 0) : (∀ but, Alike A (splP n vm x A i).A but) ∧ ∀ y, (merP n vm y (splP n vm x A i).A i).k = 0 ∧ (merP n vm y (splP n vm x A i).A i).A = A := by
  unfold splP at hk ⊢
  split at hk
  · cases hk
  rename_i hr
  rw [if_neg hr]
  have hr1 : inR 64 i = true := by simpa using hr
  obtain ⟨k, rfl, hk'⟩ := inR_nat hr1
  rw [Int.toNat_natCast] at hk ⊢
  split at hk
  · cases hk
  rename_i hb
  rw [if_neg hb]
  cases eA : A k with
  | no => rw [eA] at hb; exact absurd rfl hb
  | tab t pg => rw [eA] at hb; exact absurd rfl hb
  | blk w e F =>
    have ok := hR.ok k hk'
    rw [eA] at ok
    cases hL : ready n vm x A k with
    | none => rw [hL] at hk; cases hk
    | some y =>
      obtain ⟨x1, A1⟩ := y
      simp only
      refine ⟨fun but => ready_alike hL but, fun y => ?_⟩
      unfold ready at hL
      rw [eA] at hL
      simp only at hL
      cases hs : Fr.spot 1 x.os with
      | none => rw [hs] at hL; cases hL
      | some t =>
        rw [hs] at hL
        simp only [Option.some.injEq, Prod.mk.injEq] at hL
        rw [← hL.2]
        unfold merP
        rw [if_neg hr, Int.toNat_natCast, setA_at]
        simp only [mrg_blk ok.1, repP_at (setA_at _ _ _), setA_twice]
        exact ⟨trivial, setA_self eA⟩
theorem pro_alike (hR : Rep n x A) (hl : x.log = []) {p : Int} {w e : Bool} (hk : (proP n vm x A p w e).k = 0) :
    ∃ (k : Nat) (q : Tp) (b : Bool), p = k ∧ k < 4096 ∧ told A k = some q ∧ told (proP n vm x A p w e).A k = some ⟨w, e, q.F, b⟩ ∧ Alike A (proP n vm x A p w e).A k := by
  unfold proP at hk ⊢
  split at hk
  · cases hk
  rename_i hr
  rw [if_neg hr]
  have hr1 : inR 4096 p = true := by simpa using hr
  obtain ⟨k, rfl, hk'⟩ := inR_nat hr1
  rw [Int.toNat_natCast] at hk ⊢
  cases hT : told A k with
  | none => rw [hT] at hk; cases hk
  | some q =>
    rw [hT] at hk
    simp only at hk ⊢
    cases hL : ready n vm x A (k / 64) with
    | none => rw [hL] at hk; cases hk
    | some y =>
      obtain ⟨x1, A1⟩ := y
      obtain ⟨r1, ⟨t, pg, e1, e2⟩, _, _⟩ := ready_some hR hl hk' hT hL
      simp only
      rw [pgP_at e1]
      have h2 : told (setA A1 (k / 64) (.tab t (setP pg (k % 64) (some (w, e, q.F))))) k = some ⟨w, e, q.F, false⟩ := by
        rw [told_set, if_pos rfl]
        unfold Fst.told
        simp only [setP_at]
      refine ⟨k, q, false, rfl, hk', hT, h2, (ready_alike hL k).trans fun p hp => ?_⟩
      by_cases hpk : p = k
      · subst hpk
        have h3 : (told A1 p).isSome = true := by unfold told Fst.told; rw [e1]; simp only [e2]; rfl
        simp only
        rw [h2, h3]
        exact ⟨rfl, fun _ _ _ _ hn => absurd rfl hn⟩
      · have h4 : told (setA A1 (k / 64) (.tab t (setP pg (k % 64) (some (w, e, q.F))))) p = told A1 p := by
          rw [told_set]
          by_cases h : p / 64 = k / 64
          · rw [if_pos h]
            unfold told
            rw [h, e1]
            unfold Fst.told
            simp only
            rw [setP_ne _ _ (by omega)]
          · rw [if_neg h]
        simp only
        rw [h4]
        exact ⟨rfl, fun q q' hq hq' _ => by rw [hq] at hq'; injection hq' with hq'; subst hq'; exact ⟨rfl, rfl, rfl⟩⟩
theorem look_out (hR : Rep n x A) {p : Int} (hp : ¬ (0 ≤ p ∧ p < 4096)) : lookS n x.z x.root p = ⟨e0, false⟩ := by
  have _ := hR
  unfold lookS
  rw [if_neg hp]
theorem look_not (hR : Rep n x A) {p : Int} (h : ¬ ∃ (k : Nat) (q : Tp), p = k ∧ k < 4096 ∧ told A k = some q) : lookS n x.z x.root p = ⟨⟨false, false, false, false, 0⟩, false⟩ := by
  by_cases hp : 0 ≤ p ∧ p < 4096
  · obtain ⟨k, rfl⟩ : ∃ k : Nat, p = k := ⟨p.toNat, by omega⟩
    have hk : k < 4096 := by omega
    rw [look_rep hR k hk]
    cases hT : told A k with
    | none => rfl
    | some q => exact absurd ⟨k, q, rfl, hk, hT⟩ h
  · exact look_out hR hp
end
/-! ### Entries as a row -/
theorem entL_snoc {A : Nat → Fst} {l : List Nat} {p : Nat} {q : Tp} (h : told A p = some q) : entL A (l ++ [p]) = entL A l ++ encT q := by
  unfold entL
  rw [List.flatMap_append]
  simp [h]
theorem entL_at {A : Nat → Fst} : ∀ (l : List Nat), (∀ p ∈ l, (told A p).isSome = true) → ∀ (k p : Nat) (q : Tp), l[k]? = some p → told A p = some q → ∀ j, j < 5 → (entL A l)[k * 5 + j]? = (encT q)[j]?
  | [], _, k, p, q, h, _, j, _ => by simp at h
  | a :: l, hl, k, p, q, h, hq, j, hj => by
    obtain ⟨qa, ha⟩ := Option.isSome_iff_exists.1 (hl a (by simp))
    have e : entL A (a :: l) = encT qa ++ entL A l := by unfold entL; rw [List.flatMap_cons, ha]
    rw [e]
    cases k with
    | zero =>
      simp only [List.getElem?_cons_zero] at h
      injection h with h
      subst h
      rw [ha] at hq
      injection hq with hq
      subst hq
      rw [List.getElem?_append_left (by simp [encT]; omega)]
      congr 1
      omega
    | succ k =>
      rw [List.getElem?_append_right (by simp [encT]; omega), show (k + 1) * 5 + j - (encT qa).length = k * 5 + j by simp [encT]; omega]
      exact entL_at l (fun p hp => hl p (List.mem_cons_of_mem _ hp)) k p q (by simpa using h) hq j hj
theorem infoEnt : (Try.prog.info? 53).map (fun i => (i.zero, i.size, i.bytes)) = some (some (.agg #[.bool false, .bool false, .bool false, .bool false, .int .i64 0]), 5, 16) := by kernel_rfl
set_option maxRecDepth 100000 in
/-- One entry is appended to a row. -/
theorem step_ent {ops : Array Oper} {rest : List Oper} {o : Oper} {a : Act} {Q : Exit → Act → World → Prop} (hgd : o.guard = none) (s x : Operand)
    (ho : o.op = .call { callee := .builtin .append, args := #[s, x], argTypes := #[67, 67] }) (B : Nat) (v : Value) (n : Nat) (xs : List Value) (q : Tp) (W : World)
    (hv : W.ownsRow B 53 5 v n xs) (hB : B ≤ W.heap.size) (hn : n ≤ 4096)
    (hs : a.eval s = v) (hx : a.eval x = .slice (some ⟨W.heap.size, 0, none⟩) 1 1)
    (h : ∀ v' W', W'.ownsRow B 53 5 v' (n + 1) (xs ++ encT q) → Below B W W' → wpList Try.prog ops Q rest (a.put o.dst v') W') :
    wpList Try.prog ops Q (o :: rest) a (W.alloc (.cells #[.bool true, .bool q.W, .bool q.X, .bool q.B, .int .i64 (q.F : Int)] 53)) := by
  obtain ⟨i0, hi, hz0, hz1, hz2⟩ := info_parts infoEnt
  refine wpList_append_own _ hgd s x 67 ho B 53 i0 (.agg #[.bool false, .bool false, .bool false, .bool false, .int .i64 0]) 5 16 Try.underlying67 hi hz0 hz1 hz2 rfl (by decide) v n xs hs (hv.alloc _) ⟨W.heap.size, 0, none⟩ 1 1 (encT q) hx rfl
    (World.news_of_block (cs := #[.bool true, .bool q.W, .bool q.X, .bool q.B, .int .i64 (q.F : Int)]) (t := 53) (fr := (0, 0)) (heap_alloc_new W _)) (by simp [encT, Value.oneCell']) (by unfold maxLen; omega) (by omega) (by simp; omega) ?_
  intro v' W' hown hgrow _
  exact h v' W' hown (((Below.refl B W).alloc hB _).grown hgrow (by simp; omega) (fun k hk => (hv.lt k hk).1))
theorem Ew.of {L : Loc} {w0 w : World} {v u : Value} {x : Pl} {A : Nat → Fst} {l : List Nat} (h : w.ownsRow w0.heap.size 53 5 u l.length (entL A l)) (hS : St L w0 v x) (hl : ∀ p ∈ l, (told A p).isSome = true) : ∃ po cap, u = .slice po l.length cap ∧ Ew L w v po A l := by
  have hlt := h.lt
  rcases id h.2 with ⟨rfl, h0⟩ | ⟨g, cap, cur, rfl, hg, _⟩
  · exact ⟨none, 0, by rw [h0], fun hl => by omega⟩
  · refine ⟨_, _, rfl, fun _ => ⟨g, rfl, (hlt g rfl).2, fun hm => by have := hS.lts g (by simp [Loc.S] at hm; simp [Loc.all]; omega); omega, hS.off hg, fun k p q h1 h2 j hj => ?_⟩⟩
    have he := entL_at l hl k p q h1 h2 j hj
    obtain ⟨u, hu⟩ : ∃ u, (encT q)[j]? = some u := ⟨_, List.getElem?_eq_getElem (by simp [encT]; omega)⟩
    rw [hu] at he ⊢
    have := h.cells (g := g) rfl (k * 5 + j) u he
    rw [Fr.add_eq, Nat.zero_add] at this
    exact this
end St
end Go.Proofs.Ytiiggmfindfkfaa
