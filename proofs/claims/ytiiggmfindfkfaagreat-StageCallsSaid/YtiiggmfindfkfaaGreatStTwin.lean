/-
  Plain: two names filled into a TLB one behind the other are both found, and what dropping one of them leaves. Conditions: that nothing stands in the TLB yet, or that the second name is found.
-/
import Derived.Test.YtiiggmfindfkfaaGreatStTaken
import Derived.Test.YtiiggmfindfkfaaGreatStInv
namespace Go.Proofs.YtiiggmfindfkfaaGreat
open Go.RowKit
namespace St
open Tl (SlotT findP fillP fillN named named_iff findP_some findP_none)
def s7 : SlotT := (7, 1, 0, false, false)
def s8 : SlotT := (8, 1, 0, false, false)
theorem found_at {a b : Int} {k : Nat} {s : SlotT} {ps : List (Option SlotT)} (h : ps[k]? = some (some s)) (hn : named a b s = true) (i : Nat) : (findP a b i ps).isSome = true := by
  cases hf : findP a b i ps with
  | some _ => rfl
  | none =>
    have := findP_none hf k s h
    rw [hn] at this
    cases this
/-- Nothing yet, or the second name stands there. -/
def Tw (ps : List (Option SlotT)) : Prop := (∀ o ∈ ps, o = none) ∨ ∃ (k : Nat) (s : SlotT), ps[k]? = some (some s) ∧ named 8 1 s = true
theorem tw_new (room : Nat) : Tw (List.replicate room none) := Or.inl fun _ h => List.eq_of_mem_replicate h
theorem fill_at (next : Nat) (ps : List (Option SlotT)) (s : SlotT) (hn : next < ps.length) : ∃ k : Nat, (fillP next ps s)[k]? = some (some s) ∧ (∀ j, j ≠ k → (fillP next ps s)[j]? = ps[j]?) ∧
    ((k = next ∧ findP s.1 s.2.1 0 ps = none ∧ fillN ps.length next ps s = (next + 1) % ps.length) ∨ (∃ t, ps[k]? = some (some t) ∧ named s.1 s.2.1 t = true ∧ fillN ps.length next ps s = next)) := by
  unfold fillP fillN
  cases hf : findP s.1 s.2.1 0 ps with
  | none => exact ⟨next, List.getElem?_set_self hn, fun j hj => List.getElem?_set_ne (Ne.symm hj), Or.inl ⟨rfl, rfl, rfl⟩⟩
  | some h =>
    obtain ⟨k, t, h1, rfl, h3⟩ := findP_some hf
    have e : (((0 + k : Nat) : Int)).toNat = k := by omega
    simp only [e]
    exact ⟨k, List.getElem?_set_self (List.getElem?_eq_some_iff.1 h1).1, fun j hj => List.getElem?_set_ne (Ne.symm hj), Or.inr ⟨t, h1, h3, trivial⟩⟩
/-- Both names are found. -/
theorem twins {next : Nat} {ps : List (Option SlotT)} (hn : next < ps.length) (h2 : 2 ≤ ps.length) (hT : Tw ps) :
    ∃ k j : Nat, (fillP (fillN ps.length next ps s7) (fillP next ps s7) s8)[k]? = some (some s7) ∧ (fillP (fillN ps.length next ps s7) (fillP next ps s7) s8)[j]? = some (some s8) := by
  obtain ⟨k, hk, hoff, hc⟩ := fill_at next ps s7 hn
  have hl : (fillP next ps s7).length = ps.length := by unfold fillP; split <;> rw [List.length_set]
  have hn1 : fillN ps.length next ps s7 < (fillP next ps s7).length := by
    rw [hl]
    unfold fillN
    split
    · exact hn
    · exact Nat.mod_lt _ (by omega)
  obtain ⟨j, hj, hoff', hc'⟩ := fill_at _ _ s8 hn1
  refine ⟨k, j, ?_, hj⟩
  have hkj : k ≠ j := by
    rintro rfl
    rcases hc' with ⟨e, hnf, _⟩ | ⟨t, h1, h3, _⟩
    · rcases hc with ⟨e1, _, e2⟩ | ⟨t, h1, h3, e2⟩
      · rw [e2] at e
        by_cases hw : next + 1 < ps.length
        · rw [Nat.mod_eq_of_lt hw] at e; omega
        · have : next + 1 = ps.length := by omega
          rw [this, Nat.mod_self] at e
          omega
      · rcases hT with h0 | ⟨j, s, hs, hns⟩
        · have := h0 _ (List.mem_of_getElem? h1)
          cases this
        · have hjk : j ≠ k := by
            rintro rfl
            rw [hs] at h1
            injection h1 with h1
            injection h1 with h1
            subst h1
            have a := (named_iff.1 hns).1
            have b := (named_iff.1 h3).1
            rw [a] at b
            exact absurd b (by decide)
          have hf : (findP 8 1 0 (fillP next ps s7)).isSome = true := found_at (k := j) (s := s) (by rw [hoff j hjk]; exact hs) hns 0
          have hz : findP 8 1 0 (fillP next ps s7) = none := hnf
          rw [hz] at hf
          cases hf
    · rw [hk] at h1
      injection h1 with h1
      injection h1 with h1
      subst h1
      exact absurd (named_iff.1 h3).1 (by decide)
  rw [hoff' k hkj]
  exact hk
/-- The entries of the first name dropped, or nothing: which of both are found, and what the next round starts from. -/
theorem twins_end {q q' : List (Option SlotT)} {k j : Nat} {b : Bool} (hk : q[k]? = some (some s7)) (hj : q[j]? = some (some s8)) (hq : q' = if b = true then q.map (offV 7) else q) :
    (findP 7 1 0 q').isSome = !b ∧ (findP 8 1 0 q').isSome = true ∧ Tw q' := by
  have hj' : q'[j]? = some (some s8) := by
    rw [hq]
    split
    · rw [List.getElem?_map, hj]
      rfl
    · exact hj
  refine ⟨?_, found_at hj' (by decide) 0, Or.inr ⟨j, s8, hj', by decide⟩⟩
  cases b with
  | true =>
    rw [hq, if_pos rfl, show findP 7 1 0 (q.map (offV 7)) = none from find_off 7 1 q 0]
    rfl
  | false =>
    rw [hq, if_neg (by simp)]
    exact found_at hk (by decide) 0
end St
end Go.Proofs.YtiiggmfindfkfaaGreat
