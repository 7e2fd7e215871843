/-
  Plain: what a heap's keys tell beside its first item. Conditions: none.
-/
import Derived.Test.YtmeadkllbjkjbaaHqOpen
namespace Go.Proofs.Ytmeadkllbjkjbaa
namespace Hq
open Wh (Srt Uni ins del has mem_ins has_iff)
open Hp (lt lt_irr lt_asym le_trans lt_total)
theorem key_nil (d : Int) : keyP d [] = none := by unfold keyP; split <;> rfl
theorem key_head {d : Int} {x : ItT} (r : List ItT) (h : d = (x.1 : Nat)) : keyP d (x :: r) = some x.2 := by
  subst h
  unfold keyP
  rw [if_pos (by omega), List.find?_cons_of_pos (by simp)]
  rfl
theorem key_tail {d : Int} {x : ItT} (r : List ItT) (h : ¬ d = (x.1 : Nat)) : keyP d (x :: r) = keyP d r := by
  unfold keyP
  split
  · rw [List.find?_cons_of_neg (by simp; omega)]
  · rfl
theorem key_mem {d : Int} {l : List ItT} {z : Nat} (h : keyP d l = some z) : 0 ≤ d ∧ (d.toNat, z) ∈ l := by
  unfold keyP at h
  split at h
  · rename_i h0
    obtain ⟨x, hx, e⟩ := Option.map_eq_some_iff.1 h
    have h1 := List.find?_some hx
    have h2 := List.mem_of_find?_eq_some hx
    refine ⟨h0, ?_⟩
    have : x.1 = d.toNat := by simpa using h1
    rw [← this, ← e]
    exact h2
  · cases h
theorem key_gone {x : ItT} {r : List ItT} (hu : Uni (x :: r)) : keyP (x.1 : Nat) r = none := by
  cases h : keyP (x.1 : Nat) r with
  | none => rfl
  | some z =>
    obtain ⟨_, hm⟩ := key_mem h
    have := (List.pairwise_cons.1 hu).1 _ hm
    simp at this
theorem key_least {x : ItT} {r : List ItT} (hs : Srt (x :: r)) {k : Int} {z : Nat} (h : keyP k (x :: r) = some z) : ¬ z < x.2 ∧ ¬ (z = x.2 ∧ k < (x.1 : Nat)) := by
  obtain ⟨h0, hm⟩ := key_mem h
  rcases List.mem_cons.1 hm with e | hm
  · rw [← e]
    simp only
    omega
  · have := (List.pairwise_cons.1 hs).1 _ hm
    unfold Hp.lt at this
    simp only at this
    omega
end Hq
end Go.Proofs.Ytmeadkllbjkjbaa
