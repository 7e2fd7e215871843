/-
  What stage's Destroy leaves. Conditions: that a space lies there that tells its pages, or is gone.
-/
import Derived.Test.YtiiggmfindfkfaaGreatStLog
namespace Go.Proofs.YtiiggmfindfkfaaGreat
open Go.RowKit Nt
namespace St
open Ph En Wk
variable {L : Loc} {v : Value} {x : Pl} {A : Nat → Fst}
/-- The frames of a space's tables. -/
def allT (x : Pl) (A : Nat → Fst) : List Nat := x.root :: tabL A 64
theorem mem_allT {n : Nat} (hR : Rep n x A) {t : Nat} (h : t ∈ allT x A) : x.os[t]? = some 1 ∧ t < n := by
  unfold allT at h
  rcases List.mem_cons.1 h with rfl | h
  · exact ⟨hR.own, hR.rt⟩
  · obtain ⟨i, pg, hi, e⟩ := mem_tabL.1 h
    have := hR.tabAt hi e
    exact ⟨this.2.1, this.1⟩
theorem nodup_tabL {n : Nat} (hR : Rep n x A) : ∀ k, k ≤ 64 → (tabL A k).Nodup
  | 0, _ => List.nodup_nil
  | k + 1, hk => by
    have ih := nodup_tabL hR k (by omega)
    rw [tabL]
    split
    · rename_i t pg e
      refine List.nodup_append.2 ⟨ih, by simp, fun a ha b hb => ?_⟩
      simp at hb
      subst hb
      rintro rfl
      obtain ⟨i, pg', hi, e'⟩ := mem_tabL.1 ha
      have := hR.one i k _ _ _ (by omega) (by omega) e' e
      omega
    · exact ih
theorem nodup_allT {n : Nat} (hR : Rep n x A) : (allT x A).Nodup := by
  refine List.nodup_cons.2 ⟨fun h => ?_, nodup_tabL hR 64 (Nat.le_refl _)⟩
  obtain ⟨i, pg, hi, e⟩ := mem_tabL.1 h
  exact (hR.tabAt hi e).2.2.1 rfl
/-- A table that is still to be given back is the monitor's. -/
theorem left1 {n : Nat} (hR : Rep n x A) {i t : Nat} (h : (allT x A)[i]? = some t) : (Fr.giveL x.os ((allT x A).take i))[t]? = some 1 := by
  have hm := List.mem_of_getElem? h
  obtain ⟨h1, h2⟩ := mem_allT hR hm
  rw [Fr.giveL_get _ _ _ (by rw [hR.len]; exact h2), if_neg]
  · exact h1
  · intro hi
    obtain ⟨j, hj⟩ := List.mem_iff_getElem?.1 hi
    rw [List.getElem?_take] at hj
    split at hj
    · rename_i hlt
      have hnd := nodup_allT hR
      have hl := (List.getElem?_eq_some_iff.1 h).1
      have := (List.getElem?_inj (by omega : j < (allT x A).length) hnd).1 (hj.trans h.symm)
      omega
    · cases hj
/-- The state, the space having been destroyed. -/
def dead (vm : Nat) (x : Pl) (A : Nat → Fst) : Pl := { x with ps := x.ps.map (offV vm), os := Fr.giveL x.os (allT x A), gone := true }
theorem Rep.psd {n : Nat} (h : Rep n x A) (ps : List (Option Tl.SlotT)) : Rep n { x with ps := ps } A := ⟨h.by8, h.few, h.len, h.rt, h.own, h.live, h.wrd, h.ok, h.one⟩
/-- What Destroy leaves. -/
def desP (vm : Nat) (x : Pl) (A : Nat → Fst) : Pl := if x.gone = true then x.noLog else dead vm x.noLog A
end St
end Go.Proofs.YtiiggmfindfkfaaGreat
