/-
  Regions that draw their order, of reads and one call behind them; no condition.
-/
import Derived.Test.YtalaalpafafpbaaDoorMtOpen
import Derived.StillTailTactics
namespace Go.Proofs.YtalaalpafafpbaaDoor
open Go.RowKit
namespace Mt
/-- A goal that nobody looks into. -/
structure Sealed (p : Prop) : Prop where
  out : p
theorem seal_next {ops : Array Oper} {w : World} {Q : Act → Prop} {a : Act} {o : Oper} {rest : List Oper}
    (h : ∀ K : Act → Prop, (∀ a, Sealed (wpStill Tryd.prog ops w Q rest a) → K a) → if Region.wanted o (yielded ops a.tmps) then o.still Tryd.prog a w K else K (a.put o.dst undef)) : Sealed (wpStill Tryd.prog ops w Q (o :: rest) a) :=
  ⟨h _ (fun _ h => h.out)⟩
theorem seal_nil {ops : Array Oper} {w : World} {Q : Act → Prop} {a : Act} (h : Q a) : Sealed (wpStill Tryd.prog ops w Q [] a) := ⟨h⟩
theorem seal_tail {id : Nat} {Q : Exit → Act → World → Prop} {a : Act} {w : World} {l : List Oper} {S : World → Prop} (n : Nat) (hm : Tryd.prog.follows .mixedOrders = true) (hB : Region.lexTailB .any l.toArray n = true) (hS : S w.drew)
    (h : ∀ w', S w' → Sealed (wpStill Tryd.prog l.toArray w' (fun a' => wpList Tryd.prog l.toArray Q (l.drop n) a' w') (l.take n) a)) : (Code.region id l.toArray true).wp Tryd.prog Q a w :=
  wp_region_still_tail n hm hB (h w.drew hS).out
/-! ### The least clock -/
theorem leastF_spec (L : List Ent) (b : Nat → Bool) (N : Nat) :
    (∀ k, k < N → b k = true → 0 ≤ leastF L b N ∧ clk L (leastF L b N).toNat ≤ clk L k ∧ ((k : Int) < leastF L b N → clk L (leastF L b N).toNat < clk L k)) ∧ (0 ≤ leastF L b N → b (leastF L b N).toNat = true) := by
  induction N with
  | zero => exact ⟨fun k hk => absurd hk (Nat.not_lt_zero _), fun h => absurd h (by show ¬ (0 : Int) ≤ -1; decide)⟩
  | succ N ih =>
    have rg := leastF_range L b N
    obtain ⟨i1, i2⟩ := ih
    unfold leastF
    by_cases h : b N = true ∧ (leastF L b N < 0 ∨ clk L N < clk L (leastF L b N).toNat)
    · rw [if_pos h]
      refine ⟨fun k hk hb => ⟨by omega, ?_, fun hlt => ?_⟩, fun _ => by simpa using h.1⟩
      · rw [Int.toNat_natCast]
        by_cases e : k = N
        · subst e; exact Int.le_refl _
        · have := i1 k (by omega) hb
          rcases h.2 with g | g <;> omega
      · rw [Int.toNat_natCast]
        have := i1 k (by omega) hb
        rcases h.2 with g | g <;> omega
    · rw [if_neg h]
      refine ⟨fun k hk hb => ?_, i2⟩
      by_cases e : k = N
      · subst e
        have h0 : ¬ leastF L b k < 0 := fun g => h ⟨hb, .inl g⟩
        have h1 : ¬ clk L k < clk L (leastF L b k).toNat := fun g => h ⟨hb, .inr g⟩
        exact ⟨by omega, by omega, fun g => by omega⟩
      · exact i1 k (by omega) hb
/-- Is one told? -/
def anyF (b : Nat → Bool) : Nat → Bool
  | 0 => false
  | k + 1 => anyF b k || b k
theorem anyF_no (b : Nat → Bool) (N : Nat) (h : anyF b N = false) (L : List Ent) : leastF L b N = -1 := by
  induction N with
  | zero => rfl
  | succ N ih =>
    have h : (anyF b N || b N) = false := h
    simp at h
    unfold leastF
    rw [if_neg (fun g => by rw [h.2] at g; exact absurd g.1 (by decide)), ih h.1]
theorem anyF_yes (b : Nat → Bool) (N : Nat) (h : anyF b N = true) : ∃ k, k < N ∧ b k = true := by
  induction N with
  | zero => cases h
  | succ N ih =>
    have h : (anyF b N || b N) = true := h
    simp at h
    rcases h with h | h
    · obtain ⟨k, hk, hb⟩ := ih h; exact ⟨k, by omega, hb⟩
    · exact ⟨N, by omega, h⟩
end Mt
end Go.Proofs.YtalaalpafafpbaaDoor
