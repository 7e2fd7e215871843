/-
  Two frames are held against each other; no condition.
-/
import Derived.Test.YtdjglmfilhodlaaPhFill
namespace Go.Proofs.Ytdjglmfilhodlaa
open Go.RowKit
namespace Ph
theorem forIn_all {β : Type} (P : Program) (w : World) (f : Nat → β → Sem (ForInStep β)) (good : Nat → Bool) (b0 b1 : β) : ∀ l : List Nat,
    (∀ i ∈ l, good i = true → (f i b0).run P w = .ok (.yield b0) w) → (∀ i ∈ l, good i = false → (f i b0).run P w = .ok (.done b1) w) →
    (forIn l b0 f : Sem β).run P w = .ok (if l.all good = true then b0 else b1) w
  | [], _, _ => by simp
  | i :: l, hy, hn => by
    rw [List.forIn_cons, Sem.run_bind]
    cases h : good i
    · rw [hn i (List.mem_cons_self ..) h]
      simp [h]
    · rw [hy i (List.mem_cons_self ..) h]
      simp only [Result.andThen_ok, List.all_cons, h, Bool.true_and]
      exact forIn_all P w f good b0 b1 l (fun j hj => hy j (List.mem_cons_of_mem _ hj)) (fun j hj => hn j (List.mem_cons_of_mem _ hj))
theorem all_eqN (z z' : Nat → Int) : (List.range' 0 256).all (fun i => z i == z' i) = eqN 256 z z' := by
  unfold eqN
  rw [Bool.eq_iff_iff, List.all_eq_true, decide_eq_true_iff]
  constructor
  · intro h j hj
    have := h j (by rw [List.mem_range'_1]; omega)
    simpa using this
  · intro h j hj
    rw [List.mem_range'_1] at hj
    simpa using h j (by omega)
set_option maxRecDepth 100000 in
theorem eqFrame (z z' : Nat → Int) (w : World) : (Op.equalIn 10000 74 (.agg (vsN 256 z).toArray) (.agg (vsN 256 z').toArray)).run Try.prog w = .ok (eqN 256 z z') w := by
  have u3 := Try.underlying5
  have a3 := Try.isAgg5
  have z3 := Try.sizeOf5
  have g : ∀ (y : Nat → Int) (i : Nat), i < 256 → (part 5 (vsN 256 y).toArray i).run Try.prog w = .ok (.int .u8 (y i)) w := fun y i hi => by
    unfold part
    rw [Sem.run_bind, a3]
    simp only [Result.andThen_ok, Bool.false_eq_true, if_false, List.getElem?_toArray, vsN_at 256 y i hi]
    rfl
  have e : ∀ a b : Int, (Op.equalIn 9999 5 (.int .u8 a) (.int .u8 b)).run Try.prog w = .ok (a == b) w := fun a b => by
    rw [show (9999 : Nat) = 9998 + 1 from rfl, Op.equalIn]
    simp [run_underlying u3]
  rw [show (10000 : Nat) = 9999 + 1 from rfl, Op.equalIn]
  simp only [Sem.run_bind, run_underlying Try.underlying74, Result.andThen_ok]
  simp only [z3, Result.andThen_ok, Std.Legacy.Range.forIn_eq_forIn_range', Std.Legacy.Range.size, Nat.sub_zero, Nat.add_sub_cancel, Nat.div_one]
  rw [forIn_all Try.prog w _ (fun i => z i == z' i) _ ⟨some false, PUnit.unit⟩]
  · rw [all_eqN]
    cases eqN 256 z z' <;> simp
  · intro i hi hg
    rw [List.mem_range'_1] at hi
    simp [Sem.run_bind, g _ _ (show i < 256 by omega), e, hg]
  · intro i hi hg
    rw [List.mem_range'_1] at hi
    simp [Sem.run_bind, g _ _ (show i < 256 by omega), e, hg]
theorem neqFrame (z z' : Nat → Int) (w : World) : (binOp .neq 74 (.agg (vsN 256 z).toArray) (.agg (vsN 256 z').toArray)).run Try.prog w = .ok (.bool (!eqN 256 z z')) w := by
  simp only [binOp]
  simp [Op.equal, Op.maxDepth, eqFrame]
end Ph
end Go.Proofs.Ytdjglmfilhodlaa
