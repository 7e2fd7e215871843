/-
  What frames's New, owns, Give and Move answer. Conditions: that a table lies there.
-/
import Derived.Test.YtgeagnpgcjjifaaFrTake
namespace Go.Proofs.Ytgeagnpgcjjifaa
open Go.RowKit
namespace Fr
open Ph (Only)

/-- What owns answers. -/
def ownsP (o f : Int) (os : List Nat) : Int := if f < 0 ∨ (os.length : Int) ≤ f ∨ tk o = false then 11 else if ((os[f.toNat]?.getD 0 : Nat) : Int) ≠ o then 16 else 0
theorem owns_any (t F : Nat) (o f : Int) (os : List Nat) (w : World) (hT : Tab w t F os) :
    Calls Try.prog 28 #[.pointer (some ⟨t, 0, none⟩), .int .i64 o, .int .i64 f] w fun e w' => e = .returned (.int .i64 (ownsP o f os)) ∧ w = w' := by
  have hh := hT.tb.head
  have HR := Lib.hid hT.tb.row
  clear hT
  by_cases h1 : f < 0
  · have e : ownsP o f os = 11 := by unfold ownsP; rw [if_pos (Or.inl h1)]
    rw [e]
    clear e
    have d1 : decide (f < 0) = true := decide_eq_true h1
    go_enter Try.func28, Try.ntmps28
    go_wp2_with fail
    go_ret
    exact ⟨rfl, rfl⟩
  by_cases h2 : (os.length : Int) ≤ f
  · have e : ownsP o f os = 11 := by unfold ownsP; rw [if_pos (Or.inr (Or.inl h2))]
    rw [e]
    clear e
    go_enter Try.func28, Try.ntmps28
    go_wp2_with fail
    go_ret
    exact ⟨rfl, rfl⟩
  obtain ⟨k, rfl⟩ : ∃ k : Nat, f = k := ⟨f.toNat, by omega⟩
  cases htk : tk o with
  | false =>
    have e : ownsP o k os = 11 := by unfold ownsP; rw [if_pos (Or.inr (Or.inr htk))]
    rw [e]
    clear e
    go_enter Try.func28, Try.ntmps28
    go_wp2_with (go_at_call 30; refine (takes_any o _).mono ?_; rintro e w1 ⟨rfl, rfl⟩; rw [htk])
    go_ret
    exact ⟨rfl, rfl⟩
  | true =>
    have hk : k < os.length := by omega
    obtain ⟨x, hx⟩ : ∃ x, os[k]? = some x := ⟨os[k], List.getElem?_eq_getElem hk⟩
    have hc := HR.out.cell k x hx
    have e : ownsP o k os = if (x : Int) ≠ o then 16 else 0 := by
      unfold ownsP
      rw [if_neg (by rw [htk]; simp; omega), show (k : Int).toNat = k from rfl, hx]
      rfl
    rw [e]
    clear e hx
    by_cases hxo : (x : Int) = o
    · have d : ((x : Int) == o) = true := by simp; exact hxo
      rw [if_neg (by simp; exact hxo)]
      go_enter Try.func28, Try.ntmps28
      go_wp2_with (go_at_call 30; refine (takes_any o _).mono ?_; rintro e w1 ⟨rfl, rfl⟩; rw [htk])
      go_ret
      exact ⟨rfl, rfl⟩
    · have d : ((x : Int) == o) = false := by simp; exact hxo
      rw [if_pos hxo]
      go_enter Try.func28, Try.ntmps28
      go_wp2_with (go_at_call 30; refine (takes_any o _).mono ?_; rintro e w1 ⟨rfl, rfl⟩; rw [htk])
      go_ret
      exact ⟨rfl, rfl⟩
/-- What moving answers, by what owns does. -/
theorem mvP_owns (f a b : Int) (os : List Nat) (hb : b = 0 ∨ tk b = true) : mvP f a b os = if ownsP a f os = 0 then (0, os.set f.toNat b.toNat) else (ownsP a f os, os) := by
  have hb' : ¬ (b ≠ 0 ∧ tk b = false) := by
    rintro ⟨h1, h2⟩
    rcases hb with h | h
    · exact h1 h
    · rw [h] at h2; cases h2
  unfold mvP ownsP
  by_cases h : f < 0 ∨ (os.length : Int) ≤ f ∨ tk a = false
  · rw [if_pos (by rcases h with h | h | h <;> simp [h]), if_pos h]
    rfl
  · rw [if_neg (by
      rintro (h1 | h1 | h1 | h1)
      · exact h (Or.inl h1)
      · exact h (Or.inr (Or.inl h1))
      · exact h (Or.inr (Or.inr h1))
      · exact hb' h1), if_neg h]
    split
    · rfl
    · rfl
theorem owns_ok {o f : Int} {os : List Nat} (h : ownsP o f os = 0) : ∃ (k x : Nat), f = k ∧ o = x ∧ os[k]? = some x ∧ 1 ≤ x ∧ x ≤ 9 := by
  unfold ownsP at h
  split at h
  · cases h
  · rename_i h1
    split at h
    · cases h
    · rename_i h2
      have h3 : tk o = true := by
        cases e : tk o with
        | true => rfl
        | false => exact absurd (Or.inr (Or.inr e)) h1
      obtain ⟨q, rfl, hq1, hq9⟩ := tk_nat h3
      have hf0 : ¬ f < 0 := fun x => h1 (Or.inl x)
      have hfl : ¬ (os.length : Int) ≤ f := fun x => h1 (Or.inr (Or.inl x))
      refine ⟨f.toNat, q, by omega, rfl, ?_, hq1, hq9⟩
      have hl : f.toNat < os.length := by omega
      rw [List.getElem?_eq_getElem hl] at h2 ⊢
      simp at h2
      congr 1
      omega
theorem owns_err {o f : Int} {os : List Nat} : ownsP o f os = 0 ∨ ownsP o f os = 11 ∨ ownsP o f os = 16 := by
  unfold ownsP
  split
  · simp
  · split <;> simp
theorem give_any (t F : Nat) (o f : Int) (os : List Nat) (w : World) (hT : Tab w t F os) :
    Calls Try.prog 20 #[.pointer (some ⟨t, 0, none⟩), .int .i64 o, .int .i64 f] w fun e w' => e = .returned (.int .i64 (mvP f o 0 os).1) ∧ Tab w' t F (mvP f o 0 os).2 ∧ Only [t, F] w w' := by
  rw [mvP_owns f o 0 os (Or.inl rfl)]
  have HO := Lib.hid (owns_any t F o f os w hT)
  have HT := Lib.hid hT
  clear hT
  by_cases h : ownsP o f os = 0
  · obtain ⟨k, x, rfl, rfl, hx, h1, h9⟩ := owns_ok h
    have HP := Lib.hid (pass_any t F k x 0 os w HT.out hx (by omega))
    rw [if_pos h]
    rw [h] at HO
    clear hx
    go_enter Try.func20, Try.ntmps20
    go_wp2_with (first | (go_at_call 28; refine HO.out.mono ?_; rintro e w1 ⟨rfl, rfl⟩) | (go_at_call 29; refine HP.out.mono ?_; rintro e w1 ⟨rfl, hT1, hO1⟩))
    go_ret
    exact ⟨rfl, hT1, hO1⟩
  · rw [if_neg h]
    rcases owns_err (o := o) (f := f) (os := os) with h0 | h0 | h0
    · exact absurd h0 h
    · rw [h0] at HO ⊢
      clear h
      go_enter Try.func20, Try.ntmps20
      go_wp2_with (go_at_call 28; refine HO.out.mono ?_; rintro e w1 ⟨rfl, rfl⟩)
      go_ret
      exact ⟨rfl, HT.out, Only.refl _ _⟩
    · rw [h0] at HO ⊢
      clear h
      go_enter Try.func20, Try.ntmps20
      go_wp2_with (go_at_call 28; refine HO.out.mono ?_; rintro e w1 ⟨rfl, rfl⟩)
      go_ret
      exact ⟨rfl, HT.out, Only.refl _ _⟩
theorem tk_zero : tk 0 = false := rfl
theorem moveP_tk (f a b : Int) (os : List Nat) : moveP f a b os = if tk b = true then (if ownsP a f os = 0 then (0, os.set f.toNat b.toNat) else (ownsP a f os, os)) else (11, os) := by
  unfold moveP
  by_cases hb : b = 0
  · subst hb
    rw [if_pos rfl, tk_zero, if_neg (by simp)]
  · rw [if_neg hb]
    cases h : tk b with
    | true => rw [mvP_owns f a b os (Or.inr h), if_pos rfl]
    | false =>
      rw [if_neg (by simp)]
      unfold mvP
      rw [if_pos (Or.inr (Or.inr (Or.inr ⟨hb, h⟩)))]
theorem move_any (t F : Nat) (f a b : Int) (os : List Nat) (w : World) (hT : Tab w t F os) :
    Calls Try.prog 21 #[.pointer (some ⟨t, 0, none⟩), .int .i64 f, .int .i64 a, .int .i64 b] w fun e w' => e = .returned (.int .i64 (moveP f a b os).1) ∧ Tab w' t F (moveP f a b os).2 ∧ Only [t, F] w w' := by
  rw [moveP_tk]
  have HO := Lib.hid (owns_any t F a f os w hT)
  have HT := Lib.hid hT
  clear hT
  cases htk : tk b with
  | false =>
    rw [if_neg (by simp)]
    go_enter Try.func21, Try.ntmps21
    go_wp2_with (go_at_call 30; refine (takes_any b _).mono ?_; rintro e w1 ⟨rfl, rfl⟩; rw [htk])
    go_ret
    exact ⟨rfl, HT.out, Only.refl _ _⟩
  | true =>
    rw [if_pos rfl]
    obtain ⟨q, rfl, hq1, hq9⟩ := tk_nat htk
    by_cases h : ownsP a f os = 0
    · obtain ⟨k, x, rfl, rfl, hx, h1, h9⟩ := owns_ok h
      have HP := Lib.hid (pass_any t F k x q os w HT.out hx hq9)
      rw [if_pos h]
      rw [h] at HO
      clear hx
      go_enter Try.func21, Try.ntmps21
      go_wp2_with (first | (go_at_call 30; refine (takes_any (q : Int) _).mono ?_; rintro e w1 ⟨rfl, rfl⟩; rw [htk]) | (go_at_call 28; refine HO.out.mono ?_; rintro e w1 ⟨rfl, rfl⟩) | (go_at_call 29; refine HP.out.mono ?_; rintro e w1 ⟨rfl, hT1, hO1⟩))
      go_ret
      exact ⟨rfl, hT1, hO1⟩
    · rw [if_neg h]
      rcases owns_err (o := a) (f := f) (os := os) with h0 | h0 | h0
      · exact absurd h0 h
      · rw [h0] at HO ⊢
        clear h
        go_enter Try.func21, Try.ntmps21
        go_wp2_with (first | (go_at_call 30; refine (takes_any (q : Int) _).mono ?_; rintro e w1 ⟨rfl, rfl⟩; rw [htk]) | (go_at_call 28; refine HO.out.mono ?_; rintro e w1 ⟨rfl, rfl⟩))
        go_ret
        exact ⟨rfl, HT.out, Only.refl _ _⟩
      · rw [h0] at HO ⊢
        clear h
        go_enter Try.func21, Try.ntmps21
        go_wp2_with (first | (go_at_call 30; refine (takes_any (q : Int) _).mono ?_; rintro e w1 ⟨rfl, rfl⟩; rw [htk]) | (go_at_call 28; refine HO.out.mono ?_; rintro e w1 ⟨rfl, rfl⟩))
        go_ret
        exact ⟨rfl, HT.out, Only.refl _ _⟩
end Fr
end Go.Proofs.Ytgeagnpgcjjifaa
