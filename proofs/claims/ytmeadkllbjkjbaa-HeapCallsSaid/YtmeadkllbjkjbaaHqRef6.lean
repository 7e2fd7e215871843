/-
  What the document's own Push and Change answer, and leave. Conditions: that its heap lies there, no number twice.
-/
import Derived.Test.YtmeadkllbjkjbaaHqRef5
namespace Go.Proofs.Ytmeadkllbjkjbaa
open Go.RowKit
namespace Hq
open Ph (Only)
open Wh (Srt Uni ins del has mem_ins has_iff len_ins)
set_option maxRecDepth 100000 in
set_option maxHeartbeats 4000000 in
theorem rpush_any (r : Nat) (H : List Nat) (l : List ItT) (d : Int) (k : Nat) (w : World) (hl : l.length ≤ 900) (hR : RW w r H l) :
    Calls Try.prog 10 #[.pointer (some ⟨r, 0, none⟩), .int .i64 d, .int .u64 (k : Nat)] w fun e w' => ∃ H', e = .returned (.int .i64 (pshE d l)) ∧ RW w' r H' (pshL d k l) ∧ Only H w w' ∧ ∀ x ∈ H', x ∈ H ∨ w.heap.size ≤ x := by
  have HR := Lib.hid hR
  have hic := ix_can d l
  have HX := Lib.hid (index_any r H l d w (by omega) hR)
  clear hR
  by_cases g1 : d < 0 ∨ 63 < d
  · have e1 : pshE d l = 11 := by unfold pshE; rw [if_pos g1]
    have e2 : pshL d k l = l := by unfold pshL; rw [if_neg (by rw [e1]; decide)]
    rw [e1, e2]
    clear e1 e2 hic HX
    by_cases h1 : d < 0
    · have d1 : decide (d < 0) = true := decide_eq_true h1
      clear g1
      go_enter Try.func10, Try.ntmps10
      go_wp2_with fail
      go_ret
      first | exact ⟨H, rfl, HR.out, Only.refl _ _, fun x hx => Or.inl hx⟩ | exact ⟨rfl, H, HR.out, Only.refl _ _, fun x hx => Or.inl hx⟩
    · have d1 : decide (d < 0) = false := decide_eq_false h1
      have h2 : 63 < d := by omega
      have d2 : decide (63 < d) = true := decide_eq_true h2
      clear g1
      go_enter Try.func10, Try.ntmps10
      go_wp2_with fail
      go_ret
      first | exact ⟨H, rfl, HR.out, Only.refl _ _, fun x hx => Or.inl hx⟩ | exact ⟨rfl, H, HR.out, Only.refl _ _, fun x hx => Or.inl hx⟩
  · obtain ⟨dn, rfl⟩ : ∃ dn : Nat, d = (dn : Int) := ⟨d.toNat, by omega⟩
    have d1 : decide ((dn : Int) < 0) = false := decide_eq_false (by omega)
    have d2 : decide (63 < (dn : Int)) = false := decide_eq_false (by omega)
    have h1 : ¬ (dn : Int) < 0 := by omega
    have h2 : ¬ 63 < (dn : Int) := by omega
    have hcb : rmB dn l = has dn l := by unfold rmB; rw [decide_eq_true (by omega : (0 : Int) ≤ dn), Bool.true_and, Int.toNat_natCast]
    rw [hcb] at hic
    cases hb : has dn l with
    | true =>
      have e1 : pshE dn l = 13 := by unfold pshE; rw [if_neg g1, Int.toNat_natCast, if_pos hb]
      have e2 : pshL dn k l = l := by unfold pshL; rw [if_neg (by rw [e1]; decide)]
      rw [e1, e2]
      rw [hb] at hic
      generalize ixN dn 0 l = ix at *
      have hix : (0 : Int) ≤ ix := of_decide_eq_true hic
      clear e1 e2 g1 hcb hb
      go_enter Try.func10, Try.ntmps10
      go_wp2_with (go_at_call 25; refine HX.out.mono ?_; rintro e w1 ⟨rfl, rfl⟩)
      go_ret
      first | exact ⟨H, rfl, HR.out, Only.refl _ _, fun x hx => Or.inl hx⟩ | exact ⟨rfl, H, HR.out, Only.refl _ _, fun x hx => Or.inl hx⟩
    | false =>
      have e1 : pshE dn l = 0 := by unfold pshE; rw [if_neg g1, Int.toNat_natCast, if_neg (by rw [hb]; decide)]
      have e2 : pshL dn k l = ins (dn, k) l := by unfold pshL; rw [if_pos e1, Int.toNat_natCast]
      rw [e1, e2]
      rw [hb] at hic
      generalize ixN dn 0 l = ix at *
      have hix : ¬ (0 : Int) ≤ ix := of_decide_eq_false hic
      have CP := Lib.hid (put_any r H l dn k w (by omega) HR.out)
      clear e1 e2 g1 hcb hb
      go_enter Try.func10, Try.ntmps10
      go_wp2_with (first | (go_at_call 25; refine HX.out.mono ?_; rintro e w1 ⟨rfl, rfl⟩) | (go_at_call 26; refine CP.out.mono ?_; rintro e w2 ⟨H2, rfl, hR2, hO2, hF2⟩; have R2 := Lib.hid hR2; have O2 := Lib.hid hO2; have F2 := Lib.hid hF2; clear hR2 hO2 hF2))
      go_ret
      first | exact ⟨H2, rfl, R2.out, O2.out, F2.out⟩ | exact ⟨rfl, H2, R2.out, O2.out, F2.out⟩
/-- One growth behind another. -/
theorem only_then {A B C : List Nat} {w w1 w2 : World} (h1 : Only A w w1) (f1 : ∀ x ∈ B, x ∈ A ∨ w.heap.size ≤ x) (h2 : Only B w1 w2) (f2 : ∀ x ∈ C, x ∈ B ∨ w1.heap.size ≤ x) : Only A w w2 ∧ ∀ x ∈ C, x ∈ A ∨ w.heap.size ≤ x := by
  refine ⟨((h1.mono (S' := A ++ B) (fun x hx => List.mem_append_left _ hx)).trans (h2.mono (fun x hx => List.mem_append_right _ hx))).back (n := w.heap.size) (fun x hx => ?_) (Nat.le_refl _), fun x hx => ?_⟩
  · rcases List.mem_append.1 hx with h | h
    · exact Or.inl h
    · exact f1 x h
  · rcases f2 x hx with h | h
    · exact f1 x h
    · exact Or.inr (Nat.le_trans h1.size h)
set_option maxRecDepth 100000 in
set_option maxHeartbeats 4000000 in
theorem rchg_any (r : Nat) (H : List Nat) (l : List ItT) (d : Int) (k : Nat) (w : World) (hl : l.length ≤ 900) (hu : Uni l) (hR : RW w r H l) :
    Calls Try.prog 15 #[.pointer (some ⟨r, 0, none⟩), .int .i64 d, .int .u64 (k : Nat)] w fun e w' => ∃ H', e = .returned (.int .i64 (chE d l)) ∧ RW w' r H' (chL d k l) ∧ Only H w w' ∧ ∀ x ∈ H', x ∈ H ∨ w.heap.size ≤ x := by
  have HR := Lib.hid hR
  have HX := Lib.hid (rrem_any r H l d w (by omega) hu hR)
  clear hR
  by_cases g1 : d < 0 ∨ 63 < d
  · have e1 : chE d l = 11 := by unfold chE; rw [if_pos g1]
    have e2 : chL d k l = l := by unfold chL; rw [if_neg (by rw [e1]; decide)]
    rw [e1, e2]
    clear e1 e2 HX
    by_cases h1 : d < 0
    · have d1 : decide (d < 0) = true := decide_eq_true h1
      clear g1
      go_enter Try.func15, Try.ntmps15
      go_wp2_with fail
      go_ret
      first | exact ⟨H, rfl, HR.out, Only.refl _ _, fun x hx => Or.inl hx⟩ | exact ⟨rfl, H, HR.out, Only.refl _ _, fun x hx => Or.inl hx⟩
    · have d1 : decide (d < 0) = false := decide_eq_false h1
      have h2 : 63 < d := by omega
      have d2 : decide (63 < d) = true := decide_eq_true h2
      clear g1
      go_enter Try.func15, Try.ntmps15
      go_wp2_with fail
      go_ret
      first | exact ⟨H, rfl, HR.out, Only.refl _ _, fun x hx => Or.inl hx⟩ | exact ⟨rfl, H, HR.out, Only.refl _ _, fun x hx => Or.inl hx⟩
  · obtain ⟨dn, rfl⟩ : ∃ dn : Nat, d = (dn : Int) := ⟨d.toNat, by omega⟩
    have d1 : decide ((dn : Int) < 0) = false := decide_eq_false (by omega)
    have d2 : decide (63 < (dn : Int)) = false := decide_eq_false (by omega)
    have h1 : ¬ (dn : Int) < 0 := by omega
    have h2 : ¬ 63 < (dn : Int) := by omega
    have hcb : rmB dn l = has dn l := by unfold rmB; rw [decide_eq_true (by omega : (0 : Int) ≤ dn), Bool.true_and, Int.toNat_natCast]
    cases hb : has dn l with
    | false =>
      have e1 : chE dn l = 12 := by unfold chE; rw [if_neg g1, Int.toNat_natCast, if_neg (by rw [hb]; decide)]
      have e2 : chL dn k l = l := by unfold chL; rw [if_neg (by rw [e1]; decide)]
      have e3 : rmL dn l = l := rm_no (by rw [hcb, hb])
      rw [e1, e2]
      rw [hcb, hb, e3] at HX
      clear e1 e2 e3 g1 hcb hb
      go_enter Try.func15, Try.ntmps15
      go_wp2_with (go_at_call 12; refine HX.out.mono ?_; rintro e w2 ⟨H2, rfl, hR2, hO2, hF2⟩; have R2 := Lib.hid hR2; have O2 := Lib.hid hO2; have F2 := Lib.hid hF2; clear hR2 hO2 hF2)
      go_ret
      first | exact ⟨H2, rfl, R2.out, O2.out, F2.out⟩ | exact ⟨rfl, H2, R2.out, O2.out, F2.out⟩
    | true =>
      have e1 : chE dn l = 0 := by unfold chE; rw [if_neg g1, Int.toNat_natCast, if_pos hb]
      have e2 : chL dn k l = ins (dn, k) (del dn l) := by unfold chL; rw [if_pos e1, Int.toNat_natCast]
      have e3 : rmL dn l = del dn l := by unfold rmL; rw [hcb, if_pos hb, Int.toNat_natCast]
      rw [e1, e2]
      rw [hcb, hb, e3] at HX
      have hld : (del dn l).length ≤ 1000 := Nat.le_trans (List.length_filter_le _ _) (by omega)
      generalize del dn l = m at *
      clear e1 e2 e3 g1 hcb hb
      go_enter Try.func15, Try.ntmps15
      go_wp2_with (first | (go_at_call 12; refine HX.out.mono ?_; rintro e w2 ⟨H2, rfl, hR2, hO2, hF2⟩; have R2 := Lib.hid hR2; have O2 := Lib.hid hO2; have F2 := Lib.hid hF2; clear hR2 hO2 hF2) | (go_at_call 26; refine (put_any r H2 m dn k w2 hld R2.out).mono ?_; rintro e w3 ⟨H3, rfl, hR3, hO3, hF3⟩; have R3 := Lib.hid hR3; have O3 := Lib.hid hO3; have F3 := Lib.hid hF3; clear hR3 hO3 hF3))
      go_ret
      obtain ⟨ho, hf⟩ := only_then O2.out F2.out O3.out F3.out
      first | exact ⟨H3, rfl, R3.out, ho, hf⟩ | exact ⟨rfl, H3, R3.out, ho, hf⟩
end Hq
end Go.Proofs.Ytmeadkllbjkjbaa
