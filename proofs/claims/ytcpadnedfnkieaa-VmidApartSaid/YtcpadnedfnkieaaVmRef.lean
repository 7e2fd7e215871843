/-
  What the document's own New, Take, Give and Dropped answer, and leave. Conditions: that its pool lies there.
-/
import Derived.Test.YtcpadnedfnkieaaVmDrop
namespace Go.Proofs.Ytcpadnedfnkieaa
open Go.RowKit
namespace Vm
open Ph (Only)

theorem rnew_any (n : Nat) (w : World) (h2 : n ≤ 255) :
    Calls Try.prog 9 #[.int .i64 n] w fun e w' => e = .returned (.pointer (some ⟨w.heap.size + 1, 0, none⟩)) ∧ Pl w' (w.heap.size + 1) w.heap.size n (fun _ => 0) ∧ Only [] w w' := by
  have hm := fun wx => made_ints n wx (by omega)
  have hr := Lib.hid (made_row n 3 w)
  go_enter Try.func9, Try.ntmps9
  go_wp2_with fail
  go_ret
  have hL := Lay.new (w.alloc (.cells (madeCells #[.int .i64 0] n) 3)) 38 [.slice (some ⟨w.heap.size, 0, none⟩) n n]
  rw [World.size_alloc] at hL
  have hO := Only.alloc [] (w.alloc (.cells (madeCells #[.int .i64 0] n) 3)) (.cells #[.slice (some ⟨w.heap.size, 0, none⟩) n n] 38)
  exact ⟨rfl, ⟨hL.lt, by omega, hL.cell 0, hr.out.kept hO (by simp)⟩, (Only.alloc [] w _).trans hO⟩
theorem lst_next (v : Int) (s : Nat → Int) (i : Nat) : (lst v s (i + 1)).isSome = ((lst v s i).isSome || (s i == v)) := by
  conv => lhs; unfold lst
  cases lst v s i with
  | some k => rfl
  | none =>
    simp only
    by_cases h : s i = v
    · rw [if_pos h, h]; simp
    · rw [if_neg h]; simp [h]
set_option maxRecDepth 100000 in
set_option maxHeartbeats 1000000 in
theorem rtake_any (r G m : Nat) (s : Nat → Int) (w : World) (hm : m ≤ 255) (hP : Pl w r G m s) :
    Calls Try.prog 11 #[.pointer (some ⟨r, 0, none⟩)] w fun e w' => e = .returned (.tuple #[.int .i64 (tkP s m).1, .int .i64 (tkP s m).2.1]) ∧ Pl w' r G m (tkP s m).2.2 ∧ Only [G] w w' := by
  have HP := Lib.hid hP
  have hh := hP.head
  have hlt := hP.row.lt
  clear hP
  go_enter Try.func11, Try.ntmps11
  go_wp2_with fail
  go_loopw [4, 5] (fun st c wr => ∃ i : Nat, c = .int .i64 i ∧ st = .bool (lst 2 s i).isSome ∧ i ≤ m ∧ (∀ j, j < i → s j ≠ 0) ∧ w = wr) (fun _ c _ => m - (intOf c).toNat)
  case atStart => exact ⟨0, rfl, rfl, Nat.zero_le _, fun j hj => absurd hj (by omega), rfl⟩
  case round =>
    obtain ⟨i, rfl, rfl, hi, hno, rfl⟩ := hrel
    have HNO := Lib.hid hno
    clear hno
    by_cases hil : i < m
    · have hc := HP.out.row.cell i hil
      have hf := HP.out.row.free i hil
      by_cases h0 : s i = 0
      · have e : tkP s m = ((i : Int) + 1, 0, upd s i 1) := by unfold tkP; rw [lst_at hil h0 HNO.out]
        have HE := Lib.hid e
        rw [h0] at hc
        clear e h0
        go_wp2_with fail
        go_ret2
        rw [HE.out]
        exact ⟨rfl, (HP.out.set i 1 hil).1, (HP.out.set i 1 hil).2⟩
      · have d0 : ((s i : Int) == 0) = false := by simp; exact h0
        have H0 := Lib.hid h0
        have hst := lst_next 2 s i
        clear h0
        cases hl : (lst 2 s i).isSome with
        | true =>
          rw [hl, Bool.true_or] at hst
          clear hl
          have HST := Lib.hid hst
          clear hst
          go_wp2_with fail
          go_roundw
          case rel =>
            have st : ∀ j, j < i + 1 → s j ≠ 0 := fun j hj => by
              by_cases e : j = i
              · subst e; exact H0.out
              · exact HNO.out j (by omega)
            exact ⟨i + 1, rfl, by rw [HST.out], by omega, st, by trivial⟩
          case measure => simp only [intOf, Int.toNat_natCast]; omega
        | false =>
          rw [hl, Bool.false_or] at hst
          clear hl
          have HST := Lib.hid hst
          clear hst
          go_wp2_with fail
          go_roundw
          case rel =>
            have st : ∀ j, j < i + 1 → s j ≠ 0 := fun j hj => by
              by_cases e : j = i
              · subst e; exact H0.out
              · exact HNO.out j (by omega)
            exact ⟨i + 1, rfl, by rw [HST.out], by omega, st, by trivial⟩
          case measure => simp only [intOf, Int.toNat_natCast]; omega
    · have e : i = m := by omega
      subst e
      have hl0 : lst 0 s i = none := lst_no HNO.out
      cases hl : (lst 2 s i).isSome with
      | true =>
        have e : tkP s i = (0, 17, s) := by unfold tkP; rw [hl0]; simp only; rw [if_pos hl]
        have HE := Lib.hid e
        clear e hl hl0
        go_wp2_with fail
        go_ret2
        rw [HE.out]
        exact ⟨rfl, HP.out, Only.refl _ _⟩
      | false =>
        have e : tkP s i = (0, 15, s) := by unfold tkP; rw [hl0]; simp only; rw [if_neg (by rw [hl]; simp)]
        have HE := Lib.hid e
        clear e hl hl0
        go_wp2_with fail
        go_ret2
        rw [HE.out]
        exact ⟨rfl, HP.out, Only.refl _ _⟩
theorem rgive_any (r G m : Nat) (s : Nat → Int) (n : Int) (w : World) (hm : m ≤ 255) (hP : Pl w r G m s) :
    Calls Try.prog 13 #[.pointer (some ⟨r, 0, none⟩), .int .i64 n] w fun e w' => e = .returned (.int .i64 (gvP s m n).1) ∧ Pl w' r G m (gvP s m n).2 ∧ Only [G] w w' := by
  have HP := Lib.hid hP
  have hh := hP.head
  have hlt := hP.row.lt
  clear hP
  by_cases h1 : 1 ≤ n
  · by_cases h2 : n ≤ m
    · obtain ⟨i, rfl⟩ : ∃ i : Nat, n = (i : Int) + 1 := ⟨(n - 1).toNat, by omega⟩
      have hi : i < m := by omega
      have e1 : ((i : Int) + 1 - 1).toNat = i := by omega
      have hc := HP.out.row.cell i hi
      have hf := HP.out.row.free i hi
      have hno : ¬ ((i : Int) + 1 < 1 ∨ (m : Int) < (i : Int) + 1) := by omega
      by_cases h3 : s i = 1
      · have e : gvP s m ((i : Int) + 1) = (0, upd s i 2) := by unfold gvP; rw [if_neg hno, e1, if_neg (by simp [h3])]
        rw [e]
        rw [h3] at hc
        clear e h1 h2 h3 hno e1
        go_enter Try.func13, Try.ntmps13
        go_wp2_with fail
        go_ret
        exact ⟨rfl, (HP.out.set i 2 hi).1, (HP.out.set i 2 hi).2⟩
      · have e : gvP s m ((i : Int) + 1) = (12, s) := by unfold gvP; rw [if_neg hno, e1, if_pos h3]
        have d : ((s i : Int) != 1) = true := by simp; exact h3
        rw [e]
        clear e h1 h2 h3 hno e1
        go_enter Try.func13, Try.ntmps13
        go_wp2_with fail
        go_ret
        exact ⟨rfl, HP.out, Only.refl _ _⟩
    · have e : gvP s m n = (11, s) := by unfold gvP; rw [if_pos (by omega)]
      have h3 : (m : Int) < n := by omega
      rw [e]
      clear e h2
      go_enter Try.func13, Try.ntmps13
      go_wp2_with fail
      go_ret
      exact ⟨rfl, HP.out, Only.refl _ _⟩
  · have e : gvP s m n = (11, s) := by unfold gvP; rw [if_pos (by omega)]
    have h3 : n < 1 := by omega
    rw [e]
    clear e h1
    go_enter Try.func13, Try.ntmps13
    go_wp2_with fail
    go_ret
    exact ⟨rfl, HP.out, Only.refl _ _⟩
set_option maxRecDepth 100000 in
set_option maxHeartbeats 1000000 in
theorem rdropped_any (r G m : Nat) (s : Nat → Int) (w : World) (hm : m ≤ 255) (hP : Pl w r G m s) :
    Calls Try.prog 15 #[.pointer (some ⟨r, 0, none⟩)] w fun e w' => e = .returned (.int .i64 (drP s m).1) ∧ Pl w' r G m (drP s m).2 ∧ Only [G] w w' := by
  have h0 : Pl w r G m (drN s 0) := by rw [drN_zero]; exact hP
  clear hP
  go_enter Try.func15, Try.ntmps15
  go_wp2_with fail
  go_loopw [3, 4] (fun k c wr => ∃ i : Nat, c = .int .i64 i ∧ k = .int .i64 (cnt 2 s i : Nat) ∧ i ≤ m ∧ Hid (Pl wr r G m (drN s i)) ∧ Hid (Only [G] w wr)) (fun _ c _ => m - (intOf c).toNat)
  case atStart => exact ⟨0, rfl, rfl, Nat.zero_le _, Lib.hid h0, Lib.hid (Only.refl _ _)⟩
  case round =>
    obtain ⟨i, rfl, rfl, hi, HP, HO⟩ := hrel
    have hh := HP.out.head
    have hlt := HP.out.row.lt
    by_cases hil : i < m
    · have hc := HP.out.row.cell i hil
      rw [drN_past s (Nat.le_refl i)] at hc
      have hf := HP.out.row.free i hil
      have hle := cnt_le (v := 2) (s := s) i
      have hcn : cnt 2 s (i + 1) = cnt 2 s i + (if s i = 2 then 1 else 0) := rfl
      by_cases h2 : s i = 2
      · rw [if_pos h2] at hcn
        rw [h2] at hc
        have h1 := HP.out.set i 0 hil
        have hd := drN_next s i
        rw [if_pos h2] at hd
        have HD := Lib.hid hd
        have H1 := Lib.hid h1
        have HC := Lib.hid hcn
        clear h1 hd h2 hcn
        go_wp2_with fail
        go_roundw
        case rel => exact ⟨i + 1, rfl, by rw [HC.out]; push_cast; rfl, by omega, Lib.hid (by rw [HD.out]; exact H1.out.1), Lib.hid (HO.out.trans H1.out.2)⟩
        case measure => simp only [intOf, Int.toNat_natCast]; omega
      · rw [if_neg h2] at hcn
        have d : ((s i : Int) == 2) = false := by simp; exact h2
        have hd := drN_next s i
        rw [if_neg h2] at hd
        have HD := Lib.hid hd
        have HC := Lib.hid hcn
        clear hd h2 hcn
        go_wp2_with fail
        go_roundw
        case rel => exact ⟨i + 1, rfl, by rw [HC.out]; rfl, by omega, Lib.hid (by rw [HD.out]; exact HP.out), HO⟩
        case measure => simp only [intOf, Int.toNat_natCast]; omega
    · have e : i = m := by omega
      subst e
      go_wp2_with fail
      go_ret
      exact ⟨rfl, HP.out, HO.out⟩
end Vm
end Go.Proofs.Ytcpadnedfnkieaa
