/-
  What the pool's New, State, Take and Give answer, and leave. Conditions: that a pool lies there.
-/
import Derived.Test.YtcpadnedfnkieaaVmTaken
namespace Go.Proofs.Ytcpadnedfnkieaa
open Go.RowKit
namespace Vm
open Ph (Only)

theorem new_yes (n : Nat) (w : World) (h1 : 1 ≤ n) (h2 : n ≤ 255) :
    Calls Try.prog 8 #[.int .i64 n] w fun e w' => e = .returned (.tuple #[.pointer (some ⟨w.heap.size + 1, 0, none⟩), .int .i64 0]) ∧ Pl w' (w.heap.size + 1) w.heap.size n (fun _ => 0) ∧ Only [] w w' := by
  have hm := fun wx => made_ints n wx (by omega)
  have hr := Lib.hid (made_row n 3 w)
  go_enter Try.func8, Try.ntmps8
  go_wp2_with fail
  go_ret2
  have hL := Lay.new (w.alloc (.cells (madeCells #[.int .i64 0] n) 3)) 54 [.slice (some ⟨w.heap.size, 0, none⟩) n n]
  rw [World.size_alloc] at hL
  have hO := Only.alloc [] (w.alloc (.cells (madeCells #[.int .i64 0] n) 3)) (.cells #[.slice (some ⟨w.heap.size, 0, none⟩) n n] 54)
  exact ⟨rfl, ⟨hL.lt, by omega, hL.cell 0, hr.out.kept hO (by simp)⟩, (Only.alloc [] w _).trans hO⟩
theorem new_no (n : Int) (w : World) (h : n < 1 ∨ 255 < n) :
    Calls Try.prog 8 #[.int .i64 n] w fun e w' => e = .returned (.tuple #[.pointer none, .int .i64 11]) ∧ w = w' := by
  by_cases h1 : n < 1
  · clear h
    go_enter Try.func8, Try.ntmps8
    go_wp2
    go_ret2
    exact ⟨rfl, rfl⟩
  · have h2 : 255 < n := by omega
    clear h
    go_enter Try.func8, Try.ntmps8
    go_wp2
    go_ret2
    exact ⟨rfl, rfl⟩
theorem state_any (p B m : Nat) (s : Nat → Int) (n : Int) (w : World) (hm : m ≤ 255) (hP : Pl w p B m s) :
    Calls Try.prog 16 #[.pointer (some ⟨p, 0, none⟩), .int .i64 n] w fun e w' => e = .returned (.int .i64 (stP s m n)) ∧ w = w' := by
  have hh := hP.head
  by_cases h1 : 1 ≤ n
  · by_cases h2 : n ≤ m
    · have e : stP s m n = s (n - 1).toNat := by unfold stP; rw [if_pos ⟨h1, h2⟩]
      rw [e]
      obtain ⟨i, rfl⟩ : ∃ i : Nat, n = (i : Int) + 1 := ⟨(n - 1).toNat, by omega⟩
      have e1 : ((i : Int) + 1 - 1) = i := by omega
      rw [e1, Int.toNat_natCast]
      have hi : i < m := by omega
      have hc := hP.row.cell i hi
      clear hP e h1 h2
      go_enter Try.func16, Try.ntmps16
      go_wp2
      go_ret
      exact ⟨rfl, rfl⟩
    · have e : stP s m n = -1 := by unfold stP; rw [if_neg (by omega)]
      rw [e]
      have h3 : (m : Int) < n := by omega
      clear hP e h2
      go_enter Try.func16, Try.ntmps16
      go_wp2
      go_ret
      exact ⟨rfl, rfl⟩
  · have e : stP s m n = -1 := by unfold stP; rw [if_neg (by omega)]
    rw [e]
    have h3 : n < 1 := by omega
    clear hP e h1
    go_enter Try.func16, Try.ntmps16
    go_wp2
    go_ret
    exact ⟨rfl, rfl⟩
theorem give_any (p B m : Nat) (s : Nat → Int) (n : Int) (w : World) (hm : m ≤ 255) (h3 : Is3 s m) (hP : Pl w p B m s) :
    Calls Try.prog 12 #[.pointer (some ⟨p, 0, none⟩), .int .i64 n] w fun e w' => e = .returned (.int .i64 (gvP s m n).1) ∧ Pl w' p B m (gvP s m n).2 ∧ Only [B] w w' := by
  have HP := Lib.hid hP
  have hh := hP.head
  by_cases h1 : n < 1 ∨ (m : Int) < n
  · have e : gvP s m n = (11, s) := by unfold gvP; rw [if_pos h1]
    have e2 : stP s m n = -1 := by unfold stP; rw [if_neg (by omega)]
    rw [e]
    clear e h1 hP hh
    go_enter Try.func12, Try.ntmps12
    go_wp2_with (go_at_call 16; refine (state_any p B m s n _ hm HP.out).mono ?_; rintro e w1 ⟨rfl, rfl⟩; rw [e2])
    go_ret
    exact ⟨rfl, HP.out, Only.refl _ _⟩
  · obtain ⟨i, rfl⟩ : ∃ i : Nat, n = (i : Int) + 1 := ⟨(n - 1).toNat, by omega⟩
    have hi : i < m := by omega
    have e1 : ((i : Int) + 1 - 1).toNat = i := by omega
    have e2 : stP s m ((i : Int) + 1) = s i := by unfold stP; rw [if_pos (by omega), e1]
    have hc := hP.row.cell i hi
    have hf := hP.row.free i hi
    have hb := hP.row.lt
    have h3i := h3 i hi
    have hn : decide ((s i : Int) == -1) = false := by
      rcases h3i with e | e | e <;> rw [e] <;> decide
    by_cases h2 : s i = 1
    · have e : gvP s m ((i : Int) + 1) = (0, upd s i 2) := by unfold gvP; rw [if_neg h1, e1, if_neg (by simp [h2])]
      rw [e]
      rw [h2] at e2 hc
      clear e h1 hP h3 h3i hn
      go_enter Try.func12, Try.ntmps12
      go_wp2_with (go_at_call 16; refine (state_any p B m s _ _ hm HP.out).mono ?_; rintro e w1 ⟨rfl, rfl⟩; rw [e2])
      go_ret
      exact ⟨rfl, (HP.out.set i 2 hi).1, (HP.out.set i 2 hi).2⟩
    · have e : gvP s m ((i : Int) + 1) = (12, s) := by unfold gvP; rw [if_neg h1, e1, if_pos h2]
      rw [e]
      clear e h1 hP h3 hn
      rcases h3i with h | h | h
      · rw [h] at e2
        clear h h2 hc hf hb
        go_enter Try.func12, Try.ntmps12
        go_wp2_with (go_at_call 16; refine (state_any p B m s _ _ hm HP.out).mono ?_; rintro e w1 ⟨rfl, rfl⟩; rw [e2])
        go_ret
        exact ⟨rfl, HP.out, Only.refl _ _⟩
      · exact absurd h h2
      · rw [h] at e2
        clear h h2 hc hf hb
        go_enter Try.func12, Try.ntmps12
        go_wp2_with (go_at_call 16; refine (state_any p B m s _ _ hm HP.out).mono ?_; rintro e w1 ⟨rfl, rfl⟩; rw [e2])
        go_ret
        exact ⟨rfl, HP.out, Only.refl _ _⟩
theorem least_some {st : Int} {s : Nat → Int} {m i : Nat} (h : lst st s m = some i) : leastP st s m = (i : Int) + 1 := by unfold leastP; rw [h]
theorem least_none {st : Int} {s : Nat → Int} {m : Nat} (h : lst st s m = none) : leastP st s m = 0 := by unfold leastP; rw [h]
theorem take_any (p B m : Nat) (s : Nat → Int) (w : World) (hm : m ≤ 255) (hP : Pl w p B m s) :
    Calls Try.prog 10 #[.pointer (some ⟨p, 0, none⟩)] w fun e w' => e = .returned (.tuple #[.int .i64 (tkP s m).1, .int .i64 (tkP s m).2.1]) ∧ Pl w' p B m (tkP s m).2.2 ∧ Only [B] w w' := by
  have HP := Lib.hid hP
  have hB := hP.row.lt
  have hp := hP.lt
  cases hl : lst 0 s m with
  | some i =>
    obtain ⟨hi, hs, _⟩ := lst_some hl
    have e : tkP s m = ((i : Int) + 1, 0, upd s i 1) := by unfold tkP; rw [hl]
    have e1 := least_some hl
    rw [e]
    clear e hl hP hs
    go_enter Try.func10, Try.ntmps10
    go_wp2_with (go_at_call 23; refine (least_any p B m 0 s _ hm HP.out).mono ?_; rintro e w1 ⟨rfl, ho⟩; rw [e1]; have HO := Lib.hid ho; have h1 := HP.out.kept ho (by simp) (by simp); have hh := h1.head; have hf := h1.row.free i hi; have hc := h1.row.cell i hi; have hlt := h1.row.lt; clear ho h1)
    go_ret2
    have h1 := HP.out.kept HO.out (by simp) (by simp)
    exact ⟨rfl, (h1.set i 1 hi).1, (HO.out.mono (by simp)).trans (h1.set i 1 hi).2⟩
  | none =>
    have e1 := least_none hl
    cases hl2 : lst 2 s m with
    | some i =>
      have e : tkP s m = (0, 17, s) := by unfold tkP; rw [hl, hl2]; rfl
      have e2 := least_some hl2
      have hi := (lst_some hl2).1
      rw [e]
      clear e hl hP hl2
      go_enter Try.func10, Try.ntmps10
      go_wp2_with (first | (go_at_call 23; refine (least_any p B m 2 s _ hm (HP.out.kept HO.out (by simp) (by simp))).mono ?_; rintro e w2 ⟨rfl, ho⟩; rw [e2]; have HO2 := Lib.hid ho; clear ho) | (go_at_call 23; refine (least_any p B m 0 s _ hm HP.out).mono ?_; rintro e w1 ⟨rfl, ho⟩; rw [e1]; have HO := Lib.hid ho; clear ho))
      go_ret2
      have ho := HO.out.trans HO2.out
      exact ⟨rfl, HP.out.kept ho (by simp) (by simp), ho.mono (by simp)⟩
    | none =>
      have e : tkP s m = (0, 15, s) := by unfold tkP; rw [hl, hl2]; rfl
      have e2 := least_none hl2
      rw [e]
      clear e hl hP hl2
      go_enter Try.func10, Try.ntmps10
      go_wp2_with (first | (go_at_call 23; refine (least_any p B m 2 s _ hm (HP.out.kept HO.out (by simp) (by simp))).mono ?_; rintro e w2 ⟨rfl, ho⟩; rw [e2]; have HO2 := Lib.hid ho; clear ho) | (go_at_call 23; refine (least_any p B m 0 s _ hm HP.out).mono ?_; rintro e w1 ⟨rfl, ho⟩; rw [e1]; have HO := Lib.hid ho; clear ho))
      go_ret2
      have ho := HO.out.trans HO2.out
      exact ⟨rfl, HP.out.kept ho (by simp) (by simp), ho.mono (by simp)⟩
end Vm
end Go.Proofs.Ytcpadnedfnkieaa
