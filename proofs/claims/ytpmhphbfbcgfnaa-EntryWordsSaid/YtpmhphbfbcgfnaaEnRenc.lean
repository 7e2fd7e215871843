/-
  What the document's own Encode of an entry answers, at every argument; no condition but that each argument is of its Go type.
-/
import Derived.Test.YtpmhphbfbcgfnaaEnRef
namespace Go.Proofs.Ytpmhphbfbcgfnaa
open Go.RowKit Nt
namespace En
set_option maxHeartbeats 1000000 in
theorem renc_yes (W X B : Bool) (F : Int) (w : World) (h0 : 0 ≤ F) (h1 : F ≤ 65535) :
    Calls Try.prog 9 #[.agg #[.bool true, .bool W, .bool X, .bool B, .int .i64 F]] w fun e w' => e = .returned (.tuple #[.int .u32 (lw true W X B F), .bool true]) ∧ Below w.heap.size w w' := by
  have d0 : decide (F < 0) = false := by simp; omega
  have d1 : decide (65535 < F) = false := by simp; omega
  have z0 : F % 4294967296 = F := by omega
  have hw : ∀ c : Int, 0 ≤ c → c ≤ 15 → IntKind.u32.wrap (c + 256 * F) = c + 256 * F := fun c c0 c1 => by rw [IntKind.wrap_u32]; omega
  have hw0 : IntKind.u32.wrap (256 * F) = 256 * F := by rw [IntKind.wrap_u32]; omega
  have bl := (Below.refl w.heap.size w).alloc (Nat.le_refl _) (.cells #[.bool true, .bool W, .bool X, .bool B, .int .i64 F] 29)
  have BL := Lib.hid bl
  have EL := Lib.hid (show lw true W X B F = 256 * F + b1 true + 2 * b1 W + 4 * b1 X + 8 * b1 B by unfold lw; omega)
  clear bl
  cases W <;> cases X <;> cases B
  all_goals
    go_enter Try.func9, Try.ntmps9
    go_wp2_with fail
    go_quiet ((go_at_call 23; exact Calls.quiet_of_same ((one_any _ _ _).mono fun _ _ ⟨h, h'⟩ => ⟨h, h'.symm⟩)))
    go_wp2
    go_ret2
    exact ⟨by rw [EL.out]; unfold b1; simp; omega, below_drewN BL.out _⟩
set_option maxHeartbeats 1000000 in
theorem renc_far (V W X B : Bool) (F : Int) (w : World) (h : F < 0 ∨ 65535 < F) :
    Calls Try.prog 9 #[.agg #[.bool V, .bool W, .bool X, .bool B, .int .i64 F]] w fun e w' => e = .returned (.tuple #[.int .u32 0, .bool false]) ∧ Below w.heap.size w w' := by
  have BL := Lib.hid ((Below.refl w.heap.size w).alloc (Nat.le_refl _) (.cells #[.bool V, .bool W, .bool X, .bool B, .int .i64 F] 29))
  by_cases h0 : F < 0
  · have d0 : decide (F < 0) = true := by simpa using h0
    clear h
    go_enter Try.func9, Try.ntmps9
    go_wp2
    go_ret2
    exact ⟨rfl, BL.out⟩
  · have d0 : decide (F < 0) = false := by simpa using h0
    have h1 : 65535 < F := by omega
    have d1 : decide (65535 < F) = true := by simpa using h1
    clear h
    go_enter Try.func9, Try.ntmps9
    go_wp2
    go_ret2
    exact ⟨rfl, BL.out⟩
set_option maxHeartbeats 1000000 in
theorem renc_off (W X B : Bool) (F : Int) (w : World) (h0 : 0 ≤ F) (h1 : F ≤ 65535) :
    Calls Try.prog 9 #[.agg #[.bool false, .bool W, .bool X, .bool B, .int .i64 F]] w fun e w' => e = .returned (.tuple #[.int .u32 0, .bool (!W && !X && !B && F == 0)]) ∧ Below w.heap.size w w' := by
  have BL := Lib.hid ((Below.refl w.heap.size w).alloc (Nat.le_refl _) (.cells #[.bool false, .bool W, .bool X, .bool B, .int .i64 F] 29))
  have d0 : decide (F < 0) = false := by simp; omega
  have d1 : decide (65535 < F) = false := by simp; omega
  have q := fun w => eqRef false W X B false false false false F 0 w
  have eg : (false == false && W == false && X == false && B == false && F == 0) = (!W && !X && !B && F == 0) := by cases W <;> cases X <;> cases B <;> rfl
  simp only [eg] at q
  cases hg : (!W && !X && !B && F == 0)
  · simp only [hg] at q
    clear eg hg
    go_enter Try.func9, Try.ntmps9
    go_wp2
    go_ret2
    exact ⟨rfl, BL.out⟩
  · simp only [hg] at q
    have e : W = false ∧ X = false ∧ B = false ∧ F = 0 := by revert hg; cases W <;> cases X <;> cases B <;> simp
    obtain ⟨rfl, rfl, rfl, rfl⟩ := e
    clear eg hg d0 d1
    go_enter Try.func9, Try.ntmps9
    go_wp2_with fail
    go_quiet ((go_at_call 23; exact Calls.quiet_of_same ((one_any _ _ _).mono fun _ _ ⟨h, h'⟩ => ⟨h, h'.symm⟩)))
    go_wp2
    go_ret2
    exact ⟨rfl, below_drewN BL.out _⟩
theorem renc_any (V W X B : Bool) (F : Int) (w : World) :
    Calls Try.prog 9 #[.agg #[.bool V, .bool W, .bool X, .bool B, .int .i64 F]] w fun e w' => e = .returned (.tuple #[.int .u32 (encN V W X B F), .bool (gd V W X B F)]) ∧ Below w.heap.size w w' := by
  by_cases h : F < 0 ∨ 65535 < F
  · have g : gd V W X B F = false := by
      unfold gd
      cases V
      · have : (F == 0) = false := by simp; omega
        rw [this]; simp
      · simp; omega
    have e : encN V W X B F = 0 := by unfold encN; rw [g]; rfl
    rw [e, g]
    exact renc_far V W X B F w h
  · have h0 : 0 ≤ F := by omega
    have h1 : F ≤ 65535 := by omega
    cases V
    · have g : gd false W X B F = (!W && !X && !B && F == 0) := rfl
      have e : encN false W X B F = 0 := by
        unfold encN
        rw [g]
        cases hg : (!W && !X && !B && F == 0)
        · rfl
        · have e : W = false ∧ X = false ∧ B = false ∧ F = 0 := by revert hg; cases W <;> cases X <;> cases B <;> simp
          obtain ⟨rfl, rfl, rfl, rfl⟩ := e
          rfl
      rw [e, g]
      exact renc_off W X B F w h0 h1
    · have g : gd true W X B F = true := by unfold gd; simp; omega
      have e : encN true W X B F = lw true W X B F := by unfold encN; rw [g]; rfl
      rw [e, g]
      exact renc_yes W X B F w h0 h1
end En
end Go.Proofs.Ytpmhphbfbcgfnaa
