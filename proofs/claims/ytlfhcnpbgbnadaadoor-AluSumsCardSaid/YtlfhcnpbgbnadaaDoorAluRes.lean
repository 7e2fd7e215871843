/-
  What alu's result answers; the condition: the instruction has a word, the registers are words.
-/
import Derived.Test.YtlfhcnpbgbnadaaDoorAluFuns
namespace Go.Proofs.YtlfhcnpbgbnadaaDoor
open Go.RowKit Isa Nt
namespace Alu

theorem put_hi (u v : Int) (w : World) (hu : W32 u) (h0 : 0 ≤ v) (h1 : v < 65536) :
    Calls Tryd.prog 34 #[.int .u32 u, .int .i64 16, .int .i64 16, .int .u32 v] w fun e w' => e = .returned (.int .u32 (v * 65536 + u % 65536)) ∧ w = w' := by
  obtain ⟨u0, u1⟩ := hu
  obtain ⟨u, rfl⟩ := Int.eq_ofNat_of_zero_le u0
  obtain ⟨v, rfl⟩ := Int.eq_ofNat_of_zero_le h0
  refine (put_yes u 16 16 v w (by omega) (by omega) (by omega) (by omega)).mono ?_
  rintro e w' ⟨rfl, rfl⟩
  refine ⟨ret_u32 ?_, rfl⟩
  unfold putN
  rw [show u / 2 ^ (16 + 16) = 0 by omega, Nat.zero_mul, Nat.or_zero, low_or]
  omega
theorem ret2 {a b : Int} {c : Bool} (h : a = b) : Ending.returned (.tuple #[.int .u32 a, .bool c]) = .returned (.tuple #[.int .u32 b, .bool c]) := by rw [h]
/-- What result answers. -/
def resV (r : Nat → Int) (pc : Int) (op a b imm : Nat) : Value := .tuple #[.int .u32 (res r pc op a b imm), .bool (puts op)]
set_option maxHeartbeats 2000000 in
theorem result_any (l : List Value) (r : Nat → Int) (pc : Int) (op a b imm : Nat) (w : World) (hl : IsSt l r pc) (hR : R32 r) (ha : a < 16) (hb : b < 16) (hi : imm < 65536) (h3 : 3 ≤ op → op ≤ 10 → imm < 16) :
    Calls Tryd.prog 22 #[.agg l.toArray, .agg #[.int .i64 op, .int .i64 a, .int .i64 b, .int .i64 imm]] w fun e w' => e = .returned (resV r pc op a b imm) ∧ Below w.heap.size w w' := by
  have HL := Lib.hid hl
  have B0 : Below w.heap.size w ((w.alloc (.cells l.toArray 25)).alloc (.cells #[.int .i64 op, .int .i64 a, .int .i64 b, .int .i64 imm] 50)) := ((Below.refl _ _).alloc (Nat.le_refl _) _).alloc (by simp) _
  have X0 := Lib.hid ((Box.new w l 25).box (.cells #[.int .i64 op, .int .i64 a, .int .i64 b, .int .i64 imm] 50))
  have Y0 := Box.new (w.alloc (.cells l.toArray 25)) [.int .i64 op, .int .i64 a, .int .i64 b, .int .i64 imm] 50
  rw [World.size_alloc] at Y0
  have YH := Lib.hid Y0
  have HB := Lib.hid B0
  clear B0 Y0
  clear hl
  by_cases o1 : op = 1
  · subst o1
    go_enter Tryd.func22, Tryd.ntmps22
    go_wp2
    go_ret2
    exact ⟨ret2 (show _ = (imm : Int) by omega), HB.out⟩
  by_cases o2 : op = 2
  · subst o2
    have h1 := HL.out.reg a ha
    have h2 := hR a ha
    have em : (imm : Int) % 4294967296 = imm := by omega
    clear hR h3 o1
    go_enter Tryd.func22, Tryd.ntmps22
    go_wp2
    go_quiet (first | (go_at_call 34; exact Calls.quiet_of_same ((put_hi _ _ _ h2 (by omega) (by omega)).mono fun _ _ ⟨h, h'⟩ => ⟨h, h'.symm⟩)))
    go_wp2
    go_ret2
    exact ⟨ret2 (by rfl), below_drewN HB.out _⟩
  by_cases o3 : 3 ≤ op ∧ op ≤ 10
  · obtain ⟨p3, p10⟩ := o3
    have hi2 := h3 p3 p10
    have h1 := HL.out.reg b hb
    have h2 := HL.out.reg imm hi2
    have w1 := hR b hb
    have w2 := hR imm hi2
    have : op = 3 ∨ op = 4 ∨ op = 5 ∨ op = 6 ∨ op = 7 ∨ op = 8 ∨ op = 9 ∨ op = 10 := by omega
    have HP := Lib.hid p3
    have HP2 := Lib.hid p10
    clear hR h3 o1 o2 p3 p10
    rcases this with rfl | rfl | rfl | rfl | rfl | rfl | rfl | rfl
    all_goals
      go_enter Tryd.func22, Tryd.ntmps22
      go_wp2
      go_quiet (first | (go_at_call 37; exact Calls.quiet_of_same ((combine_any _ _ _ _ HP.out HP2.out w1 w2).mono fun _ _ ⟨h, h'⟩ => ⟨h, h'.symm⟩)))
      go_wp2
      go_ret2
      exact ⟨rfl, below_drewN HB.out _⟩
  by_cases o11 : op = 11
  · subst o11
    have X1 := (Box.new w l 25).box (.cells #[.int .i64 11, .int .i64 a, .int .i64 b, .int .i64 imm] 50)
    have Y1 := Box.new (w.alloc (.cells l.toArray 25)) [.int .i64 11, .int .i64 a, .int .i64 b, .int .i64 imm] 50
    rw [World.size_alloc] at Y1
    have ib : (b : Int) < 16 := by omega
    have c1 := cell_regrown (X1.at b (HL.out.reg b hb))
    have y0 := cell_regrown (Y1.at 0 rfl)
    have y1 := cell_regrown (Y1.at 1 rfl)
    have y2 := cell_regrown (Y1.at 2 rfl)
    have y3 := cell_regrown (Y1.at 3 rfl)
    clear X1 Y1
    clear hR h3 o1 o2 o3
    go_enter Tryd.func22, Tryd.ntmps22
    go_wp2_with fail
    refine wp_region_quiet_below (by kernel_rfl) (by kernel_rfl) ?_
    repeat (quiet_step (first | (go_at_call 36; exact Calls.regrown_of (sgnW _ _ _ _ _))))
    refine wpQuiet_nil ?_
    intro _ hw'
    obtain ⟨⟨dq, osq⟩, hw''⟩ := hw'
    subst hw''
    have hb2 := Lib.hid (below_regrown ((w.alloc (.cells l.toArray 25)).alloc (.cells #[.int .i64 11, .int .i64 a, .int .i64 b, .int .i64 imm] 50)) dq osq)
    clear c1 y0 y1 y2 y3
    go_wp2
    go_ret2
    exact ⟨rfl, HB.out.trans (hb2.out.mono HB.out.size)⟩
  by_cases o19 : op = 19
  · subst o19
    have c1 := HL.out.pc
    clear hR h3 o1 o2 o3 o11
    go_enter Tryd.func22, Tryd.ntmps22
    go_wp2
    go_ret2
    exact ⟨rfl, HB.out⟩
  have E := Lib.hid (show resV r pc op a b imm = .tuple #[.int .u32 0, .bool false] by
    unfold resV res
    rw [if_neg o1, if_neg o2, if_neg o3, if_neg o11, if_neg o19, show puts op = false by unfold puts; simp; omega])
  have d1 : ((op : Int) == 1) = false := by simp; omega
  have d2 : ((op : Int) == 2) = false := by simp; omega
  have d3 : ((op : Int) == 3) = false := by simp; omega
  have d4 : ((op : Int) == 4) = false := by simp; omega
  have d5 : ((op : Int) == 5) = false := by simp; omega
  have d6 : ((op : Int) == 6) = false := by simp; omega
  have d7 : ((op : Int) == 7) = false := by simp; omega
  have d8 : ((op : Int) == 8) = false := by simp; omega
  have d9 : ((op : Int) == 9) = false := by simp; omega
  have d10 : ((op : Int) == 10) = false := by simp; omega
  have d11 : ((op : Int) == 11) = false := by simp; omega
  have d19 : ((op : Int) == 19) = false := by simp; omega
  clear hR h3 o1 o2 o3 o11 o19
  go_enter Tryd.func22, Tryd.ntmps22
  go_wp2
  go_ret2
  exact ⟨by rw [E.out]; rfl, HB.out⟩
end Alu
end Go.Proofs.YtlfhcnpbgbnadaaDoor
