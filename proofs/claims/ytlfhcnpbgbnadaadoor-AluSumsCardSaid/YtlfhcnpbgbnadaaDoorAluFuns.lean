/-
  What alu's branches, nextPC, result, memoryEffect and effect answer; the condition: the instruction's A, B are registers, the registers words.
-/
import Derived.Test.YtlfhcnpbgbnadaaDoorAluBase
namespace Go.Proofs.YtlfhcnpbgbnadaaDoor
open Go.RowKit Isa Nt
namespace Alu

set_option maxHeartbeats 1000000 in
theorem branches_any (l : List Value) (r : Nat → Int) (pc : Int) (op a b imm : Nat) (w : World) (hl : IsSt l r pc) (ha : a < 16) (hb : b < 16) :
    Calls Tryd.prog 35 #[.agg l.toArray, .agg #[.int .i64 op, .int .i64 a, .int .i64 b, .int .i64 imm]] w fun e w' => e = .returned (.bool (brn r op a b)) ∧ Below w.heap.size w w' := by
  have h1 := hl.reg a ha
  have h2 := hl.reg b hb
  have B0 : Below w.heap.size w ((w.alloc (.cells l.toArray 25)).alloc (.cells #[.int .i64 op, .int .i64 a, .int .i64 b, .int .i64 imm] 50)) := ((Below.refl _ _).alloc (Nat.le_refl _) _).alloc (by simp) _
  have HB := Lib.hid B0
  clear B0 hl
  by_cases o1 : op = 16
  · subst o1
    have E := Lib.hid (show brn r 16 a b = (r a == r b) from rfl)
    go_enter Tryd.func35, Tryd.ntmps35
    go_wp2
    go_quiet (fail)
    go_wp2
    go_ret
    exact ⟨by rw [E.out]; rfl, below_drewN HB.out _⟩
  by_cases o2 : op = 17
  · subst o2
    have E := Lib.hid (show brn r 17 a b = (r a != r b) from rfl)
    go_enter Tryd.func35, Tryd.ntmps35
    go_wp2
    go_quiet (fail)
    go_wp2
    go_ret
    exact ⟨by rw [E.out]; rfl, below_drewN HB.out _⟩
  by_cases o3 : op = 18
  · subst o3
    have E := Lib.hid (show brn r 18 a b = decide (r a < r b) from rfl)
    go_enter Tryd.func35, Tryd.ntmps35
    go_wp2
    go_quiet (fail)
    go_wp2
    go_ret
    exact ⟨by rw [E.out]; rfl, below_drewN HB.out _⟩
  have E := Lib.hid (show brn r op a b = ((op : Int) == 19) by unfold brn; rw [if_neg o1, if_neg o2, if_neg o3, Bool.eq_iff_iff]; simp; omega)
  have d1 : ((op : Int) == 16) = false := by simp; omega
  have d2 : ((op : Int) == 17) = false := by simp; omega
  have d3 : ((op : Int) == 18) = false := by simp; omega
  clear o1 o2 o3
  go_enter Tryd.func35, Tryd.ntmps35
  go_wp2
  go_quiet (fail)
  go_wp2
  go_ret
  exact ⟨by rw [E.out]; rfl, below_drewN HB.out _⟩

set_option maxHeartbeats 1000000 in
theorem nextPC_any (l : List Value) (r : Nat → Int) (pc : Int) (op a b imm : Nat) (w : World) (hl : IsSt l r pc) (ha : a < 16) (hb : b < 16) :
    Calls Tryd.prog 21 #[.agg l.toArray, .agg #[.int .i64 op, .int .i64 a, .int .i64 b, .int .i64 imm]] w fun e w' => e = .returned (.int .u32 (nxt r pc op a b imm)) ∧ Below w.heap.size w w' := by
  have HL := Lib.hid hl
  have B0 : Below w.heap.size w ((w.alloc (.cells l.toArray 25)).alloc (.cells #[.int .i64 op, .int .i64 a, .int .i64 b, .int .i64 imm] 50)) := ((Below.refl _ _).alloc (Nat.le_refl _) _).alloc (by simp) _
  have X0 := Lib.hid ((Box.new w l 25).box (.cells #[.int .i64 op, .int .i64 a, .int .i64 b, .int .i64 imm] 50))
  have Y0 := Box.new (w.alloc (.cells l.toArray 25)) [.int .i64 op, .int .i64 a, .int .i64 b, .int .i64 imm] 50
  rw [World.size_alloc] at Y0
  have YH := Lib.hid Y0
  have HB := Lib.hid B0
  clear B0 Y0 hl
  by_cases o1 : op = 20
  · subst o1
    have E := Lib.hid (show nxt r pc 20 a b imm = r a from rfl)
    have h1 := HL.out.reg a ha
    go_enter Tryd.func21, Tryd.ntmps21
    go_wp2
    go_ret
    exact ⟨by rw [E.out]; rfl, HB.out⟩
  have d1 : ((op : Int) == 20) = false := by simp; omega
  cases hbr : brn r op a b
  · have E := Lib.hid (show nxt r pc op a b imm = (pc + 4) % 4294967296 by unfold nxt; rw [if_neg o1, hbr]; rfl)
    clear o1
    go_enter Tryd.func21, Tryd.ntmps21
    go_wp2_with (refine wl_load (.tmp 2) _ _ rfl rfl rfl X0.out HL.out.size ?_)
    refine (branches_any _ _ _ _ _ _ _ _ HL.out ha hb).mono ?_
    rintro e w1 ⟨rfl, hb1⟩
    have X1 := Lib.hid (X0.out.kept hb1)
    have B1 := Lib.hid (HB.out.trans (hb1.mono HB.out.size))
    have c1 := X1.out.at 16 HL.out.pc
    clear hb1
    go_wp2
    go_ret
    exact ⟨by rw [E.out]; rfl, B1.out⟩
  · have E := Lib.hid (show nxt r pc op a b imm = (pc + 4 * sw imm % 4294967296) % 4294967296 by unfold nxt; rw [if_neg o1, if_pos hbr])
    clear o1
    go_enter Tryd.func21, Tryd.ntmps21
    go_wp2_with (refine wl_load (.tmp 2) _ _ rfl rfl rfl X0.out HL.out.size ?_)
    refine (branches_any _ _ _ _ _ _ _ _ HL.out ha hb).mono ?_
    rintro e w1 ⟨rfl, hb1⟩
    have X1 := Lib.hid (X0.out.kept hb1)
    have Y1 := Lib.hid (YH.out.kept hb1)
    have B1 := Lib.hid (HB.out.trans (hb1.mono HB.out.size))
    have c1 := cell_regrown (X1.out.at 16 HL.out.pc)
    have y0 := cell_regrown (Y1.out.at 0 rfl)
    have y1 := cell_regrown (Y1.out.at 1 rfl)
    have y2 := cell_regrown (Y1.out.at 2 rfl)
    have y3 := cell_regrown (Y1.out.at 3 rfl)
    clear hb1
    go_wp2_with fail
    refine wp_region_quiet_below (by kernel_rfl) (by kernel_rfl) ?_
    repeat (quiet_step (first | (go_at_call 36; exact Calls.regrown_of (sgnW _ _ _ _ _))))
    refine wpQuiet_nil ?_
    intro _ hw'
    obtain ⟨⟨dq, osq⟩, hw''⟩ := hw'
    subst hw''
    have hb2 := below_regrown w1 dq osq
    go_wp2
    go_ret
    exact ⟨by rw [E.out]; rfl, B1.out.trans (hb2.mono B1.out.size)⟩
end Alu
end Go.Proofs.YtlfhcnpbgbnadaaDoor
