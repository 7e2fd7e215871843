/-
  What alu's memoryEffect and effect answer; the condition: the instruction has a word.
-/
import Derived.Test.YtlfhcnpbgbnadaaDoorAluFuns
namespace Go.Proofs.YtlfhcnpbgbnadaaDoor
open Go.RowKit Isa Nt Go.Sort
namespace Alu

/-- What effect answers. -/
def effV (r : Nat → Int) (op a b imm : Nat) : Value := .agg #[.int .i64 (eK op), .int .i64 (eR op a), .int .u32 (eA r op b imm), .int .u32 (eV r op a imm)]
theorem Box.fz {w : World} {b : Nat} {l : List Value} (h : Box w b l) (j : Nat) (hj : j < l.length) : w.frozen? ⟨b, j, none⟩ = false := by
  have := (h.there j hj).2
  rwa [Nat.zero_add] at this
theorem Box.four {w : World} {b : Nat} {v0 v1 v2 v3 : Value} (h : Box w b [v0, v1, v2, v3]) : Four w b := fun j hj => by
  have := (h.there j hj).1
  rwa [Nat.zero_add] at this

set_option maxHeartbeats 2000000 in
theorem mem12 (l : List Value) (r : Nat → Int) (pc : Int) (a b imm : Nat) (w : World) (hl : IsSt l r pc) (ha : a < 16) (hb : b < 16) :
    Calls Tryd.prog 38 #[.agg l.toArray, .agg #[.int .i64 12, .int .i64 a, .int .i64 b, .int .i64 imm]] w fun e w' => e = .returned (effV r 12 a b imm) ∧ Below w.heap.size w w' := by
  have HL := Lib.hid hl
  clear hl
  have X1 := ((Box.new w l 25).box (.cells #[.int .i64 12, .int .i64 a, .int .i64 b, .int .i64 imm] 50)).box (.cells #[.int .i64 0, .int .i64 0, .int .u32 0, .int .u32 0] 28)
  have Y1 := (Box.new (w.alloc (.cells l.toArray 25)) [.int .i64 12, .int .i64 a, .int .i64 b, .int .i64 imm] 50).box (.cells #[.int .i64 0, .int .i64 0, .int .u32 0, .int .u32 0] 28)
  have Z1 := Box.new ((w.alloc (.cells l.toArray 25)).alloc (.cells #[.int .i64 12, .int .i64 a, .int .i64 b, .int .i64 imm] 50)) [.int .i64 0, .int .i64 0, .int .u32 0, .int .u32 0] 28
  rw [World.size_alloc] at Y1
  rw [World.size_alloc, World.size_alloc] at Z1
  have B1 : Below w.heap.size w (((w.alloc (.cells l.toArray 25)).alloc (.cells #[.int .i64 12, .int .i64 a, .int .i64 b, .int .i64 imm] 50)).alloc (.cells #[.int .i64 0, .int .i64 0, .int .u32 0, .int .u32 0] 28)) := (((Below.refl _ _).alloc (Nat.le_refl _) _).alloc (by simp) _).alloc (by simp; omega) _
  have HB := Lib.hid B1
  have XH := Lib.hid X1
  have YH := Lib.hid Y1
  have ZH := Lib.hid Z1
  clear B1 X1 Y1 Z1
  go_enter Tryd.func38, Tryd.ntmps38
  go_wp2_with fail
  generalize (((w.alloc (.cells l.toArray 25)).alloc (.cells #[.int .i64 12, .int .i64 a, .int .i64 b, .int .i64 imm] 50)).alloc (.cells #[.int .i64 0, .int .i64 0, .int .u32 0, .int .u32 0] 28)) = w1 at *
  have ia : (a : Int) < 16 := by omega
  have ib : (b : Int) < 16 := by omega
  have c1 := cell_regrown (XH.out.at a (HL.out.reg a ha))
  have c2 := cell_regrown (XH.out.at b (HL.out.reg b hb))
  have y0 := cell_regrown (YH.out.at 0 rfl)
  have y1 := cell_regrown (YH.out.at 1 rfl)
  have y2 := cell_regrown (YH.out.at 2 rfl)
  have y3 := cell_regrown (YH.out.at 3 rfl)
  refine wp_region_quiet_below (by kernel_rfl) (by kernel_rfl) ?_
  repeat (quiet_step (first | (go_at_call 36; exact Calls.regrown_of (sgnW _ _ _ _ _))))
  refine wpQuiet_nil ?_
  intro _ hw'
  obtain ⟨⟨dq, osq⟩, hw''⟩ := hw'
  subst hw''
  clear c1 c2 y0 y1 y2 y3
  have hb2 := below_regrown w1 dq osq
  generalize grow (redrawn w1 dq) osq = w2 at *
  have B2 := Lib.hid (HB.out.trans (hb2.mono HB.out.size))
  have Y2 := Lib.hid (YH.out.kept hb2)
  have Z2 := Lib.hid (ZH.out.kept hb2)
  have y0 := Y2.out.at 0 rfl
  have y1 := Y2.out.at 1 rfl
  have z0 := Z2.out.at 0 rfl
  have z1 := Z2.out.at 1 rfl
  have z2 := Z2.out.at 2 rfl
  have z3 := Z2.out.at 3 rfl
  have f0 := Z2.out.fz 0 (by decide)
  have f1 := Z2.out.fz 1 (by decide)
  have f2 := Z2.out.fz 2 (by decide)
  have f3 := Z2.out.fz 3 (by decide)
  clear hb2
  go_wp2_with (go_at_call 28; refine (lowByte_any _ _).mono ?_; rintro e w' ⟨rfl, rfl⟩)
  have F : Four w2 (w.heap.size + 1 + 1) := Z2.out.four
  refine bodyPost_ret (v := effV r 12 a b imm) (w := wr4 w2 (w.heap.size + 1 + 1) _ _ _ _) (by simp [effV, eK, eR, eA, eV, results, Tryd.results38, go_sem, wr4_cells F]) rfl ⟨rfl, ?_⟩
  exact wr4_below B2.out (by omega) _ _ _ _

set_option maxHeartbeats 2000000 in
theorem mem13 (l : List Value) (r : Nat → Int) (pc : Int) (a b imm : Nat) (w : World) (hl : IsSt l r pc) (ha : a < 16) (hb : b < 16) :
    Calls Tryd.prog 38 #[.agg l.toArray, .agg #[.int .i64 13, .int .i64 a, .int .i64 b, .int .i64 imm]] w fun e w' => e = .returned (effV r 13 a b imm) ∧ Below w.heap.size w w' := by
  have HL := Lib.hid hl
  clear hl
  have X1 := ((Box.new w l 25).box (.cells #[.int .i64 13, .int .i64 a, .int .i64 b, .int .i64 imm] 50)).box (.cells #[.int .i64 0, .int .i64 0, .int .u32 0, .int .u32 0] 28)
  have Y1 := (Box.new (w.alloc (.cells l.toArray 25)) [.int .i64 13, .int .i64 a, .int .i64 b, .int .i64 imm] 50).box (.cells #[.int .i64 0, .int .i64 0, .int .u32 0, .int .u32 0] 28)
  have Z1 := Box.new ((w.alloc (.cells l.toArray 25)).alloc (.cells #[.int .i64 13, .int .i64 a, .int .i64 b, .int .i64 imm] 50)) [.int .i64 0, .int .i64 0, .int .u32 0, .int .u32 0] 28
  rw [World.size_alloc] at Y1
  rw [World.size_alloc, World.size_alloc] at Z1
  have B1 : Below w.heap.size w (((w.alloc (.cells l.toArray 25)).alloc (.cells #[.int .i64 13, .int .i64 a, .int .i64 b, .int .i64 imm] 50)).alloc (.cells #[.int .i64 0, .int .i64 0, .int .u32 0, .int .u32 0] 28)) := (((Below.refl _ _).alloc (Nat.le_refl _) _).alloc (by simp) _).alloc (by simp; omega) _
  have HB := Lib.hid B1
  have XH := Lib.hid X1
  have YH := Lib.hid Y1
  have ZH := Lib.hid Z1
  clear B1 X1 Y1 Z1
  go_enter Tryd.func38, Tryd.ntmps38
  go_wp2_with fail
  generalize (((w.alloc (.cells l.toArray 25)).alloc (.cells #[.int .i64 13, .int .i64 a, .int .i64 b, .int .i64 imm] 50)).alloc (.cells #[.int .i64 0, .int .i64 0, .int .u32 0, .int .u32 0] 28)) = w1 at *
  have ia : (a : Int) < 16 := by omega
  have ib : (b : Int) < 16 := by omega
  have c1 := cell_regrown (XH.out.at a (HL.out.reg a ha))
  have c2 := cell_regrown (XH.out.at b (HL.out.reg b hb))
  have y0 := cell_regrown (YH.out.at 0 rfl)
  have y1 := cell_regrown (YH.out.at 1 rfl)
  have y2 := cell_regrown (YH.out.at 2 rfl)
  have y3 := cell_regrown (YH.out.at 3 rfl)
  refine wp_region_quiet_below (by kernel_rfl) (by kernel_rfl) ?_
  repeat (quiet_step (first | (go_at_call 36; exact Calls.regrown_of (sgnW _ _ _ _ _))))
  refine wpQuiet_nil ?_
  intro _ hw'
  obtain ⟨⟨dq, osq⟩, hw''⟩ := hw'
  subst hw''
  clear c1 c2 y0 y1 y2 y3
  have hb2 := below_regrown w1 dq osq
  generalize grow (redrawn w1 dq) osq = w2 at *
  have B2 := Lib.hid (HB.out.trans (hb2.mono HB.out.size))
  have Y2 := Lib.hid (YH.out.kept hb2)
  have Z2 := Lib.hid (ZH.out.kept hb2)
  have y0 := Y2.out.at 0 rfl
  have y1 := Y2.out.at 1 rfl
  have z0 := Z2.out.at 0 rfl
  have z1 := Z2.out.at 1 rfl
  have z2 := Z2.out.at 2 rfl
  have z3 := Z2.out.at 3 rfl
  have f0 := Z2.out.fz 0 (by decide)
  have f1 := Z2.out.fz 1 (by decide)
  have f2 := Z2.out.fz 2 (by decide)
  have f3 := Z2.out.fz 3 (by decide)
  clear hb2
  go_wp2_with (go_at_call 28; refine (lowByte_any _ _).mono ?_; rintro e w' ⟨rfl, rfl⟩)
  have F : Four w2 (w.heap.size + 1 + 1) := Z2.out.four
  refine bodyPost_ret (v := effV r 13 a b imm) (w := wr4 w2 (w.heap.size + 1 + 1) _ _ _ _) (by simp [effV, eK, eR, eA, eV, results, Tryd.results38, go_sem, wr4_cells F]) rfl ⟨rfl, ?_⟩
  exact wr4_below B2.out (by omega) _ _ _ _

set_option maxHeartbeats 2000000 in
theorem mem14 (l : List Value) (r : Nat → Int) (pc : Int) (a b imm : Nat) (w : World) (hl : IsSt l r pc) (ha : a < 16) (hb : b < 16) :
    Calls Tryd.prog 38 #[.agg l.toArray, .agg #[.int .i64 14, .int .i64 a, .int .i64 b, .int .i64 imm]] w fun e w' => e = .returned (effV r 14 a b imm) ∧ Below w.heap.size w w' := by
  have HL := Lib.hid hl
  clear hl
  have X1 := ((Box.new w l 25).box (.cells #[.int .i64 14, .int .i64 a, .int .i64 b, .int .i64 imm] 50)).box (.cells #[.int .i64 0, .int .i64 0, .int .u32 0, .int .u32 0] 28)
  have Y1 := (Box.new (w.alloc (.cells l.toArray 25)) [.int .i64 14, .int .i64 a, .int .i64 b, .int .i64 imm] 50).box (.cells #[.int .i64 0, .int .i64 0, .int .u32 0, .int .u32 0] 28)
  have Z1 := Box.new ((w.alloc (.cells l.toArray 25)).alloc (.cells #[.int .i64 14, .int .i64 a, .int .i64 b, .int .i64 imm] 50)) [.int .i64 0, .int .i64 0, .int .u32 0, .int .u32 0] 28
  rw [World.size_alloc] at Y1
  rw [World.size_alloc, World.size_alloc] at Z1
  have B1 : Below w.heap.size w (((w.alloc (.cells l.toArray 25)).alloc (.cells #[.int .i64 14, .int .i64 a, .int .i64 b, .int .i64 imm] 50)).alloc (.cells #[.int .i64 0, .int .i64 0, .int .u32 0, .int .u32 0] 28)) := (((Below.refl _ _).alloc (Nat.le_refl _) _).alloc (by simp) _).alloc (by simp; omega) _
  have HB := Lib.hid B1
  have XH := Lib.hid X1
  have YH := Lib.hid Y1
  have ZH := Lib.hid Z1
  clear B1 X1 Y1 Z1
  go_enter Tryd.func38, Tryd.ntmps38
  go_wp2_with fail
  generalize (((w.alloc (.cells l.toArray 25)).alloc (.cells #[.int .i64 14, .int .i64 a, .int .i64 b, .int .i64 imm] 50)).alloc (.cells #[.int .i64 0, .int .i64 0, .int .u32 0, .int .u32 0] 28)) = w1 at *
  have ia : (a : Int) < 16 := by omega
  have ib : (b : Int) < 16 := by omega
  have c1 := cell_regrown (XH.out.at a (HL.out.reg a ha))
  have c2 := cell_regrown (XH.out.at b (HL.out.reg b hb))
  have y0 := cell_regrown (YH.out.at 0 rfl)
  have y1 := cell_regrown (YH.out.at 1 rfl)
  have y2 := cell_regrown (YH.out.at 2 rfl)
  have y3 := cell_regrown (YH.out.at 3 rfl)
  refine wp_region_quiet_below (by kernel_rfl) (by kernel_rfl) ?_
  repeat (quiet_step (first | (go_at_call 36; exact Calls.regrown_of (sgnW _ _ _ _ _))))
  refine wpQuiet_nil ?_
  intro _ hw'
  obtain ⟨⟨dq, osq⟩, hw''⟩ := hw'
  subst hw''
  clear c1 c2 y0 y1 y2 y3
  have hb2 := below_regrown w1 dq osq
  generalize grow (redrawn w1 dq) osq = w2 at *
  have B2 := Lib.hid (HB.out.trans (hb2.mono HB.out.size))
  have Y2 := Lib.hid (YH.out.kept hb2)
  have Z2 := Lib.hid (ZH.out.kept hb2)
  have y0 := Y2.out.at 0 rfl
  have y1 := Y2.out.at 1 rfl
  have z0 := Z2.out.at 0 rfl
  have z1 := Z2.out.at 1 rfl
  have z2 := Z2.out.at 2 rfl
  have z3 := Z2.out.at 3 rfl
  have f0 := Z2.out.fz 0 (by decide)
  have f1 := Z2.out.fz 1 (by decide)
  have f2 := Z2.out.fz 2 (by decide)
  have f3 := Z2.out.fz 3 (by decide)
  clear hb2
  go_wp2_with (go_at_call 28; refine (lowByte_any _ _).mono ?_; rintro e w' ⟨rfl, rfl⟩)
  have F : Four w2 (w.heap.size + 1 + 1) := Z2.out.four
  refine bodyPost_ret (v := effV r 14 a b imm) (w := wr4 w2 (w.heap.size + 1 + 1) _ _ _ _) (by simp [effV, eK, eR, eA, eV, results, Tryd.results38, go_sem, wr4_cells F]) rfl ⟨rfl, ?_⟩
  exact wr4_below B2.out (by omega) _ _ _ _

set_option maxHeartbeats 2000000 in
theorem mem15 (l : List Value) (r : Nat → Int) (pc : Int) (a b imm : Nat) (w : World) (hl : IsSt l r pc) (ha : a < 16) (hb : b < 16) :
    Calls Tryd.prog 38 #[.agg l.toArray, .agg #[.int .i64 15, .int .i64 a, .int .i64 b, .int .i64 imm]] w fun e w' => e = .returned (effV r 15 a b imm) ∧ Below w.heap.size w w' := by
  have HL := Lib.hid hl
  clear hl
  have X1 := ((Box.new w l 25).box (.cells #[.int .i64 15, .int .i64 a, .int .i64 b, .int .i64 imm] 50)).box (.cells #[.int .i64 0, .int .i64 0, .int .u32 0, .int .u32 0] 28)
  have Y1 := (Box.new (w.alloc (.cells l.toArray 25)) [.int .i64 15, .int .i64 a, .int .i64 b, .int .i64 imm] 50).box (.cells #[.int .i64 0, .int .i64 0, .int .u32 0, .int .u32 0] 28)
  have Z1 := Box.new ((w.alloc (.cells l.toArray 25)).alloc (.cells #[.int .i64 15, .int .i64 a, .int .i64 b, .int .i64 imm] 50)) [.int .i64 0, .int .i64 0, .int .u32 0, .int .u32 0] 28
  rw [World.size_alloc] at Y1
  rw [World.size_alloc, World.size_alloc] at Z1
  have B1 : Below w.heap.size w (((w.alloc (.cells l.toArray 25)).alloc (.cells #[.int .i64 15, .int .i64 a, .int .i64 b, .int .i64 imm] 50)).alloc (.cells #[.int .i64 0, .int .i64 0, .int .u32 0, .int .u32 0] 28)) := (((Below.refl _ _).alloc (Nat.le_refl _) _).alloc (by simp) _).alloc (by simp; omega) _
  have HB := Lib.hid B1
  have XH := Lib.hid X1
  have YH := Lib.hid Y1
  have ZH := Lib.hid Z1
  clear B1 X1 Y1 Z1
  go_enter Tryd.func38, Tryd.ntmps38
  go_wp2_with fail
  generalize (((w.alloc (.cells l.toArray 25)).alloc (.cells #[.int .i64 15, .int .i64 a, .int .i64 b, .int .i64 imm] 50)).alloc (.cells #[.int .i64 0, .int .i64 0, .int .u32 0, .int .u32 0] 28)) = w1 at *
  have ia : (a : Int) < 16 := by omega
  have ib : (b : Int) < 16 := by omega
  have c1 := cell_regrown (XH.out.at a (HL.out.reg a ha))
  have c2 := cell_regrown (XH.out.at b (HL.out.reg b hb))
  have y0 := cell_regrown (YH.out.at 0 rfl)
  have y1 := cell_regrown (YH.out.at 1 rfl)
  have y2 := cell_regrown (YH.out.at 2 rfl)
  have y3 := cell_regrown (YH.out.at 3 rfl)
  refine wp_region_quiet_below (by kernel_rfl) (by kernel_rfl) ?_
  repeat (quiet_step (first | (go_at_call 36; exact Calls.regrown_of (sgnW _ _ _ _ _))))
  refine wpQuiet_nil ?_
  intro _ hw'
  obtain ⟨⟨dq, osq⟩, hw''⟩ := hw'
  subst hw''
  clear c1 c2 y0 y1 y2 y3
  have hb2 := below_regrown w1 dq osq
  generalize grow (redrawn w1 dq) osq = w2 at *
  have B2 := Lib.hid (HB.out.trans (hb2.mono HB.out.size))
  have Y2 := Lib.hid (YH.out.kept hb2)
  have Z2 := Lib.hid (ZH.out.kept hb2)
  have y0 := Y2.out.at 0 rfl
  have y1 := Y2.out.at 1 rfl
  have z0 := Z2.out.at 0 rfl
  have z1 := Z2.out.at 1 rfl
  have z2 := Z2.out.at 2 rfl
  have z3 := Z2.out.at 3 rfl
  have f0 := Z2.out.fz 0 (by decide)
  have f1 := Z2.out.fz 1 (by decide)
  have f2 := Z2.out.fz 2 (by decide)
  have f3 := Z2.out.fz 3 (by decide)
  clear hb2
  go_wp2_with (go_at_call 28; refine (lowByte_any _ _).mono ?_; rintro e w' ⟨rfl, rfl⟩)
  have F : Four w2 (w.heap.size + 1 + 1) := Z2.out.four
  refine bodyPost_ret (v := effV r 15 a b imm) (w := wr4 w2 (w.heap.size + 1 + 1) _ _ _ _) (by simp [effV, eK, eR, eA, eV, results, Tryd.results38, go_sem, wr4_cells F]) rfl ⟨rfl, ?_⟩
  exact wr4_below B2.out (by omega) _ _ _ _

set_option maxHeartbeats 2000000 in
theorem eff12 (l : List Value) (r : Nat → Int) (pc : Int) (a b imm : Nat) (w : World) (hl : IsSt l r pc) (ha : a < 16) (hb : b < 16) :
    Calls Tryd.prog 23 #[.agg l.toArray, .agg #[.int .i64 12, .int .i64 a, .int .i64 b, .int .i64 imm]] w fun e w' => e = .returned (effV r 12 a b imm) ∧ Below w.heap.size w w' := by
  have HL := Lib.hid hl
  clear hl
  have X1 := ((Box.new w l 25).box (.cells #[.int .i64 12, .int .i64 a, .int .i64 b, .int .i64 imm] 50)).box (.cells #[.int .i64 0, .int .i64 0, .int .u32 0, .int .u32 0] 28)
  have Z1 := Box.new ((w.alloc (.cells l.toArray 25)).alloc (.cells #[.int .i64 12, .int .i64 a, .int .i64 b, .int .i64 imm] 50)) [.int .i64 0, .int .i64 0, .int .u32 0, .int .u32 0] 28
  rw [World.size_alloc, World.size_alloc] at Z1
  have B1 : Below w.heap.size w (((w.alloc (.cells l.toArray 25)).alloc (.cells #[.int .i64 12, .int .i64 a, .int .i64 b, .int .i64 imm] 50)).alloc (.cells #[.int .i64 0, .int .i64 0, .int .u32 0, .int .u32 0] 28)) := (((Below.refl _ _).alloc (Nat.le_refl _) _).alloc (by simp) _).alloc (by simp; omega) _
  have HB := Lib.hid B1
  have XH := Lib.hid X1
  have ZH := Lib.hid Z1
  clear B1 X1 Z1
  go_enter Tryd.func23, Tryd.ntmps23
  go_wp2_with (refine wl_load (.tmp 2) _ _ rfl rfl rfl XH.out HL.out.size ?_)
  refine (mem12 _ _ _ _ _ _ _ HL.out ha hb).mono ?_
  rintro e w2 ⟨rfl, hb2⟩
  have B2 := Lib.hid (HB.out.trans (hb2.mono HB.out.size))
  have Z2 := Lib.hid (ZH.out.kept hb2)
  have z0 := Z2.out.at 0 rfl
  have z1 := Z2.out.at 1 rfl
  have z2 := Z2.out.at 2 rfl
  have z3 := Z2.out.at 3 rfl
  have f0 := Z2.out.fz 0 (by decide)
  have f1 := Z2.out.fz 1 (by decide)
  have f2 := Z2.out.fz 2 (by decide)
  have f3 := Z2.out.fz 3 (by decide)
  clear hb2
  unfold effV
  go_wp2
  have F : Four w2 (w.heap.size + 1 + 1) := Z2.out.four
  refine bodyPost_ret (v := effV r 12 a b imm) (w := wr4 w2 (w.heap.size + 1 + 1) _ _ _ _) (by simp [effV, results, Tryd.results23, go_sem, wr4_cells F]) rfl ⟨rfl, ?_⟩
  exact wr4_below B2.out (by omega) _ _ _ _

set_option maxHeartbeats 2000000 in
theorem eff13 (l : List Value) (r : Nat → Int) (pc : Int) (a b imm : Nat) (w : World) (hl : IsSt l r pc) (ha : a < 16) (hb : b < 16) :
    Calls Tryd.prog 23 #[.agg l.toArray, .agg #[.int .i64 13, .int .i64 a, .int .i64 b, .int .i64 imm]] w fun e w' => e = .returned (effV r 13 a b imm) ∧ Below w.heap.size w w' := by
  have HL := Lib.hid hl
  clear hl
  have X1 := ((Box.new w l 25).box (.cells #[.int .i64 13, .int .i64 a, .int .i64 b, .int .i64 imm] 50)).box (.cells #[.int .i64 0, .int .i64 0, .int .u32 0, .int .u32 0] 28)
  have Z1 := Box.new ((w.alloc (.cells l.toArray 25)).alloc (.cells #[.int .i64 13, .int .i64 a, .int .i64 b, .int .i64 imm] 50)) [.int .i64 0, .int .i64 0, .int .u32 0, .int .u32 0] 28
  rw [World.size_alloc, World.size_alloc] at Z1
  have B1 : Below w.heap.size w (((w.alloc (.cells l.toArray 25)).alloc (.cells #[.int .i64 13, .int .i64 a, .int .i64 b, .int .i64 imm] 50)).alloc (.cells #[.int .i64 0, .int .i64 0, .int .u32 0, .int .u32 0] 28)) := (((Below.refl _ _).alloc (Nat.le_refl _) _).alloc (by simp) _).alloc (by simp; omega) _
  have HB := Lib.hid B1
  have XH := Lib.hid X1
  have ZH := Lib.hid Z1
  clear B1 X1 Z1
  go_enter Tryd.func23, Tryd.ntmps23
  go_wp2_with (refine wl_load (.tmp 2) _ _ rfl rfl rfl XH.out HL.out.size ?_)
  refine (mem13 _ _ _ _ _ _ _ HL.out ha hb).mono ?_
  rintro e w2 ⟨rfl, hb2⟩
  have B2 := Lib.hid (HB.out.trans (hb2.mono HB.out.size))
  have Z2 := Lib.hid (ZH.out.kept hb2)
  have z0 := Z2.out.at 0 rfl
  have z1 := Z2.out.at 1 rfl
  have z2 := Z2.out.at 2 rfl
  have z3 := Z2.out.at 3 rfl
  have f0 := Z2.out.fz 0 (by decide)
  have f1 := Z2.out.fz 1 (by decide)
  have f2 := Z2.out.fz 2 (by decide)
  have f3 := Z2.out.fz 3 (by decide)
  clear hb2
  unfold effV
  go_wp2
  have F : Four w2 (w.heap.size + 1 + 1) := Z2.out.four
  refine bodyPost_ret (v := effV r 13 a b imm) (w := wr4 w2 (w.heap.size + 1 + 1) _ _ _ _) (by simp [effV, results, Tryd.results23, go_sem, wr4_cells F]) rfl ⟨rfl, ?_⟩
  exact wr4_below B2.out (by omega) _ _ _ _

set_option maxHeartbeats 2000000 in
theorem eff14 (l : List Value) (r : Nat → Int) (pc : Int) (a b imm : Nat) (w : World) (hl : IsSt l r pc) (ha : a < 16) (hb : b < 16) :
    Calls Tryd.prog 23 #[.agg l.toArray, .agg #[.int .i64 14, .int .i64 a, .int .i64 b, .int .i64 imm]] w fun e w' => e = .returned (effV r 14 a b imm) ∧ Below w.heap.size w w' := by
  have HL := Lib.hid hl
  clear hl
  have X1 := ((Box.new w l 25).box (.cells #[.int .i64 14, .int .i64 a, .int .i64 b, .int .i64 imm] 50)).box (.cells #[.int .i64 0, .int .i64 0, .int .u32 0, .int .u32 0] 28)
  have Z1 := Box.new ((w.alloc (.cells l.toArray 25)).alloc (.cells #[.int .i64 14, .int .i64 a, .int .i64 b, .int .i64 imm] 50)) [.int .i64 0, .int .i64 0, .int .u32 0, .int .u32 0] 28
  rw [World.size_alloc, World.size_alloc] at Z1
  have B1 : Below w.heap.size w (((w.alloc (.cells l.toArray 25)).alloc (.cells #[.int .i64 14, .int .i64 a, .int .i64 b, .int .i64 imm] 50)).alloc (.cells #[.int .i64 0, .int .i64 0, .int .u32 0, .int .u32 0] 28)) := (((Below.refl _ _).alloc (Nat.le_refl _) _).alloc (by simp) _).alloc (by simp; omega) _
  have HB := Lib.hid B1
  have XH := Lib.hid X1
  have ZH := Lib.hid Z1
  clear B1 X1 Z1
  go_enter Tryd.func23, Tryd.ntmps23
  go_wp2_with (refine wl_load (.tmp 2) _ _ rfl rfl rfl XH.out HL.out.size ?_)
  refine (mem14 _ _ _ _ _ _ _ HL.out ha hb).mono ?_
  rintro e w2 ⟨rfl, hb2⟩
  have B2 := Lib.hid (HB.out.trans (hb2.mono HB.out.size))
  have Z2 := Lib.hid (ZH.out.kept hb2)
  have z0 := Z2.out.at 0 rfl
  have z1 := Z2.out.at 1 rfl
  have z2 := Z2.out.at 2 rfl
  have z3 := Z2.out.at 3 rfl
  have f0 := Z2.out.fz 0 (by decide)
  have f1 := Z2.out.fz 1 (by decide)
  have f2 := Z2.out.fz 2 (by decide)
  have f3 := Z2.out.fz 3 (by decide)
  clear hb2
  unfold effV
  go_wp2
  have F : Four w2 (w.heap.size + 1 + 1) := Z2.out.four
  refine bodyPost_ret (v := effV r 14 a b imm) (w := wr4 w2 (w.heap.size + 1 + 1) _ _ _ _) (by simp [effV, results, Tryd.results23, go_sem, wr4_cells F]) rfl ⟨rfl, ?_⟩
  exact wr4_below B2.out (by omega) _ _ _ _

set_option maxHeartbeats 2000000 in
theorem eff15 (l : List Value) (r : Nat → Int) (pc : Int) (a b imm : Nat) (w : World) (hl : IsSt l r pc) (ha : a < 16) (hb : b < 16) :
    Calls Tryd.prog 23 #[.agg l.toArray, .agg #[.int .i64 15, .int .i64 a, .int .i64 b, .int .i64 imm]] w fun e w' => e = .returned (effV r 15 a b imm) ∧ Below w.heap.size w w' := by
  have HL := Lib.hid hl
  clear hl
  have X1 := ((Box.new w l 25).box (.cells #[.int .i64 15, .int .i64 a, .int .i64 b, .int .i64 imm] 50)).box (.cells #[.int .i64 0, .int .i64 0, .int .u32 0, .int .u32 0] 28)
  have Z1 := Box.new ((w.alloc (.cells l.toArray 25)).alloc (.cells #[.int .i64 15, .int .i64 a, .int .i64 b, .int .i64 imm] 50)) [.int .i64 0, .int .i64 0, .int .u32 0, .int .u32 0] 28
  rw [World.size_alloc, World.size_alloc] at Z1
  have B1 : Below w.heap.size w (((w.alloc (.cells l.toArray 25)).alloc (.cells #[.int .i64 15, .int .i64 a, .int .i64 b, .int .i64 imm] 50)).alloc (.cells #[.int .i64 0, .int .i64 0, .int .u32 0, .int .u32 0] 28)) := (((Below.refl _ _).alloc (Nat.le_refl _) _).alloc (by simp) _).alloc (by simp; omega) _
  have HB := Lib.hid B1
  have XH := Lib.hid X1
  have ZH := Lib.hid Z1
  clear B1 X1 Z1
  go_enter Tryd.func23, Tryd.ntmps23
  go_wp2_with (refine wl_load (.tmp 2) _ _ rfl rfl rfl XH.out HL.out.size ?_)
  refine (mem15 _ _ _ _ _ _ _ HL.out ha hb).mono ?_
  rintro e w2 ⟨rfl, hb2⟩
  have B2 := Lib.hid (HB.out.trans (hb2.mono HB.out.size))
  have Z2 := Lib.hid (ZH.out.kept hb2)
  have z0 := Z2.out.at 0 rfl
  have z1 := Z2.out.at 1 rfl
  have z2 := Z2.out.at 2 rfl
  have z3 := Z2.out.at 3 rfl
  have f0 := Z2.out.fz 0 (by decide)
  have f1 := Z2.out.fz 1 (by decide)
  have f2 := Z2.out.fz 2 (by decide)
  have f3 := Z2.out.fz 3 (by decide)
  clear hb2
  unfold effV
  go_wp2
  have F : Four w2 (w.heap.size + 1 + 1) := Z2.out.four
  refine bodyPost_ret (v := effV r 15 a b imm) (w := wr4 w2 (w.heap.size + 1 + 1) _ _ _ _) (by simp [effV, results, Tryd.results23, go_sem, wr4_cells F]) rfl ⟨rfl, ?_⟩
  exact wr4_below B2.out (by omega) _ _ _ _

set_option maxHeartbeats 2000000 in
theorem eff21 (l : List Value) (r : Nat → Int) (pc : Int) (a b imm : Nat) (w : World) (hl : IsSt l r pc) (ha : a < 16) (hi : imm < 65536) :
    Calls Tryd.prog 23 #[.agg l.toArray, .agg #[.int .i64 21, .int .i64 a, .int .i64 b, .int .i64 imm]] w fun e w' => e = .returned (effV r 21 a b imm) ∧ Below w.heap.size w w' := by
  have h1 := hl.reg a ha
  have em : (imm : Int) % 4294967296 = imm := by omega
  clear hl
  go_enter Tryd.func23, Tryd.ntmps23
  go_wp2
  refine bodyPost_ret (v := effV r 21 a b imm) (by simp [effV, eK, eR, eA, eV, results, Tryd.results23, go_sem]) rfl ⟨rfl, ?_⟩
  exact (((Below.refl _ _).alloc (Nat.le_refl _) _).alloc (by simp) _).alloc (by simp; omega) _

set_option maxHeartbeats 2000000 in
theorem eff22 (l : List Value) (r : Nat → Int) (pc : Int) (a b imm : Nat) (w : World) (hl : IsSt l r pc) (ha : a < 16) (hi : imm < 65536) :
    Calls Tryd.prog 23 #[.agg l.toArray, .agg #[.int .i64 22, .int .i64 a, .int .i64 b, .int .i64 imm]] w fun e w' => e = .returned (effV r 22 a b imm) ∧ Below w.heap.size w w' := by
  have h1 := hl.reg a ha
  have em : (imm : Int) % 4294967296 = imm := by omega
  clear hl
  go_enter Tryd.func23, Tryd.ntmps23
  go_wp2
  refine bodyPost_ret (v := effV r 22 a b imm) (by simp [effV, eK, eR, eA, eV, results, Tryd.results23, go_sem]) rfl ⟨rfl, ?_⟩
  exact (((Below.refl _ _).alloc (Nat.le_refl _) _).alloc (by simp) _).alloc (by simp; omega) _

set_option maxHeartbeats 2000000 in
theorem eff23 (l : List Value) (r : Nat → Int) (pc : Int) (a b imm : Nat) (w : World) (hl : IsSt l r pc) (ha : a < 16) (hi : imm < 65536) :
    Calls Tryd.prog 23 #[.agg l.toArray, .agg #[.int .i64 23, .int .i64 a, .int .i64 b, .int .i64 imm]] w fun e w' => e = .returned (effV r 23 a b imm) ∧ Below w.heap.size w w' := by
  have h1 := hl.reg a ha
  have em : (imm : Int) % 4294967296 = imm := by omega
  clear hl
  go_enter Tryd.func23, Tryd.ntmps23
  go_wp2
  refine bodyPost_ret (v := effV r 23 a b imm) (by simp [effV, eK, eR, eA, eV, results, Tryd.results23, go_sem]) rfl ⟨rfl, ?_⟩
  exact (((Below.refl _ _).alloc (Nat.le_refl _) _).alloc (by simp) _).alloc (by simp; omega) _

set_option maxHeartbeats 2000000 in
theorem eff24 (l : List Value) (r : Nat → Int) (pc : Int) (a b imm : Nat) (w : World) (hl : IsSt l r pc) (ha : a < 16) (hi : imm < 65536) :
    Calls Tryd.prog 23 #[.agg l.toArray, .agg #[.int .i64 24, .int .i64 a, .int .i64 b, .int .i64 imm]] w fun e w' => e = .returned (effV r 24 a b imm) ∧ Below w.heap.size w w' := by
  have h1 := hl.reg a ha
  have em : (imm : Int) % 4294967296 = imm := by omega
  clear hl
  go_enter Tryd.func23, Tryd.ntmps23
  go_wp2
  refine bodyPost_ret (v := effV r 24 a b imm) (by simp [effV, eK, eR, eA, eV, results, Tryd.results23, go_sem]) rfl ⟨rfl, ?_⟩
  exact (((Below.refl _ _).alloc (Nat.le_refl _) _).alloc (by simp) _).alloc (by simp; omega) _

set_option maxHeartbeats 2000000 in
theorem eff25 (l : List Value) (r : Nat → Int) (pc : Int) (a b imm : Nat) (w : World) (hl : IsSt l r pc) (ha : a < 16) (hi : imm < 65536) :
    Calls Tryd.prog 23 #[.agg l.toArray, .agg #[.int .i64 25, .int .i64 a, .int .i64 b, .int .i64 imm]] w fun e w' => e = .returned (effV r 25 a b imm) ∧ Below w.heap.size w w' := by
  have h1 := hl.reg a ha
  have em : (imm : Int) % 4294967296 = imm := by omega
  clear hl
  go_enter Tryd.func23, Tryd.ntmps23
  go_wp2
  refine bodyPost_ret (v := effV r 25 a b imm) (by simp [effV, eK, eR, eA, eV, results, Tryd.results23, go_sem]) rfl ⟨rfl, ?_⟩
  exact (((Below.refl _ _).alloc (Nat.le_refl _) _).alloc (by simp) _).alloc (by simp; omega) _

set_option maxHeartbeats 2000000 in
theorem eff26 (l : List Value) (r : Nat → Int) (pc : Int) (a b imm : Nat) (w : World) (hl : IsSt l r pc) (ha : a < 16) (hi : imm < 65536) :
    Calls Tryd.prog 23 #[.agg l.toArray, .agg #[.int .i64 26, .int .i64 a, .int .i64 b, .int .i64 imm]] w fun e w' => e = .returned (effV r 26 a b imm) ∧ Below w.heap.size w w' := by
  have h1 := hl.reg a ha
  have em : (imm : Int) % 4294967296 = imm := by omega
  clear hl
  go_enter Tryd.func23, Tryd.ntmps23
  go_wp2
  refine bodyPost_ret (v := effV r 26 a b imm) (by simp [effV, eK, eR, eA, eV, results, Tryd.results23, go_sem]) rfl ⟨rfl, ?_⟩
  exact (((Below.refl _ _).alloc (Nat.le_refl _) _).alloc (by simp) _).alloc (by simp; omega) _

set_option maxHeartbeats 2000000 in
theorem eff27 (l : List Value) (r : Nat → Int) (pc : Int) (a b imm : Nat) (w : World) (hl : IsSt l r pc) (ha : a < 16) (hi : imm < 65536) :
    Calls Tryd.prog 23 #[.agg l.toArray, .agg #[.int .i64 27, .int .i64 a, .int .i64 b, .int .i64 imm]] w fun e w' => e = .returned (effV r 27 a b imm) ∧ Below w.heap.size w w' := by
  have h1 := hl.reg a ha
  have em : (imm : Int) % 4294967296 = imm := by omega
  clear hl
  go_enter Tryd.func23, Tryd.ntmps23
  go_wp2
  refine bodyPost_ret (v := effV r 27 a b imm) (by simp [effV, eK, eR, eA, eV, results, Tryd.results23, go_sem]) rfl ⟨rfl, ?_⟩
  exact (((Below.refl _ _).alloc (Nat.le_refl _) _).alloc (by simp) _).alloc (by simp; omega) _

set_option maxHeartbeats 2000000 in
theorem eff_none (l : List Value) (r : Nat → Int) (op a b imm : Nat) (w : World) (h : op < 12 ∨ 16 ≤ op ∧ op ≤ 20) :
    Calls Tryd.prog 23 #[.agg l.toArray, .agg #[.int .i64 op, .int .i64 a, .int .i64 b, .int .i64 imm]] w fun e w' => e = .returned (effV r op a b imm) ∧ Below w.heap.size w w' := by
  have E : effV r op a b imm = .agg #[.int .i64 0, .int .i64 0, .int .u32 0, .int .u32 0] := by
    unfold effV
    have h1 : eK op = 0 := by
      have : op = 0 ∨ op = 1 ∨ op = 2 ∨ op = 3 ∨ op = 4 ∨ op = 5 ∨ op = 6 ∨ op = 7 ∨ op = 8 ∨ op = 9 ∨ op = 10 ∨ op = 11 ∨ op = 16 ∨ op = 17 ∨ op = 18 ∨ op = 19 ∨ op = 20 := by omega
      rcases this with rfl | rfl | rfl | rfl | rfl | rfl | rfl | rfl | rfl | rfl | rfl | rfl | rfl | rfl | rfl | rfl | rfl <;> rfl
    have h2 : eR op a = 0 := by unfold eR; rw [if_neg (by omega)]
    have h3 : eA r op b imm = 0 := by unfold eA; rw [if_neg (by omega), if_neg (by omega)]
    have h4 : eV r op a imm = 0 := by unfold eV; rw [if_neg (by omega), if_neg (by omega), if_neg (by omega)]
    rw [h1, h2, h3, h4]
  have HE := Lib.hid E
  have d12 : ((op : Int) == 12) = false := by simp; omega
  have d13 : ((op : Int) == 13) = false := by simp; omega
  have d14 : ((op : Int) == 14) = false := by simp; omega
  have d15 : ((op : Int) == 15) = false := by simp; omega
  have d21 : ((op : Int) == 21) = false := by simp; omega
  have d22 : ((op : Int) == 22) = false := by simp; omega
  have d23 : ((op : Int) == 23) = false := by simp; omega
  have d24 : ((op : Int) == 24) = false := by simp; omega
  have d25 : ((op : Int) == 25) = false := by simp; omega
  have d26 : ((op : Int) == 26) = false := by simp; omega
  have d27 : ((op : Int) == 27) = false := by simp; omega
  clear E h
  go_enter Tryd.func23, Tryd.ntmps23
  go_wp2
  refine bodyPost_ret (v := effV r op a b imm) (by rw [HE.out]; simp [results, Tryd.results23, go_sem]) rfl ⟨rfl, ?_⟩
  exact (((Below.refl _ _).alloc (Nat.le_refl _) _).alloc (by simp) _).alloc (by simp; omega) _
theorem effect_any (l : List Value) (r : Nat → Int) (pc : Int) (op a b imm : Nat) (w : World) (hl : IsSt l r pc) (ho : op < 28) (ha : a < 16) (hb : b < 16) (hi : imm < 65536) :
    Calls Tryd.prog 23 #[.agg l.toArray, .agg #[.int .i64 op, .int .i64 a, .int .i64 b, .int .i64 imm]] w fun e w' => e = .returned (effV r op a b imm) ∧ Below w.heap.size w w' := by
  by_cases h : op < 12 ∨ 16 ≤ op ∧ op ≤ 20
  · exact eff_none l r op a b imm w h
  · have : op = 12 ∨ op = 13 ∨ op = 14 ∨ op = 15 ∨ op = 21 ∨ op = 22 ∨ op = 23 ∨ op = 24 ∨ op = 25 ∨ op = 26 ∨ op = 27 := by omega
    rcases this with rfl | rfl | rfl | rfl | rfl | rfl | rfl | rfl | rfl | rfl | rfl
    · exact eff12 l r pc a b imm w hl ha hb
    · exact eff13 l r pc a b imm w hl ha hb
    · exact eff14 l r pc a b imm w hl ha hb
    · exact eff15 l r pc a b imm w hl ha hb
    · exact eff21 l r pc a b imm w hl ha hi
    · exact eff22 l r pc a b imm w hl ha hi
    · exact eff23 l r pc a b imm w hl ha hi
    · exact eff24 l r pc a b imm w hl ha hi
    · exact eff25 l r pc a b imm w hl ha hi
    · exact eff26 l r pc a b imm w hl ha hi
    · exact eff27 l r pc a b imm w hl ha hi

end Alu
end Go.Proofs.YtlfhcnpbgbnadaaDoor
