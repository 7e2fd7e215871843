/-
  What each statement of layer 3 asks first, a loop that adds, is answered with true; the condition: the tables that the program's text lays lie so.
-/
import Derived.Test.YtlfhcnpbgbnadaaDoorAluText
import Derived.Test.YtlfhcnpbgbnadaaDoorAluDone
namespace Go.Proofs.YtlfhcnpbgbnadaaDoor
open Go.RowKit Isa
namespace Alu

theorem run0 : runV (gW (zT P0) 24) 100 (fun _ => 0) 0 0 = .tuple #[.agg (stL (fun j => [0, 0, 6].getD j 0) 24).toArray, .agg #[.int .i64 3, .int .i64 0, .int .u32 8, .int .u32 6], .int .i64 11] := by kernel_rfl
theorem done0 : stL (dR (fun _ => 0) 2 4 511) 0 = stL (fun j => [0, 0, 0, 0, 255].getD j 0) 0 := by kernel_rfl
theorem step0 : stepV (fun _ => 0) 8 28 = .tuple #[.agg (stL (fun _ => 0) 8).toArray, .agg #[.int .i64 12, .int .i64 0, .int .u32 0, .int .u32 0]] := by kernel_rfl
/-- The first state of the loop: its list, kept shut. -/
def la : List Value := stL (fun j => [0, 0, 6].getD j 0) 24
def ld : List Value := stL (fun j => [0, 0, 0, 0, 255].getD j 0) 0
def ls : List Value := stL (fun _ => 0) 8
theorem la_is : IsSt la (fun j => [0, 0, 6].getD j 0) 24 := stL_is _ _
theorem ld_is : IsSt ld (fun j => [0, 0, 0, 0, 255].getD j 0) 0 := stL_is _ _
theorem ls_is : IsSt ls (fun _ => 0) 8 := stL_is _ _
theorem R0 : R32 (fun _ => 0) := fun _ _ => ⟨by simp, by simp⟩
theorem run_c (g : Nat) (w : World) (hE : Env w) (hc : CodeIn w (some ⟨g, 0, none⟩) 24 (zT P0)) :
    Calls Tryd.prog 16 #[.agg #[.int .u32 0, .int .u32 0, .int .u32 0, .int .u32 0, .int .u32 0, .int .u32 0, .int .u32 0, .int .u32 0, .int .u32 0, .int .u32 0, .int .u32 0, .int .u32 0, .int .u32 0, .int .u32 0, .int .u32 0, .int .u32 0, .int .u32 0], .slice (some ⟨g, 0, none⟩) 24 24, .int .i64 100] w fun e w' => e = .returned (.tuple #[.agg la.toArray, .agg #[.int .i64 3, .int .i64 0, .int .u32 8, .int .u32 6], .int .i64 11]) ∧ Below w.heap.size w w' := by
  have h := run_any (stL (fun _ => 0) 0) (fun _ => 0) 0 (some ⟨g, 0, none⟩) 24 24 (zT P0) 100 w hE.1 (stL_is _ _) R0 ⟨by decide, by decide⟩ hc (by decide) (by decide)
  have e : runV (gW (zT P0) 24) (100 : Int).toNat (fun _ => 0) 0 0 = .tuple #[.agg la.toArray, .agg #[.int .i64 3, .int .i64 0, .int .u32 8, .int .u32 6], .int .i64 11] := run0
  rw [e] at h
  exact h
theorem done_c (w : World) :
    Calls Tryd.prog 14 #[.agg #[.int .u32 0, .int .u32 0, .int .u32 0, .int .u32 0, .int .u32 0, .int .u32 0, .int .u32 0, .int .u32 0, .int .u32 0, .int .u32 0, .int .u32 0, .int .u32 0, .int .u32 0, .int .u32 0, .int .u32 0, .int .u32 0, .int .u32 0], .agg #[.int .i64 2, .int .i64 4, .int .u32 0, .int .u32 0], .int .u32 511] w fun e w' => e = .returned (.agg ld.toArray) ∧ Below w.heap.size w w' := by
  have h := done_any (stL (fun _ => 0) 0) (fun _ => 0) 0 2 4 0 0 511 w (stL_is _ _)
  rw [done0] at h
  exact h
theorem step_c (w : World) (hE : Env w) :
    Calls Tryd.prog 10 #[.agg #[.int .u32 0, .int .u32 0, .int .u32 0, .int .u32 0, .int .u32 0, .int .u32 0, .int .u32 0, .int .u32 0, .int .u32 0, .int .u32 0, .int .u32 0, .int .u32 0, .int .u32 0, .int .u32 0, .int .u32 0, .int .u32 0, .int .u32 8], .int .u32 28] w fun e w' => e = .returned (.tuple #[.agg ls.toArray, .agg #[.int .i64 12, .int .i64 0, .int .u32 0, .int .u32 0]]) ∧ Below w.heap.size w w' := by
  have h := step_any (stL (fun _ => 0) 8) (fun _ => 0) 8 28 w hE.1 (stL_is _ _) R0 ⟨by decide, by decide⟩
  rw [step0] at h
  exact h
theorem p0_s : (⟨#[108, 105, 32, 114, 49, 32, 51, 10, 108, 105, 32, 114, 50, 32, 48, 10, 97, 100, 100, 32, 114, 50, 32, 114, 50, 32, 114, 49, 10, 97, 100, 100, 105, 32, 114, 49, 32, 114, 49, 32, 45, 49, 10, 98, 110, 101, 32, 114, 49, 32, 114, 48, 32, 45, 50, 10, 115, 116, 32, 114, 50, 32, 114, 48, 32, 56, 10]⟩ : ByteArray).data.toList = tT P0 := P0_text.symm
theorem zeroE (w : World) : Box (w.alloc (.cells #[.int .i64 0, .int .i64 0, .int .u32 0, .int .u32 0] 28)) w.heap.size [.int .i64 0, .int .i64 0, .int .u32 0, .int .u32 0] := Box.new w [.int .i64 0, .int .i64 0, .int .u32 0, .int .u32 0] 28
/-- A state and an effect, laid into two new blocks. -/
theorem two_boxes (w : World) (l : List Value) (hl : l.length = 17) (v0 v1 v2 v3 : Value) :
    Box (w.alloc (.cells #[.int .u32 0, .int .u32 0, .int .u32 0, .int .u32 0, .int .u32 0, .int .u32 0, .int .u32 0, .int .u32 0, .int .u32 0, .int .u32 0, .int .u32 0, .int .u32 0, .int .u32 0, .int .u32 0, .int .u32 0, .int .u32 0, .int .u32 0] 25) |>.alloc (.cells #[.int .i64 0, .int .i64 0, .int .u32 0, .int .u32 0] 28)) w.heap.size (stL (fun _ => 0) 0) ∧
    Box ((w.alloc (.cells #[.int .u32 0, .int .u32 0, .int .u32 0, .int .u32 0, .int .u32 0, .int .u32 0, .int .u32 0, .int .u32 0, .int .u32 0, .int .u32 0, .int .u32 0, .int .u32 0, .int .u32 0, .int .u32 0, .int .u32 0, .int .u32 0, .int .u32 0] 25) |>.alloc (.cells #[.int .i64 0, .int .i64 0, .int .u32 0, .int .u32 0] 28)).setCells w.heap.size 0 l) (w.heap.size + 1) [.int .i64 0, .int .i64 0, .int .u32 0, .int .u32 0] ∧
    Box (((w.alloc (.cells #[.int .u32 0, .int .u32 0, .int .u32 0, .int .u32 0, .int .u32 0, .int .u32 0, .int .u32 0, .int .u32 0, .int .u32 0, .int .u32 0, .int .u32 0, .int .u32 0, .int .u32 0, .int .u32 0, .int .u32 0, .int .u32 0, .int .u32 0] 25) |>.alloc (.cells #[.int .i64 0, .int .i64 0, .int .u32 0, .int .u32 0] 28)).setCells w.heap.size 0 l).setCells (w.heap.size + 1) 0 [v0, v1, v2, v3]) w.heap.size l ∧
    Box (((w.alloc (.cells #[.int .u32 0, .int .u32 0, .int .u32 0, .int .u32 0, .int .u32 0, .int .u32 0, .int .u32 0, .int .u32 0, .int .u32 0, .int .u32 0, .int .u32 0, .int .u32 0, .int .u32 0, .int .u32 0, .int .u32 0, .int .u32 0, .int .u32 0] 25) |>.alloc (.cells #[.int .i64 0, .int .i64 0, .int .u32 0, .int .u32 0] 28)).setCells w.heap.size 0 l).setCells (w.heap.size + 1) 0 [v0, v1, v2, v3]) (w.heap.size + 1) [v0, v1, v2, v3] ∧
    Below w.heap.size w (((w.alloc (.cells #[.int .u32 0, .int .u32 0, .int .u32 0, .int .u32 0, .int .u32 0, .int .u32 0, .int .u32 0, .int .u32 0, .int .u32 0, .int .u32 0, .int .u32 0, .int .u32 0, .int .u32 0, .int .u32 0, .int .u32 0, .int .u32 0, .int .u32 0] 25) |>.alloc (.cells #[.int .i64 0, .int .i64 0, .int .u32 0, .int .u32 0] 28)).setCells w.heap.size 0 l).setCells (w.heap.size + 1) 0 [v0, v1, v2, v3]) := by
  have T := (zeroBox w).box (.cells #[.int .i64 0, .int .i64 0, .int .u32 0, .int .u32 0] 28)
  have U := zeroE (w.alloc (.cells #[.int .u32 0, .int .u32 0, .int .u32 0, .int .u32 0, .int .u32 0, .int .u32 0, .int .u32 0, .int .u32 0, .int .u32 0, .int .u32 0, .int .u32 0, .int .u32 0, .int .u32 0, .int .u32 0, .int .u32 0, .int .u32 0, .int .u32 0] 25))
  rw [World.size_alloc] at U
  have T1 := T.stored (l' := l) (hl.trans (stL_is _ _).size.symm)
  have U1 := U.apart (b' := w.heap.size) (by omega) l
  exact ⟨T, U1, T1.apart (by omega) _, U1.stored (l' := [v0, v1, v2, v3]) rfl, below_setCells _ _ _ (below_setCells _ _ _ (((Below.refl _ _).alloc (Nat.le_refl _) _).alloc (by simp) _) (Nat.le_refl _)) (by omega)⟩
set_option maxHeartbeats 4000000 in
theorem alive_any (w : World) (hE : Env w) :
    Calls Tryd.prog 9 #[] w fun e w' => e = .returned (.bool true) ∧ Below w.heap.size w w' := by
  have HE := Lib.hid hE
  clear hE
  go_enter Tryd.func9, Tryd.ntmps9
  go_wp2_with fail
  refine (code_T P0 _ _ HE.out p0_s (by decide) P0_right).mono ?_
  rintro e w1 ⟨g, rfl, hc, hb⟩
  have C1 := Lib.hid (show CodeIn w1 (some ⟨g, 0, none⟩) 24 (zT P0) from hc)
  have B1 := Lib.hid hb
  rw [show 4 * P0.length = 24 from rfl]
  clear hc hb
  go_wp2_with fail
  refine (run_c g w1 (HE.out.kept B1.out) C1.out).mono ?_
  rintro e w2 ⟨rfl, hb⟩
  have B2 := Lib.hid (B1.out.trans (hb.mono B1.out.size))
  have S2 := Lib.hid (two_boxes w2 la la_is.size (.int .i64 3) (.int .i64 0) (.int .u32 8) (.int .u32 6))
  clear hb C1 B1
  go_wp2_with (first | (with_reducible (show wpList _ _ _ (⟨_, .store _ (.tmp 1) (.tmp 11), _, _, _, _⟩ :: _) _ _); refine wl_store (.tmp 1) (.tmp 11) _ _ la rfl rfl rfl rfl S2.out.1 (stL_is _ _).size la_is.size la_is.one ?_) | (with_reducible (show wpList _ _ _ (⟨_, .store _ (.tmp 2) (.tmp 12), _, _, _, _⟩ :: _) _ _); refine wl_storeE (.tmp 2) (.tmp 12) _ _ _ _ _ _ _ _ _ rfl rfl rfl rfl S2.out.2.1 (one4 _ _ _ _) ?_))
  have X3 := Lib.hid S2.out.2.2.1
  have Y3 := Lib.hid S2.out.2.2.2.1
  have B3 := Lib.hid (B2.out.trans (S2.out.2.2.2.2.mono B2.out.size))
  clear S2 B2
  generalize (((w2.alloc (.cells #[.int .u32 0, .int .u32 0, .int .u32 0, .int .u32 0, .int .u32 0, .int .u32 0, .int .u32 0, .int .u32 0, .int .u32 0, .int .u32 0, .int .u32 0, .int .u32 0, .int .u32 0, .int .u32 0, .int .u32 0, .int .u32 0, .int .u32 0] 25) |>.alloc (.cells #[.int .i64 0, .int .i64 0, .int .u32 0, .int .u32 0] 28)).setCells w2.heap.size 0 la).setCells (w2.heap.size + 1) 0 [.int .i64 3, .int .i64 0, .int .u32 8, .int .u32 6]) = w3 at *
  refine (done_c w3).mono ?_
  rintro e w4 ⟨rfl, hb⟩
  have X4 := Lib.hid (X3.out.kept hb)
  have Y4 := Lib.hid (Y3.out.kept hb)
  have B4 := Lib.hid (B3.out.trans (hb.mono B3.out.size))
  have Z5 := Lib.hid ((zeroBox w4).stored (l' := ld) (ld_is.size.trans (stL_is _ _).size.symm))
  have ZZ := Lib.hid (zeroBox w4)
  have X5 := Lib.hid ((X4.out.box (.cells #[.int .u32 0, .int .u32 0, .int .u32 0, .int .u32 0, .int .u32 0, .int .u32 0, .int .u32 0, .int .u32 0, .int .u32 0, .int .u32 0, .int .u32 0, .int .u32 0, .int .u32 0, .int .u32 0, .int .u32 0, .int .u32 0, .int .u32 0] 25)).apart (b' := w4.heap.size) (Nat.ne_of_lt X4.out.lt) ld)
  have Y5 := Lib.hid ((Y4.out.box (.cells #[.int .u32 0, .int .u32 0, .int .u32 0, .int .u32 0, .int .u32 0, .int .u32 0, .int .u32 0, .int .u32 0, .int .u32 0, .int .u32 0, .int .u32 0, .int .u32 0, .int .u32 0, .int .u32 0, .int .u32 0, .int .u32 0, .int .u32 0] 25)).apart (b' := w4.heap.size) (Nat.ne_of_lt Y4.out.lt) ld)
  have B5 := Lib.hid (below_setCells (b := w4.heap.size) ld 0 _ (B4.out.alloc B4.out.size (.cells #[.int .u32 0, .int .u32 0, .int .u32 0, .int .u32 0, .int .u32 0, .int .u32 0, .int .u32 0, .int .u32 0, .int .u32 0, .int .u32 0, .int .u32 0, .int .u32 0, .int .u32 0, .int .u32 0, .int .u32 0, .int .u32 0, .int .u32 0] 25)) B4.out.size)
  clear hb X3 Y3 B3 X4 Y4 B4
  go_wp2_with (first | (with_reducible (show wpList _ _ _ (⟨_, .store _ (.tmp 4) (.tmp 16), _, _, _, _⟩ :: _) _ _); refine wl_store (.tmp 4) (.tmp 16) _ _ ld rfl rfl rfl rfl ZZ.out (stL_is _ _).size ld_is.size ld_is.one ?_))
  clear ZZ
  generalize ((w4.alloc (.cells #[.int .u32 0, .int .u32 0, .int .u32 0, .int .u32 0, .int .u32 0, .int .u32 0, .int .u32 0, .int .u32 0, .int .u32 0, .int .u32 0, .int .u32 0, .int .u32 0, .int .u32 0, .int .u32 0, .int .u32 0, .int .u32 0, .int .u32 0] 25)).setCells w4.heap.size 0 ld) = w5 at *
  refine (step_c w5 (HE.out.kept B5.out)).mono ?_
  rintro e w6 ⟨rfl, hb⟩
  have X6 := Lib.hid (X5.out.kept hb)
  have Y6 := Lib.hid (Y5.out.kept hb)
  have Z6 := Lib.hid (Z5.out.kept hb)
  have B6 := Lib.hid (B5.out.trans (hb.mono B5.out.size))
  have S6 := Lib.hid (two_boxes w6 ls ls_is.size (.int .i64 12) (.int .i64 0) (.int .u32 0) (.int .u32 0))
  have X7 := Lib.hid (X6.out.kept S6.out.2.2.2.2)
  have Y7 := Lib.hid (Y6.out.kept S6.out.2.2.2.2)
  have Z7 := Lib.hid (Z6.out.kept S6.out.2.2.2.2)
  have B7 := Lib.hid (B6.out.trans (S6.out.2.2.2.2.mono B6.out.size))
  have V7 := Lib.hid S6.out.2.2.2.1
  have c1 := X7.out.at 2 (la_is.reg 2 (by decide))
  have c2 := X7.out.at 16 la_is.pc
  have c3 := Y7.out.at 0 rfl
  have c4 := Y7.out.at 2 rfl
  have c5 := Y7.out.at 3 rfl
  have c6 := Z7.out.at 4 (ld_is.reg 4 (by decide))
  have c7 := V7.out.at 0 rfl
  simp only [List.getD_cons_succ, List.getD_cons_zero] at c1 c6
  clear hb X5 Y5 Z5 B5 X6 Y6 Z6 B6
  go_wp2_with (first | (with_reducible (show wpList _ _ _ (⟨_, .store _ (.tmp 5) (.tmp 20), _, _, _, _⟩ :: _) _ _); refine wl_store (.tmp 5) (.tmp 20) _ _ ls rfl rfl rfl rfl S6.out.1 (stL_is _ _).size ls_is.size ls_is.one ?_) | (with_reducible (show wpList _ _ _ (⟨_, .store _ (.tmp 6) (.tmp 21), _, _, _, _⟩ :: _) _ _); refine wl_storeE (.tmp 6) (.tmp 21) _ _ _ _ _ _ _ _ _ rfl rfl rfl rfl S6.out.2.1 (one4 _ _ _ _) ?_))
  go_ret
  exact ⟨rfl, B7.out⟩
end Alu
end Go.Proofs.YtlfhcnpbgbnadaaDoor
