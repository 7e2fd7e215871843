/-
  AluSteps: for every state and word, Step answers what the document's own Step answers. The condition is the card's: the package-level tables lie as the program's text lays them.
-/
import Derived.Test.YtlfhcnpbgbnadaaDoorAluAlive
import Derived.Test.YtlfhcnpbgbnadaaDoorAluRStepAll
import Derived.Test.YtlfhcnpbgbnadaaDoorAluOf
import Derived.Test.YtlfhcnpbgbnadaaDoorAluOpen
import Derived.Test.YtlfhcnpbgbnadaaDoorTie
import Derived.ChangeOld
import Derived.ChangeMaps5
namespace Go.Proofs.YtlfhcnpbgbnadaaDoor
open Go.RowKit Isa Alu
/-- A state and an effect of the document's own, laid into two new blocks. -/
theorem two_boxesR (w : World) (l : List Value) (hl : l.length = 17) (v0 v1 v2 v3 : Value) :
    Box (w.alloc (.cells #[.int .u32 0, .int .u32 0, .int .u32 0, .int .u32 0, .int .u32 0, .int .u32 0, .int .u32 0, .int .u32 0, .int .u32 0, .int .u32 0, .int .u32 0, .int .u32 0, .int .u32 0, .int .u32 0, .int .u32 0, .int .u32 0, .int .u32 0] 31) |>.alloc (.cells #[.int .i64 0, .int .i64 0, .int .u32 0, .int .u32 0] 32)) w.heap.size (stL (fun _ => 0) 0) ∧
    Box ((w.alloc (.cells #[.int .u32 0, .int .u32 0, .int .u32 0, .int .u32 0, .int .u32 0, .int .u32 0, .int .u32 0, .int .u32 0, .int .u32 0, .int .u32 0, .int .u32 0, .int .u32 0, .int .u32 0, .int .u32 0, .int .u32 0, .int .u32 0, .int .u32 0] 31) |>.alloc (.cells #[.int .i64 0, .int .i64 0, .int .u32 0, .int .u32 0] 32)).setCells w.heap.size 0 l) (w.heap.size + 1) [.int .i64 0, .int .i64 0, .int .u32 0, .int .u32 0] ∧
    Box (((w.alloc (.cells #[.int .u32 0, .int .u32 0, .int .u32 0, .int .u32 0, .int .u32 0, .int .u32 0, .int .u32 0, .int .u32 0, .int .u32 0, .int .u32 0, .int .u32 0, .int .u32 0, .int .u32 0, .int .u32 0, .int .u32 0, .int .u32 0, .int .u32 0] 31) |>.alloc (.cells #[.int .i64 0, .int .i64 0, .int .u32 0, .int .u32 0] 32)).setCells w.heap.size 0 l).setCells (w.heap.size + 1) 0 [v0, v1, v2, v3]) w.heap.size l ∧ Box (((w.alloc (.cells #[.int .u32 0, .int .u32 0, .int .u32 0, .int .u32 0, .int .u32 0, .int .u32 0, .int .u32 0, .int .u32 0, .int .u32 0, .int .u32 0, .int .u32 0, .int .u32 0, .int .u32 0, .int .u32 0, .int .u32 0, .int .u32 0, .int .u32 0] 31) |>.alloc (.cells #[.int .i64 0, .int .i64 0, .int .u32 0, .int .u32 0] 32)).setCells w.heap.size 0 l).setCells (w.heap.size + 1) 0 [v0, v1, v2, v3]) (w.heap.size + 1) [v0, v1, v2, v3] ∧ Below w.heap.size w (((w.alloc (.cells #[.int .u32 0, .int .u32 0, .int .u32 0, .int .u32 0, .int .u32 0, .int .u32 0, .int .u32 0, .int .u32 0, .int .u32 0, .int .u32 0, .int .u32 0, .int .u32 0, .int .u32 0, .int .u32 0, .int .u32 0, .int .u32 0, .int .u32 0] 31) |>.alloc (.cells #[.int .i64 0, .int .i64 0, .int .u32 0, .int .u32 0] 32)).setCells w.heap.size 0 l).setCells (w.heap.size + 1) 0 [v0, v1, v2, v3]) := by
  have T := (zeroBoxR w).box (.cells #[.int .i64 0, .int .i64 0, .int .u32 0, .int .u32 0] 32)
  have U := Box.new (w.alloc (.cells #[.int .u32 0, .int .u32 0, .int .u32 0, .int .u32 0, .int .u32 0, .int .u32 0, .int .u32 0, .int .u32 0, .int .u32 0, .int .u32 0, .int .u32 0, .int .u32 0, .int .u32 0, .int .u32 0, .int .u32 0, .int .u32 0, .int .u32 0] 31)) [.int .i64 0, .int .i64 0, .int .u32 0, .int .u32 0] 32
  rw [World.size_alloc] at U
  have T1 := T.stored (l' := l) (hl.trans (stL_is _ _).size.symm)
  have U1 := U.apart (b' := w.heap.size) (by omega) l
  exact ⟨T, U1, T1.apart (by omega) _, U1.stored (l' := [v0, v1, v2, v3]) rfl, below_setCells _ _ _ (below_setCells _ _ _ (((Below.refl _ _).alloc (Nat.le_refl _) _).alloc (by simp) _) (Nat.le_refl _)) (by omega)⟩
end Go.Proofs.YtlfhcnpbgbnadaaDoor
namespace Go.Proofs.YtlfhcnpbgbnadaaDoor.aluSteps
open Go.ChangeShapes Go.WideShapes Go.ChangeAt Go.RowKit Go.Joins Isa Alu

set_option maxHeartbeats 4000000 in
theorem walk (r : Nat → Int) (pc v : Int) (w : World) (hE : Env w) (hR : R32 r) (hv : W32 v) :
    Calls Tryd.prog 3 #[.agg (stL r pc).toArray, .int .u32 v] w fun e w' => e = .returned (.bool true) ∧ Below w.heap.size w w' := by
  have HE := Lib.hid hE
  have HR := Lib.hid hR
  have HV := Lib.hid hv
  clear hE hR hv
  have hq := eqRef (sR r pc v) (sP r pc v)
  have B0 := Lib.hid (((Below.refl _ _).alloc (Nat.le_refl _) _) : Below w.heap.size w (w.alloc (.cells (stL r pc).toArray 25)))
  go_enter Tryd.func3, Tryd.ntmps3
  go_wp2_with fail
  refine (alive_any _ (HE.out.box _)).mono ?_
  rintro e w1 ⟨rfl, hb⟩
  have X1 := Lib.hid ((Box.new w (stL r pc) 25).kept hb)
  have B1 := Lib.hid (B0.out.trans (hb.mono B0.out.size))
  clear hb B0
  go_wp2_with (first | (with_reducible (show wpList _ _ _ (⟨_, .load _ (.tmp 2), _, _, _, _⟩ :: _) _ _); refine wl_load (.tmp 2) _ _ rfl rfl rfl X1.out (stL_is _ _).size ?_))
  refine (step_any _ r pc v _ (HE.out.kept B1.out).1 (stL_is _ _) HR.out HV.out).mono ?_
  rintro e w2 ⟨rfl, hb⟩
  have X2 := X1.out.kept hb
  have B2 := B1.out.trans (hb.mono B1.out.size)
  have S2 := Lib.hid (two_boxes w2 (stL (sR r pc v) (sP r pc v)) (stL_is _ _).size (.int .i64 (sK v)) (.int .i64 (sG v)) (.int .u32 (sA r v)) (.int .u32 (sV r v)))
  have X3 := Lib.hid (X2.kept S2.out.2.2.2.2)
  have B3 := Lib.hid (B2.trans (S2.out.2.2.2.2.mono B2.size))
  have T3 := Lib.hid S2.out.2.2.1
  have E3 := Lib.hid S2.out.2.2.2.1
  clear hb X2 B2 X1 B1
  unfold stepV
  go_wp2_with (first | (with_reducible (show wpList _ _ _ (⟨_, .store _ (.tmp 5) (.tmp 15), _, _, _, _⟩ :: _) _ _); refine wl_store (.tmp 5) (.tmp 15) _ _ (stL (sR r pc v) (sP r pc v)) rfl rfl rfl rfl S2.out.1 (stL_is _ _).size (stL_is _ _).size (stL_is _ _).one ?_) | (with_reducible (show wpList _ _ _ (⟨_, .store _ (.tmp 6) (.tmp 16), _, _, _, _⟩ :: _) _ _); refine wl_storeE (.tmp 6) (.tmp 16) _ _ _ _ _ _ _ _ _ rfl rfl rfl rfl S2.out.2.1 (one4 _ _ _ _) ?_) | (with_reducible (show wpList _ _ _ (⟨_, .load _ (.tmp 2), _, _, _, _⟩ :: _) _ _); clear S2; generalize (((w2.alloc (.cells #[.int .u32 0, .int .u32 0, .int .u32 0, .int .u32 0, .int .u32 0, .int .u32 0, .int .u32 0, .int .u32 0, .int .u32 0, .int .u32 0, .int .u32 0, .int .u32 0, .int .u32 0, .int .u32 0, .int .u32 0, .int .u32 0, .int .u32 0] 25) |>.alloc (.cells #[.int .i64 0, .int .i64 0, .int .u32 0, .int .u32 0] 28)).setCells w2.heap.size 0 (stL (sR r pc v) (sP r pc v))).setCells (w2.heap.size + 1) 0 [.int .i64 (sK v), .int .i64 (sG v), .int .u32 (sA r v), .int .u32 (sV r v)]) = w3 at *; refine wl_load (.tmp 2) _ _ rfl rfl rfl X3.out (stL_is _ _).size ?_))
  refine (of_any r pc w3).mono ?_
  rintro e w4 ⟨rfl, hb⟩
  have T4 := Lib.hid (T3.out.kept hb)
  have E4 := Lib.hid (E3.out.kept hb)
  have B4 := Lib.hid (B3.out.trans (hb.mono B3.out.size))
  clear hb X3 B3 T3 E3
  go_wp2_with fail
  refine (rstep_any r pc v w4 HR.out HV.out).mono ?_
  rintro e w5 ⟨rfl, hb⟩
  have T5 := T4.out.kept hb
  have E5 := E4.out.kept hb
  have B5 := B4.out.trans (hb.mono B4.out.size)
  have S5 := Lib.hid (two_boxesR w5 (stL (sR r pc v) (sP r pc v)) (stL_is _ _).size (.int .i64 (sK v)) (.int .i64 (sG v)) (.int .u32 (sA r v)) (.int .u32 (sV r v)))
  have T6 := Lib.hid (T5.kept S5.out.2.2.2.2)
  have E6 := Lib.hid (E5.kept S5.out.2.2.2.2)
  have B6 := Lib.hid (B5.trans (S5.out.2.2.2.2.mono B5.size))
  have U6 := Lib.hid S5.out.2.2.1
  have F6 := Lib.hid S5.out.2.2.2.1
  clear hb T4 E4 B4 T5 E5 B5
  unfold stepV
  go_wp2_with (first | (with_reducible (show wpList _ _ _ (⟨_, .store _ (.tmp 7) (.tmp 22), _, _, _, _⟩ :: _) _ _); refine wlr_store (.tmp 7) (.tmp 22) _ _ (stL (sR r pc v) (sP r pc v)) rfl rfl rfl rfl S5.out.1 (stL_is _ _).size (stL_is _ _).size (stL_is _ _).one ?_) | (with_reducible (show wpList _ _ _ (⟨_, .store _ (.tmp 8) (.tmp 23), _, _, _, _⟩ :: _) _ _); refine wlr_storeE (.tmp 8) (.tmp 23) _ _ _ _ _ _ _ _ _ rfl rfl rfl rfl S5.out.2.1 (one4 _ _ _ _) ?_))
  clear S5
  generalize (((w5.alloc (.cells #[.int .u32 0, .int .u32 0, .int .u32 0, .int .u32 0, .int .u32 0, .int .u32 0, .int .u32 0, .int .u32 0, .int .u32 0, .int .u32 0, .int .u32 0, .int .u32 0, .int .u32 0, .int .u32 0, .int .u32 0, .int .u32 0, .int .u32 0] 31) |>.alloc (.cells #[.int .i64 0, .int .i64 0, .int .u32 0, .int .u32 0] 32)).setCells w5.heap.size 0 (stL (sR r pc v) (sP r pc v))).setCells (w5.heap.size + 1) 0 [.int .i64 (sK v), .int .i64 (sG v), .int .u32 (sA r v), .int .u32 (sV r v)]) = w6 at *
  have k0 := cell_regrown (E6.out.at 0 rfl)
  have k1 := cell_regrown (E6.out.at 1 rfl)
  have k2 := cell_regrown (E6.out.at 2 rfl)
  have k3 := cell_regrown (E6.out.at 3 rfl)
  have m0 := cell_regrown (F6.out.at 0 rfl)
  have m1 := cell_regrown (F6.out.at 1 rfl)
  have m2 := cell_regrown (F6.out.at 2 rfl)
  have m3 := cell_regrown (F6.out.at 3 rfl)
  refine wp_region_quiet_below (by kernel_rfl) (by kernel_rfl) ?_
  repeat (first
    | (refine quiet_load (.tmp 5) _ _ Tryd.underlying25 rfl (stL_inf _ _) (by kernel_rfl) rfl rfl T6.out ?_; simp only [Act.put, List.setIfInBounds_toArray, List.set_cons_zero, List.set_cons_succ])
    | (refine quiet_load (.tmp 7) _ _ Tryd.underlying31 rfl (stL_infR _ _) (by kernel_rfl) rfl rfl U6.out ?_; simp only [Act.put, List.setIfInBounds_toArray, List.set_cons_zero, List.set_cons_succ])
    | (quiet_step (first
      | (go_at_call 13; exact Calls.regrown_of (ofE_any _ _ _ _ _))
      | (go_at_call 12; exact Calls.regrown_of (of_any _ _ _)))))
  refine wpQuiet_nil ?_
  intro _ hw'
  obtain ⟨⟨dq, osq⟩, hw''⟩ := hw'
  subst hw''
  clear k0 k1 k2 k3 m0 m1 m2 m3
  have hb := Lib.hid (below_regrown w6 dq osq)
  go_wp2
  go_ret
  exact ⟨rfl, B6.out.trans (hb.out.mono B6.out.size)⟩

set_option maxRecDepth 100000 in
theorem lifted (os : Os) (started : os.Started) (H : Type) (enc : TypeId × Value → H) :
    ReturnsInHanded {} Tryd.checked os 3 .any (fun w args => (Rows.aluStepsSpec.pre enc Tryd.prog Tryd.f3 [] false w args ∧ laidMetH Tryd.prog laidL w) ∧ sizedMet enc Tryd.prog Tryd.f3 (OpenSpec.ofChange Rows.aluStepsSpec) false w args)
      (Rows.aluStepsSpec.post enc Tryd.prog Tryd.f3 false true false false) := by
  refine returnsInHanded_of_change_and (C := Tryd.checked) (X := fun w _ => laidMetH Tryd.prog laidL w) (fun _ _ _ hh h => h.of_heap hh) own started (by kernel_rfl) Tryd.func3
    (ChangeSpec.witness_shaped (enc := enc) (C := Tryd.checked) (os := os) (X := fun w _ => laidMetH Tryd.prog laidL w) false (World.doorLaid Tryd.prog 4000 os) #[.agg #[.int .u32 0, .int .u32 0, .int .u32 0, .int .u32 0, .int .u32 0, .int .u32 0, .int .u32 0, .int .u32 0, .int .u32 0, .int .u32 0, .int .u32 0, .int .u32 0, .int .u32 0, .int .u32 0, .int .u32 0, .int .u32 0, .int .u32 0], .int .u32 0] 8 rfl (World.shaped_of_RefB (by kernel_rfl) (by kernel_rfl)) (by kernel_rfl) (by kernel_rfl) (by kernel_rfl) (door_met os _)) ?_
  intro W base args ds gs before hval0 hW _ _ hL _
  have hval : ∀ (j : Nat) t v, Tryd.f3.params[j]? = some t → args[j]? = some v → Value.okWide Tryd.prog W .any base t v := hval0
  have hW' := hW
  obtain ⟨p, q, hA0, hV, rfl, hfz, hnd⟩ := hW
  have hA : DataW.TrodAll enc Tryd.prog W 0 (fun _ => true) true Tryd.f3.params.toList args.toList ds p := hA0
  rw [Tryd.params3] at hA hval
  obtain ⟨v0, vs0, d0, ds0, p0, q0, hargs, rfl, rfl, h0, r0⟩ := trodAll_cons hA
  obtain ⟨v1, vs1, d1, ds1, p1, q1, rfl, rfl, rfl, h1, r1⟩ := trodAll_cons r0
  obtain ⟨rfl, rfl, rfl⟩ := trodAll_nil r1
  obtain rfl : args = #[v0, v1] := by cases args; simp_all
  obtain ⟨rfl, rfl⟩ := trodVars_none hV
  obtain ⟨rg0, pc0, rfl, rfl, hR0, hP0, sh0⟩ := st_open (hval 0 25 v0 rfl rfl) h0
  obtain ⟨x1, rfl, rfl, rfl, w1⟩ := open_int Tryd.underlying22 (hval 1 22 v1 rfl rfl) h1
  have hE := env_of hL
  clear hA0 hval0
  simp only [List.append_nil] at hW'
  refine (walk rg0 pc0 x1 W hE hR0 ⟨(bounds_u32 w1).1, by have := (bounds_u32 w1).2; omega⟩).mono fun e W' ⟨he, bel⟩ => ?_
  subst he
  exact ⟨_, rfl, _, _, _, [], [], [], hW', trodAll_mk1 (shut_bool Tryd.underlying4 _), (trodAll_cons_mk (sh0 _ _) (trodAll_cons_mk (shut_int Tryd.underlying22 w1) trodAll_mk0)), rfl, bel.frame _, fun h => by cases h⟩

theorem over : Rows.AluStepsSaid :=
  OpenClaim.holds_of_wide 3 Tryd.f3 rfl rfl rfl rfl rfl rfl rfl ⟨rfl, rfl, rfl, rfl, rfl⟩ rfl rfl rfl rfl rfl (by kernel_rfl) Tryd.func3 (by kernel_rfl)
    (of_decide_eq_true (by kernel_rfl)) (by unfold Func.isWrapper; first | (rw [if_pos (by decide +kernel)]; kernel_rfl) | (rw [if_neg (by decide +kernel)]; exact ⟨rfl, rfl⟩))
    (fun os started H enc _ => lifted os started H enc)
end Go.Proofs.YtlfhcnpbgbnadaaDoor.aluSteps
namespace Go.Proofs.YtlfhcnpbgbnadaaDoor
open Go
/-- The statement. -/
theorem aluSteps_holds : Rows.AluStepsCardSaid :=
  Claim7.holds_tied_plain_at .later [] [.data, .data, .data, .sentinel, .sentinel, .data] true _ true
    aluSteps.over (fun _ h => by cases h) (by kernel_rfl) (fun _ h => by cases h) aluSteps_row_tie rfl ⟨rfl, rfl⟩ (by kernel_rfl) rfl
    (fun f fn hf hfn => by
      obtain rfl : f = 3 := Option.some.inj ((show Tryd.prog.funcNamed "warder/warderlaw03.AluSteps" = some 3 by kernel_rfl).symm.trans hf) |>.symm
      obtain rfl : fn = Tryd.f3 := (Option.some.inj (Tryd.func3.symm.trans hfn)).symm
      exact ⟨by kernel_rfl, fun j t ht => by
        rw [Tryd.params3] at ht
        have hm : t ∈ [25, 22] := by simpa using Array.mem_of_getElem? ht
        have hall : ([25, 22].all fun u => !Tryd.prog.wantsStandIn u) = true := by kernel_rfl
        exact (show Tryd.prog.wantsStandIn t = false by simpa using List.all_eq_true.1 hall t hm)⟩)
    (by kernel_rfl)
#print axioms aluSteps_holds
end Go.Proofs.YtlfhcnpbgbnadaaDoor
