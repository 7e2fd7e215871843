/-
  AluDones: for every state, effect and word, Done answers what the document's own Done answers. The condition is the card's: the package-level tables lie as the program's text lays them.
-/
import Derived.Test.YtlfhcnpbgbnadaaDoorAluAlive
import Derived.Test.YtlfhcnpbgbnadaaDoorAluRDone
import Derived.Test.YtlfhcnpbgbnadaaDoorAluOf
import Derived.Test.YtlfhcnpbgbnadaaDoorAluOpen
import Derived.Test.YtlfhcnpbgbnadaaDoorTie
import Derived.ChangeOld
import Derived.ChangeMaps5
namespace Go.Proofs.YtlfhcnpbgbnadaaDoor.aluDones
open Go.ChangeShapes Go.WideShapes Go.ChangeAt Go.RowKit Go.Joins Isa Alu

set_option maxRecDepth 100000 in
theorem eff_open {H : Type} {enc : TypeId × Value → H} {w : World} {base b0 : Nat} {sp : Nat → Bool} {held : Bool} {r : Reach} {v : Value} {d : DataW H} {p : List MemPlace}
    (hval : Value.okWide Tryd.prog w r b0 28 v) (h : DataW.Trod enc Tryd.prog w base sp held 28 v d p) :
    ∃ k g x y : Int, v = .agg #[.int .i64 k, .int .i64 g, .int .u32 x, .int .u32 y] ∧ p = [] ∧ ∀ (W' : World) (sp' : Nat → Bool), DataW.Trod enc Tryd.prog W' 0 sp' true 28 v d [] := by
  obtain ⟨c0, c1, c2, c3, y0, y1, y2, y3, m, rfl, rfl, rfl, hy0, hy1, hy2, hy3⟩ := open_agg4 Tryd.underlying28 (by kernel_rfl) (by kernel_rfl) hval h
  obtain ⟨a, e0, rfl, wa⟩ := DataW.trod_int Tryd.underlying3 hy0
  obtain ⟨b, e1, rfl, wb⟩ := DataW.trod_int Tryd.underlying3 hy1
  obtain ⟨c, e2, rfl, wc⟩ := DataW.trod_int Tryd.underlying22 hy2
  obtain ⟨d, e3, rfl, wd⟩ := DataW.trod_int Tryd.underlying22 hy3
  simp at e0 e1 e2 e3
  subst e0 e1 e2 e3
  refine ⟨a, b, c, d, rfl, rfl, fun W' sp' => ?_⟩
  exact shut_agg4 (y0 := (.lit (.int .i64 a), [])) (y1 := (.lit (.int .i64 b), [])) (y2 := (.lit (.int .u32 c), [])) (y3 := (.lit (.int .u32 d), [])) Tryd.underlying28 (by kernel_rfl) (by kernel_rfl) ⟨1, by simp [DataW.trod, Tryd.underlying3, wa]⟩ ⟨1, by simp [DataW.trod, Tryd.underlying3, wb]⟩ ⟨1, by simp [DataW.trod, Tryd.underlying22, wc]⟩ ⟨1, by simp [DataW.trod, Tryd.underlying22, wd]⟩
theorem walk_out (r : Nat → Int) (pc k g x y v : Int) (w : World) (hE : Env w) (h : g < 0 ∨ 15 < g) :
    Calls Tryd.prog 4 #[.agg (stL r pc).toArray, .agg #[.int .i64 k, .int .i64 g, .int .u32 x, .int .u32 y], .int .u32 v] w fun e w' => e = .returned (.bool true) ∧ Below w.heap.size w w' := by
  have HE := Lib.hid hE
  clear hE
  have B0 := Lib.hid ((((Below.refl _ _).alloc (Nat.le_refl _) _).alloc (by simp) _) : Below w.heap.size w ((w.alloc (.cells (stL r pc).toArray 25)).alloc (.cells #[.int .i64 k, .int .i64 g, .int .u32 x, .int .u32 y] 28)))
  have E0 := Box.new (w.alloc (.cells (stL r pc).toArray 25)) [.int .i64 k, .int .i64 g, .int .u32 x, .int .u32 y] 28
  rw [World.size_alloc] at E0
  have EH := Lib.hid E0
  clear E0
  by_cases h1 : g < 0
  · have d : decide (g < 0) = true := by simpa using h1
    go_enter Tryd.func4, Tryd.ntmps4
    go_wp2_with fail
    refine (alive_any _ ((HE.out.box _).box _)).mono ?_
    rintro e w1 ⟨rfl, hb⟩
    have e1 := (EH.out.kept hb).at 1 rfl
    go_wp2
    go_ret
    exact ⟨rfl, B0.out.trans (hb.mono B0.out.size)⟩
  · have d : decide (g < 0) = false := by simpa using h1
    have h2 : 15 < g := by omega
    have d2 : decide (15 < g) = true := by simpa using h2
    clear h
    go_enter Tryd.func4, Tryd.ntmps4
    go_wp2_with fail
    refine (alive_any _ ((HE.out.box _).box _)).mono ?_
    rintro e w1 ⟨rfl, hb⟩
    have e1 := (EH.out.kept hb).at 1 rfl
    go_wp2
    go_ret
    exact ⟨rfl, B0.out.trans (hb.mono B0.out.size)⟩
set_option maxHeartbeats 4000000 in
theorem walk_in (r : Nat → Int) (pc k g x y v : Int) (w : World) (hE : Env w) (hv : W32 v) (h0 : 0 ≤ g) (h1 : g ≤ 15) :
    Calls Tryd.prog 4 #[.agg (stL r pc).toArray, .agg #[.int .i64 k, .int .i64 g, .int .u32 x, .int .u32 y], .int .u32 v] w fun e w' => e = .returned (.bool true) ∧ Below w.heap.size w w' := by
  have HE := Lib.hid hE
  have HV := Lib.hid hv
  clear hE hv
  have d : decide (g < 0) = false := by simp; omega
  have d2 : decide (15 < g) = false := by simp; omega
  have hq := eqRef (dR r k g v) pc
  have B0 := Lib.hid ((((Below.refl _ _).alloc (Nat.le_refl _) _).alloc (by simp) _) : Below w.heap.size w ((w.alloc (.cells (stL r pc).toArray 25)).alloc (.cells #[.int .i64 k, .int .i64 g, .int .u32 x, .int .u32 y] 28)))
  have X0 := Lib.hid ((Box.new w (stL r pc) 25).box (.cells #[.int .i64 k, .int .i64 g, .int .u32 x, .int .u32 y] 28))
  have E0 := Box.new (w.alloc (.cells (stL r pc).toArray 25)) [.int .i64 k, .int .i64 g, .int .u32 x, .int .u32 y] 28
  rw [World.size_alloc] at E0
  have EH := Lib.hid E0
  clear E0 h0 h1
  go_enter Tryd.func4, Tryd.ntmps4
  go_wp2_with fail
  refine (alive_any _ ((HE.out.box _).box _)).mono ?_
  rintro e w1 ⟨rfl, hb⟩
  have X1 := Lib.hid (X0.out.kept hb)
  have E1 := Lib.hid (EH.out.kept hb)
  have B1 := Lib.hid (B0.out.trans (hb.mono B0.out.size))
  have e1 := E1.out.at 1 rfl
  clear hb
  go_wp2_with fail
  have k0 := cell_regrown (E1.out.at 0 rfl)
  have k1 := cell_regrown (E1.out.at 1 rfl)
  have k2 := cell_regrown (E1.out.at 2 rfl)
  have k3 := cell_regrown (E1.out.at 3 rfl)
  clear e1
  refine wp_region_quiet_below (by kernel_rfl) (by kernel_rfl) ?_
  repeat (first
    | (refine quiet_load (.tmp 3) _ _ Tryd.underlying25 rfl (stL_inf _ _) (by kernel_rfl) rfl rfl X1.out ?_; simp only [Act.put, List.setIfInBounds_toArray, List.set_cons_zero, List.set_cons_succ])
    | (quiet_step (first
      | (go_at_call 14; exact Calls.regrown_of (done_any _ _ _ _ _ _ _ _ _ (stL_is _ _)))
      | (go_at_call 15; exact Calls.regrown_of (rdone_any _ _ _ _ _ _ _ (stL_is _ _) HV.out))
      | (go_at_call 12; exact Calls.regrown_of (of_any _ _ _)))))
  refine wpQuiet_nil ?_
  intro _ hw'
  obtain ⟨⟨dq, osq⟩, hw''⟩ := hw'
  subst hw''
  clear k0 k1 k2 k3
  have hb := Lib.hid (below_regrown w1 dq osq)
  go_wp2
  go_ret
  exact ⟨rfl, B1.out.trans (hb.out.mono B1.out.size)⟩
theorem walk (r : Nat → Int) (pc k g x y v : Int) (w : World) (hE : Env w) (hv : W32 v) :
    Calls Tryd.prog 4 #[.agg (stL r pc).toArray, .agg #[.int .i64 k, .int .i64 g, .int .u32 x, .int .u32 y], .int .u32 v] w fun e w' => e = .returned (.bool true) ∧ Below w.heap.size w w' := by
  by_cases h : g < 0 ∨ 15 < g
  · exact walk_out r pc k g x y v w hE h
  · exact walk_in r pc k g x y v w hE hv (by omega) (by omega)

set_option maxRecDepth 100000 in
theorem lifted (os : Os) (started : os.Started) (H : Type) (enc : TypeId × Value → H) :
    ReturnsInHanded {} Tryd.checked os 4 .any (fun w args => (Rows.aluDonesSpec.pre enc Tryd.prog Tryd.f4 [] false w args ∧ laidMetH Tryd.prog laidL w) ∧ sizedMet enc Tryd.prog Tryd.f4 (OpenSpec.ofChange Rows.aluDonesSpec) false w args)
      (Rows.aluDonesSpec.post enc Tryd.prog Tryd.f4 false true false false) := by
  refine returnsInHanded_of_change_and (C := Tryd.checked) (X := fun w _ => laidMetH Tryd.prog laidL w) (fun _ _ _ hh h => h.of_heap hh) own started (by kernel_rfl) Tryd.func4
    (ChangeSpec.witness_shaped (enc := enc) (C := Tryd.checked) (os := os) (X := fun w _ => laidMetH Tryd.prog laidL w) false (World.doorLaid Tryd.prog 4000 os) #[.agg #[.int .u32 0, .int .u32 0, .int .u32 0, .int .u32 0, .int .u32 0, .int .u32 0, .int .u32 0, .int .u32 0, .int .u32 0, .int .u32 0, .int .u32 0, .int .u32 0, .int .u32 0, .int .u32 0, .int .u32 0, .int .u32 0, .int .u32 0], .agg #[.int .i64 0, .int .i64 0, .int .u32 0, .int .u32 0], .int .u32 0] 8 rfl (World.shaped_of_RefB (by kernel_rfl) (by kernel_rfl)) (by kernel_rfl) (by kernel_rfl) (by kernel_rfl) (door_met os _)) ?_
  intro W base args ds gs before hval0 hW _ _ hL _
  have hval : ∀ (j : Nat) t v, Tryd.f4.params[j]? = some t → args[j]? = some v → Value.okWide Tryd.prog W .any base t v := hval0
  have hW' := hW
  obtain ⟨p, q, hA0, hV, rfl, hfz, hnd⟩ := hW
  have hA : DataW.TrodAll enc Tryd.prog W 0 (fun _ => true) true Tryd.f4.params.toList args.toList ds p := hA0
  rw [Tryd.params4] at hA hval
  obtain ⟨v0, vs0, d0, ds0, p0, q0, hargs, rfl, rfl, h0, r0⟩ := trodAll_cons hA
  obtain ⟨v1, vs1, d1, ds1, p1, q1, rfl, rfl, rfl, h1, r1⟩ := trodAll_cons r0
  obtain ⟨v2, vs2, d2, ds2, p2, q2, rfl, rfl, rfl, h2, r2⟩ := trodAll_cons r1
  obtain ⟨rfl, rfl, rfl⟩ := trodAll_nil r2
  obtain rfl : args = #[v0, v1, v2] := by cases args; simp_all
  obtain ⟨rfl, rfl⟩ := trodVars_none hV
  obtain ⟨rg0, pc0, rfl, rfl, hR0, hP0, sh0⟩ := st_open (hval 0 25 v0 rfl rfl) h0
  obtain ⟨k1, g1, a1, b1, rfl, rfl, sh1⟩ := eff_open (hval 1 28 v1 rfl rfl) h1
  obtain ⟨x2, rfl, rfl, rfl, w2⟩ := open_int Tryd.underlying22 (hval 2 22 v2 rfl rfl) h2
  have hE := env_of hL
  clear hA0 hval0
  simp only [List.append_nil] at hW'
  refine (walk rg0 pc0 k1 g1 a1 b1 x2 W hE ⟨(bounds_u32 w2).1, by have := (bounds_u32 w2).2; omega⟩).mono fun e W' ⟨he, bel⟩ => ?_
  subst he
  exact ⟨_, rfl, _, _, _, [], [], [], hW', trodAll_mk1 (shut_bool Tryd.underlying4 _), (trodAll_cons_mk (sh0 _ _) (trodAll_cons_mk (sh1 _ _) (trodAll_cons_mk (shut_int Tryd.underlying22 w2) trodAll_mk0))), rfl, bel.frame _, fun h => by cases h⟩

theorem over : Rows.AluDonesSaid :=
  OpenClaim.holds_of_wide 4 Tryd.f4 rfl rfl rfl rfl rfl rfl rfl ⟨rfl, rfl, rfl, rfl, rfl⟩ rfl rfl rfl rfl rfl (by kernel_rfl) Tryd.func4 (by kernel_rfl)
    (of_decide_eq_true (by kernel_rfl)) (by unfold Func.isWrapper; first | (rw [if_pos (by decide +kernel)]; kernel_rfl) | (rw [if_neg (by decide +kernel)]; exact ⟨rfl, rfl⟩))
    (fun os started H enc _ => lifted os started H enc)
end Go.Proofs.YtlfhcnpbgbnadaaDoor.aluDones
namespace Go.Proofs.YtlfhcnpbgbnadaaDoor
open Go
/-- The statement. -/
theorem aluDones_holds : Rows.AluDonesCardSaid :=
  Claim7.holds_tied_plain_at .later [] [.data, .data, .data, .sentinel, .sentinel, .data] true _ true
    aluDones.over (fun _ h => by cases h) (by kernel_rfl) (fun _ h => by cases h) aluDones_row_tie rfl ⟨rfl, rfl⟩ (by kernel_rfl) rfl
    (fun f fn hf hfn => by
      obtain rfl : f = 4 := Option.some.inj ((show Tryd.prog.funcNamed "warder/warderlaw03.AluDones" = some 4 by kernel_rfl).symm.trans hf) |>.symm
      obtain rfl : fn = Tryd.f4 := (Option.some.inj (Tryd.func4.symm.trans hfn)).symm
      exact ⟨by kernel_rfl, fun j t ht => by
        rw [Tryd.params4] at ht
        have hm : t ∈ [25, 28, 22] := by simpa using Array.mem_of_getElem? ht
        have hall : ([25, 28, 22].all fun u => !Tryd.prog.wantsStandIn u) = true := by kernel_rfl
        exact (show Tryd.prog.wantsStandIn t = false by simpa using List.all_eq_true.1 hall t hm)⟩)
    (by kernel_rfl)
#print axioms aluDones_holds
end Go.Proofs.YtlfhcnpbgbnadaaDoor
