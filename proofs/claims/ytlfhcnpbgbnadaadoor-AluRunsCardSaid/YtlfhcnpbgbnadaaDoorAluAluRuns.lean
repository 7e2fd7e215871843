/-
  AluRuns: for every state, code of at most 1,000 bytes and count of at most 400, Run answers what the document's own Run answers; of others the statement asks nothing. The condition is the card's: the package-level tables lie as the program's text lays them.
-/
import Derived.Test.YtlfhcnpbgbnadaaDoorAluAlive
import Derived.Test.YtlfhcnpbgbnadaaDoorAluRRun
import Derived.Test.YtlfhcnpbgbnadaaDoorAluOf
import Derived.Test.YtlfhcnpbgbnadaaDoorAluOpen
import Derived.Test.YtlfhcnpbgbnadaaDoorTie
import Derived.ChangeOld
import Derived.ChangeMaps5
import Derived.ShutString
namespace Go.Proofs.YtlfhcnpbgbnadaaDoor
open Go.RowKit Isa Alu
/-- A state and an effect of the document's own, laid into two new blocks. -/
theorem two_boxesR (w : World) (l : List Value) (hl : l.length = 17) (v0 v1 v2 v3 : Value) :
    Box (w.alloc (.cells #[.int .u32 0, .int .u32 0, .int .u32 0, .int .u32 0, .int .u32 0, .int .u32 0, .int .u32 0, .int .u32 0, .int .u32 0, .int .u32 0, .int .u32 0, .int .u32 0, .int .u32 0, .int .u32 0, .int .u32 0, .int .u32 0, .int .u32 0] 31) |>.alloc (.cells #[.int .i64 0, .int .i64 0, .int .u32 0, .int .u32 0] 32)) w.heap.size (stL (fun _ => 0) 0) ∧
    Box ((w.alloc (.cells #[.int .u32 0, .int .u32 0, .int .u32 0, .int .u32 0, .int .u32 0, .int .u32 0, .int .u32 0, .int .u32 0, .int .u32 0, .int .u32 0, .int .u32 0, .int .u32 0, .int .u32 0, .int .u32 0, .int .u32 0, .int .u32 0, .int .u32 0] 31) |>.alloc (.cells #[.int .i64 0, .int .i64 0, .int .u32 0, .int .u32 0] 32)).setCells w.heap.size 0 l) (w.heap.size + 1) [.int .i64 0, .int .i64 0, .int .u32 0, .int .u32 0] ∧
    Box (((w.alloc (.cells #[.int .u32 0, .int .u32 0, .int .u32 0, .int .u32 0, .int .u32 0, .int .u32 0, .int .u32 0, .int .u32 0, .int .u32 0, .int .u32 0, .int .u32 0, .int .u32 0, .int .u32 0, .int .u32 0, .int .u32 0, .int .u32 0, .int .u32 0] 31) |>.alloc (.cells #[.int .i64 0, .int .i64 0, .int .u32 0, .int .u32 0] 32)).setCells w.heap.size 0 l).setCells (w.heap.size + 1) 0 [v0, v1, v2, v3]) w.heap.size l ∧ Box (((w.alloc (.cells #[.int .u32 0, .int .u32 0, .int .u32 0, .int .u32 0, .int .u32 0, .int .u32 0, .int .u32 0, .int .u32 0, .int .u32 0, .int .u32 0, .int .u32 0, .int .u32 0, .int .u32 0, .int .u32 0, .int .u32 0, .int .u32 0, .int .u32 0] 31) |>.alloc (.cells #[.int .i64 0, .int .i64 0, .int .u32 0, .int .u32 0] 32)).setCells w.heap.size 0 l).setCells (w.heap.size + 1) 0 [v0, v1, v2, v3]) (w.heap.size + 1) [v0, v1, v2, v3] ∧ Below w.heap.size w (((w.alloc (.cells #[.int .u32 0, .int .u32 0, .int .u32 0, .int .u32 0, .int .u32 0, .int .u32 0, .int .u32 0, .int .u32 0, .int .u32 0, .int .u32 0, .int .u32 0, .int .u32 0, .int .u32 0, .int .u32 0, .int .u32 0, .int .u32 0, .int .u32 0] 31) |>.alloc (.cells #[.int .i64 0, .int .i64 0, .int .u32 0, .int .u32 0] 32)).setCells w.heap.size 0 l).setCells (w.heap.size + 1) 0 [v0, v1, v2, v3]) := by
  have T := (zeroBoxR w).box (.cells #[.int .i64 0, .int .i64 0, .int .u32 0, .int .u32 0] 32)
  have U := Box.new (w.alloc (.cells #[.int .u32 0, .int .u32 0, .int .u32 0, .int .u32 0, .int .u32 0, .int .u32 0, .int .u32 0, .int .u32 0, .int .u32 0, .int .u32 0, .int .u32 0, .int .u32 0, .int .u32 0, .int .u32 0, .int .u32 0, .int .u32 0, .int .u32 0] 31)) [.int .i64 0, .int .i64 0, .int .u32 0, .int .u32 0] 32
  rw [World.size_alloc] at U
  have T1 := T.stored (l' := l) (hl.trans (stL_is _ _).size.symm)
  have U1 := U.apart (b' := w.heap.size) (by omega) l
  exact ⟨T, U1, T1.apart (by omega) _, U1.stored (l' := [v0, v1, v2, v3]) rfl, below_setCells _ _ _ (below_setCells _ _ _ (((Below.refl _ _).alloc (Nat.le_refl _) _).alloc (by simp) _) (Nat.le_refl _)) (by omega)⟩
end Go.Proofs.YtlfhcnpbgbnadaaDoor
namespace Go.Proofs.YtlfhcnpbgbnadaaDoor.aluRuns
open Go.ChangeShapes Go.WideShapes Go.ChangeAt Go.RowKit Go.Joins Isa Alu

theorem laidOut : laidOutB Tryd.prog = true := by kernel_rfl
theorem add_eq (b off j : Nat) : (⟨b, off, none⟩ : Addr).add j = ⟨b, off + j, none⟩ := by unfold Addr.add; split <;> simp_all
set_option maxRecDepth 100000 in
theorem bytes_open {H : Type} {enc : TypeId × Value → H} {W : World} {base : Nat} {v : Value} {d : DataW H} {p : List MemPlace}
    (hval : Value.okWide Tryd.prog W .any base 41 v) (h : DataW.Trod enc Tryd.prog W 0 (fun _ => true) true 41 v d p) :
    ∃ a len cap, v = .slice a len cap ∧ len ≤ maxLen ∧ (∀ x ∈ p, x.block < W.heap.size) ∧ ∃ z, CodeIn W a len z := by
  obtain ⟨a, len, cap, rfl⟩ := okWide_slice Tryd.underlying41 hval
  have lt0 : ∀ x ∈ p, x.block < W.heap.size := by obtain ⟨m, hm⟩ := h; exact DataW.trod_lt m _ _ _ hm
  obtain ⟨fuel, hf⟩ := h
  rcases open_ints Tryd.underlying41 Tryd.underlying5 (by kernel_rfl) hf with ⟨hcs, _⟩ | ⟨x, l, c, zs, hcs, _, hl, hm, hz, _, hcell, hwz⟩
  · simp [Value.cells] at hcs
    obtain ⟨rfl, rfl, rfl⟩ := hcs
    exact ⟨_, _, _, rfl, by unfold maxLen; omega, lt0, fun _ => 0, fun j hj => by omega, fun h => by omega⟩
  · simp [Value.cells] at hcs
    obtain ⟨rfl, rfl, rfl⟩ := hcs
    have hzl : zs.length = cap := by simpa using hz
    refine ⟨_, _, _, rfl, by omega, lt0, fun j => zs.getD j 0, fun j hj => ?_, fun hn => ?_⟩
    · have hm : zs.getD j 0 ∈ zs := by
        rw [List.getD_eq_getElem?_getD, List.getElem?_eq_getElem (by omega)]
        exact List.getElem_mem _
      have := bounds_u8 (hwz _ hm)
      exact ⟨this.1, Int.lt_of_le_of_lt this.2 (by decide)⟩
    · obtain ⟨b, off, spot⟩ := x
      have hs : spot = none := by simpa [Addr.add] using World.cell?_spot (hcell 0 (by omega))
      subst hs
      refine ⟨b, off, rfl, fun j hj => ?_⟩
      rw [← add_eq]
      exact hcell j (by omega)
theorem runV_form (g : Int → Option Int) : ∀ (m : Nat) (r : Nat → Int) (pc : Int) (n : Nat), ∃ (R : Nat → Int) (P e0 e1 e2 e3 : Int) (k : Nat), runV g m r pc n = .tuple #[.agg (stL R P).toArray, .agg #[.int .i64 e0, .int .i64 e1, .int .u32 e2, .int .u32 e3], .int .i64 k]
  | 0, r, pc, n => ⟨r, pc, 0, 0, 0, 0, n, rfl⟩
  | m + 1, r, pc, n => by
    unfold runV
    cases h : g pc with
    | none => exact ⟨r, pc, 12, 0, 0, 0, n, rfl⟩
    | some v =>
      by_cases hk : sK v = 0
      · simp only [if_pos hk]
        exact runV_form g m _ _ _
      · simp only [if_neg hk]
        exact ⟨_, _, _, _, _, _, _, rfl⟩
theorem walk_out (r : Nat → Int) (pc most : Int) (p : Option Addr) (len cap : Nat) (w : World) (hE : Env w) (hl : len ≤ 9223372036854775807) (h : 1000 < len ∨ 400 < most) :
    Calls Tryd.prog 5 #[.agg (stL r pc).toArray, .slice p len cap, .int .i64 most] w fun e w' => e = .returned (.bool true) ∧ Below w.heap.size w w' := by
  have HE := Lib.hid hE
  clear hE
  have B0 := Lib.hid (((Below.refl _ _).alloc (Nat.le_refl _) _) : Below w.heap.size w (w.alloc (.cells (stL r pc).toArray 25)))
  by_cases h1 : 1000 < len
  · have d : decide (1000 < (len : Int)) = true := by simp; omega
    clear h
    go_enter Tryd.func5, Tryd.ntmps5
    go_wp2_with fail
    refine (alive_any _ (HE.out.box _)).mono ?_
    rintro e w1 ⟨rfl, hb⟩
    go_wp2
    go_ret
    exact ⟨rfl, B0.out.trans (hb.mono B0.out.size)⟩
  · have d : decide (1000 < (len : Int)) = false := by simp; omega
    have h2 : 400 < most := by omega
    have d2 : decide (400 < most) = true := by simpa using h2
    clear h
    go_enter Tryd.func5, Tryd.ntmps5
    go_wp2_with fail
    refine (alive_any _ (HE.out.box _)).mono ?_
    rintro e w1 ⟨rfl, hb⟩
    go_wp2
    go_ret
    exact ⟨rfl, B0.out.trans (hb.mono B0.out.size)⟩
set_option maxHeartbeats 4000000 in
theorem walk_in (r : Nat → Int) (pc most : Int) (p : Option Addr) (len cap : Nat) (z : Nat → Int) (w : World) (hE : Env w) (hR : R32 r) (hP : W32 pc) (hc : CodeIn w p len z) (hl : len ≤ 1000) (hm : most ≤ 400) :
    Calls Tryd.prog 5 #[.agg (stL r pc).toArray, .slice p len cap, .int .i64 most] w fun e w' => e = .returned (.bool true) ∧ Below w.heap.size w w' := by
  obtain ⟨R, P, e0, e1, e2, e3, k, hV⟩ := runV_form (gW z len) most.toNat r pc 0
  have HE := Lib.hid hE
  have HR := Lib.hid hR
  have HP := Lib.hid hP
  have HC := Lib.hid hc
  have HV := Lib.hid hV
  clear hE hR hP hc hV
  have d : decide (1000 < (len : Int)) = false := by simp; omega
  have d2 : decide (400 < most) = false := by simp; omega
  have hq := eqRef R P
  have B0 := Lib.hid (((Below.refl _ _).alloc (Nat.le_refl _) _) : Below w.heap.size w (w.alloc (.cells (stL r pc).toArray 25)))
  go_enter Tryd.func5, Tryd.ntmps5
  go_wp2_with fail
  refine (alive_any _ (HE.out.box _)).mono ?_
  rintro e w1 ⟨rfl, hb⟩
  have X1 := Lib.hid ((Box.new w (stL r pc) 25).kept hb)
  have B1 := Lib.hid (B0.out.trans (hb.mono B0.out.size))
  clear hb B0
  go_wp2_with (first | (with_reducible (show wpList _ _ _ (⟨_, .load _ (.tmp 3), _, _, _, _⟩ :: _) _ _); refine wl_load (.tmp 3) _ _ rfl rfl rfl X1.out (stL_is _ _).size ?_))
  refine (run_any _ r pc p len cap z most _ (HE.out.kept B1.out).1 (stL_is _ _) HR.out HP.out (HC.out.kept B1.out) (by omega) (by omega)).mono ?_
  rw [HV.out]
  rintro e w2 ⟨rfl, hb⟩
  have X2 := X1.out.kept hb
  have B2 := B1.out.trans (hb.mono B1.out.size)
  have S2 := Lib.hid (two_boxes w2 (stL R P) (stL_is _ _).size (.int .i64 e0) (.int .i64 e1) (.int .u32 e2) (.int .u32 e3))
  have X3 := Lib.hid (X2.kept S2.out.2.2.2.2)
  have B3 := Lib.hid (B2.trans (S2.out.2.2.2.2.mono B2.size))
  have T3 := Lib.hid S2.out.2.2.1
  have E3 := Lib.hid S2.out.2.2.2.1
  clear hb X2 B2 X1 B1
  go_wp2_with (first | (with_reducible (show wpList _ _ _ (⟨_, .store _ (.tmp 7) (.tmp 27), _, _, _, _⟩ :: _) _ _); refine wl_store (.tmp 7) (.tmp 27) _ _ (stL R P) rfl rfl rfl rfl S2.out.1 (stL_is _ _).size (stL_is _ _).size (stL_is _ _).one ?_) | (with_reducible (show wpList _ _ _ (⟨_, .store _ (.tmp 8) (.tmp 28), _, _, _, _⟩ :: _) _ _); refine wl_storeE (.tmp 8) (.tmp 28) _ _ _ _ _ _ _ _ _ rfl rfl rfl rfl S2.out.2.1 (one4 _ _ _ _) ?_) | (with_reducible (show wpList _ _ _ (⟨_, .load _ (.tmp 3), _, _, _, _⟩ :: _) _ _); clear S2; generalize (((w2.alloc (.cells #[.int .u32 0, .int .u32 0, .int .u32 0, .int .u32 0, .int .u32 0, .int .u32 0, .int .u32 0, .int .u32 0, .int .u32 0, .int .u32 0, .int .u32 0, .int .u32 0, .int .u32 0, .int .u32 0, .int .u32 0, .int .u32 0, .int .u32 0] 25) |>.alloc (.cells #[.int .i64 0, .int .i64 0, .int .u32 0, .int .u32 0] 28)).setCells w2.heap.size 0 (stL R P)).setCells (w2.heap.size + 1) 0 [.int .i64 e0, .int .i64 e1, .int .u32 e2, .int .u32 e3]) = w3 at *; refine wl_load (.tmp 3) _ _ rfl rfl rfl X3.out (stL_is _ _).size ?_))
  refine (of_any r pc w3).mono ?_
  rintro e w4 ⟨rfl, hb⟩
  have T4 := Lib.hid (T3.out.kept hb)
  have E4 := Lib.hid (E3.out.kept hb)
  have B4 := Lib.hid (B3.out.trans (hb.mono B3.out.size))
  clear hb X3 B3 T3 E3
  go_wp2_with fail
  refine (rrun_any r pc p len cap z most w4 HR.out HP.out (HC.out.kept B4.out) (by omega) (by omega)).mono ?_
  rw [HV.out]
  rintro e w5 ⟨rfl, hb⟩
  have T5 := T4.out.kept hb
  have E5 := E4.out.kept hb
  have B5 := B4.out.trans (hb.mono B4.out.size)
  have S5 := Lib.hid (two_boxesR w5 (stL R P) (stL_is _ _).size (.int .i64 e0) (.int .i64 e1) (.int .u32 e2) (.int .u32 e3))
  have T6 := Lib.hid (T5.kept S5.out.2.2.2.2)
  have E6 := Lib.hid (E5.kept S5.out.2.2.2.2)
  have B6 := Lib.hid (B5.trans (S5.out.2.2.2.2.mono B5.size))
  have U6 := Lib.hid S5.out.2.2.1
  have F6 := Lib.hid S5.out.2.2.2.1
  clear hb T4 E4 B4 T5 E5 B5
  go_wp2_with (first | (with_reducible (show wpList _ _ _ (⟨_, .store _ (.tmp 10) (.tmp 36), _, _, _, _⟩ :: _) _ _); refine wlr_store (.tmp 10) (.tmp 36) _ _ (stL R P) rfl rfl rfl rfl S5.out.1 (stL_is _ _).size (stL_is _ _).size (stL_is _ _).one ?_) | (with_reducible (show wpList _ _ _ (⟨_, .store _ (.tmp 11) (.tmp 37), _, _, _, _⟩ :: _) _ _); refine wlr_storeE (.tmp 11) (.tmp 37) _ _ _ _ _ _ _ _ _ rfl rfl rfl rfl S5.out.2.1 (one4 _ _ _ _) ?_))
  clear S5
  generalize (((w5.alloc (.cells #[.int .u32 0, .int .u32 0, .int .u32 0, .int .u32 0, .int .u32 0, .int .u32 0, .int .u32 0, .int .u32 0, .int .u32 0, .int .u32 0, .int .u32 0, .int .u32 0, .int .u32 0, .int .u32 0, .int .u32 0, .int .u32 0, .int .u32 0] 31) |>.alloc (.cells #[.int .i64 0, .int .i64 0, .int .u32 0, .int .u32 0] 32)).setCells w5.heap.size 0 (stL R P)).setCells (w5.heap.size + 1) 0 [.int .i64 e0, .int .i64 e1, .int .u32 e2, .int .u32 e3]) = w6 at *
  have k0 := cell_regrown (E6.out.at 0 rfl)
  have k1 := cell_regrown (E6.out.at 1 rfl)
  have k2 := cell_regrown (E6.out.at 2 rfl)
  have k3 := cell_regrown (E6.out.at 3 rfl)
  have m0 := cell_regrown (F6.out.at 0 rfl)
  have m1 := cell_regrown (F6.out.at 1 rfl)
  have m2 := cell_regrown (F6.out.at 2 rfl)
  have m3 := cell_regrown (F6.out.at 3 rfl)
  refine wp_region_quiet_below (by kernel_rfl) (by kernel_rfl) ?_
  repeat (first
    | (refine quiet_load (.tmp 7) _ _ Tryd.underlying25 rfl (stL_inf _ _) (by kernel_rfl) rfl rfl T6.out ?_; simp only [Act.put, List.setIfInBounds_toArray, List.set_cons_zero, List.set_cons_succ])
    | (refine quiet_load (.tmp 10) _ _ Tryd.underlying31 rfl (stL_infR _ _) (by kernel_rfl) rfl rfl U6.out ?_; simp only [Act.put, List.setIfInBounds_toArray, List.set_cons_zero, List.set_cons_succ])
    | (quiet_step (first
      | (go_at_call 13; exact Calls.regrown_of (ofE_any _ _ _ _ _))
      | (go_at_call 12; exact Calls.regrown_of (of_any _ _ _)))))
  refine wpQuiet_nil ?_
  intro _ hw'
  obtain ⟨⟨dq, osq⟩, hw''⟩ := hw'
  subst hw''
  clear k0 k1 k2 k3 m0 m1 m2 m3
  have hb := Lib.hid (below_regrown w6 dq osq)
  go_wp2
  go_ret
  exact ⟨rfl, B6.out.trans (hb.out.mono B6.out.size)⟩
theorem walk (r : Nat → Int) (pc most : Int) (p : Option Addr) (len cap : Nat) (z : Nat → Int) (w : World) (hE : Env w) (hR : R32 r) (hP : W32 pc) (hc : CodeIn w p len z) (hl : len ≤ maxLen) :
    Calls Tryd.prog 5 #[.agg (stL r pc).toArray, .slice p len cap, .int .i64 most] w fun e w' => e = .returned (.bool true) ∧ Below w.heap.size w w' := by
  by_cases h : 1000 < len ∨ 400 < most
  · exact walk_out r pc most p len cap w hE (by unfold maxLen at hl; omega) h
  · exact walk_in r pc most p len cap z w hE hR hP hc (by omega) (by omega)

set_option maxRecDepth 100000 in
theorem lifted (os : Os) (started : os.Started) (H : Type) (enc : TypeId × Value → H) :
    ReturnsInHanded {} Tryd.checked os 5 .any (fun w args => (Rows.aluRunsSpec.pre enc Tryd.prog Tryd.f5 [] false w args ∧ laidMetH Tryd.prog laidL w) ∧ sizedMet enc Tryd.prog Tryd.f5 (OpenSpec.ofChange Rows.aluRunsSpec) false w args)
      (Rows.aluRunsSpec.post enc Tryd.prog Tryd.f5 false true false false) := by
  refine returnsInHanded_of_change_and (C := Tryd.checked) (X := fun w _ => laidMetH Tryd.prog laidL w) (fun _ _ _ hh h => h.of_heap hh) own started (by kernel_rfl) Tryd.func5
    (ChangeSpec.witness_shaped (enc := enc) (C := Tryd.checked) (os := os) (X := fun w _ => laidMetH Tryd.prog laidL w) false (World.doorLaid Tryd.prog 4000 os) #[.agg #[.int .u32 0, .int .u32 0, .int .u32 0, .int .u32 0, .int .u32 0, .int .u32 0, .int .u32 0, .int .u32 0, .int .u32 0, .int .u32 0, .int .u32 0, .int .u32 0, .int .u32 0, .int .u32 0, .int .u32 0, .int .u32 0, .int .u32 0], .slice none 0 0, .int .i64 0] 8 rfl (World.shaped_of_RefB (by kernel_rfl) (by kernel_rfl)) (by kernel_rfl) (by kernel_rfl) (by kernel_rfl) (door_met os _)) ?_
  intro W base args ds gs before hval0 hW _ _ hL _
  have hval : ∀ (j : Nat) t v, Tryd.f5.params[j]? = some t → args[j]? = some v → Value.okWide Tryd.prog W .any base t v := hval0
  have hW' := hW
  obtain ⟨p, q, hA0, hV, rfl, hfz, hnd⟩ := hW
  have hA : DataW.TrodAll enc Tryd.prog W 0 (fun _ => true) true Tryd.f5.params.toList args.toList ds p := hA0
  rw [Tryd.params5] at hA hval
  obtain ⟨v0, vs0, d0, ds0, p0, q0, hargs, rfl, rfl, h0, r0⟩ := trodAll_cons hA
  obtain ⟨v1, vs1, d1, ds1, p1, q1, rfl, rfl, rfl, h1, r1⟩ := trodAll_cons r0
  obtain ⟨v2, vs2, d2, ds2, p2, q2, rfl, rfl, rfl, h2, r2⟩ := trodAll_cons r1
  obtain ⟨rfl, rfl, rfl⟩ := trodAll_nil r2
  obtain rfl : args = #[v0, v1, v2] := by cases args; simp_all
  obtain ⟨rfl, rfl⟩ := trodVars_none hV
  obtain ⟨rg0, pc0, rfl, rfl, hR0, hP0, sh0⟩ := st_open (hval 0 25 v0 rfl rfl) h0
  have k1 := h1
  obtain ⟨a1, n1, c1, rfl, m1, lt1, z1, hc1⟩ := bytes_open (hval 1 41 v1 rfl rfl) h1
  obtain ⟨x2, rfl, rfl, rfl, w2⟩ := open_int Tryd.underlying3 (hval 2 3 v2 rfl rfl) h2
  have hE := env_of hL
  clear hA0 hval0
  refine (walk rg0 pc0 x2 a1 n1 c1 z1 W hE hR0 hP0 hc1 m1).mono fun e W' ⟨he, bel⟩ => ?_
  subst he
  exact ⟨_, rfl, _, _, _, [], _, [], hW', trodAll_mk1 (shut_bool Tryd.underlying4 _), (trodAll_cons_mk (sh0 _ _) (trodAll_cons_mk (Below.trod laidOut (by kernel_rfl) (of_decide_eq_true (by kernel_rfl)) k1 bel lt1) (trodAll_cons_mk (shut_int Tryd.underlying3 w2) trodAll_mk0))), rfl, bel.frame _, fun h => by cases h⟩

theorem over : Rows.AluRunsSaid :=
  OpenClaim.holds_of_wide 5 Tryd.f5 rfl rfl rfl rfl rfl rfl rfl ⟨rfl, rfl, rfl, rfl, rfl⟩ rfl rfl rfl rfl rfl (by kernel_rfl) Tryd.func5 (by kernel_rfl)
    (of_decide_eq_true (by kernel_rfl)) (by unfold Func.isWrapper; first | (rw [if_pos (by decide +kernel)]; kernel_rfl) | (rw [if_neg (by decide +kernel)]; exact ⟨rfl, rfl⟩))
    (fun os started H enc _ => lifted os started H enc)
end Go.Proofs.YtlfhcnpbgbnadaaDoor.aluRuns
namespace Go.Proofs.YtlfhcnpbgbnadaaDoor
open Go
/-- The statement. -/
theorem aluRuns_holds : Rows.AluRunsCardSaid :=
  Claim7.holds_tied_plain_at .later [] [.data, .data, .data, .sentinel, .sentinel, .data] true _ true
    aluRuns.over (fun _ h => by cases h) (by kernel_rfl) (fun _ h => by cases h) aluRuns_row_tie rfl ⟨rfl, rfl⟩ (by kernel_rfl) rfl
    (fun f fn hf hfn => by
      obtain rfl : f = 5 := Option.some.inj ((show Tryd.prog.funcNamed "warder/warderlaw03.AluRuns" = some 5 by kernel_rfl).symm.trans hf) |>.symm
      obtain rfl : fn = Tryd.f5 := (Option.some.inj (Tryd.func5.symm.trans hfn)).symm
      exact ⟨by kernel_rfl, fun j t ht => by
        rw [Tryd.params5] at ht
        have hm : t ∈ [25, 41, 3] := by simpa using Array.mem_of_getElem? ht
        have hall : ([25, 41, 3].all fun u => !Tryd.prog.wantsStandIn u) = true := by kernel_rfl
        exact (show Tryd.prog.wantsStandIn t = false by simpa using List.all_eq_true.1 hall t hm)⟩)
    (by kernel_rfl)
#print axioms aluRuns_holds
end Go.Proofs.YtlfhcnpbgbnadaaDoor
