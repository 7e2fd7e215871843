/-
  PROVED HERE: whatever the text s is, warderlaw02.IsaReads answers true (a line that isa.Read reads is the instruction's own text, one that it doesn't tells nothing), and the argument reads behind the call as it read before. Conditions: none; the package-level variables start as the program's text lays them (the card ties them to that text).
-/
import Derived.Test.YtebnjhecopmekaaDoorIsaAlive
import Derived.Test.YtebnjhecopmekaaDoorIsaRLine
import Derived.Test.YtebnjhecopmekaaDoorIsaLaid
import Derived.Test.YtebnjhecopmekaaDoorTie
import Derived.ChangeOld
import Derived.ChangeMaps5
namespace Go.Proofs.YtebnjhecopmekaaDoor.isaReads
open Go.ChangeShapes Go.WideShapes Go.ChangeAt Go.RowKit Isa Go.ChangeMaps

theorem walk_long (s : ByteArray) (w : World) (hE : Env w) (h : 300 < s.size) (hs : s.size ≤ 9223372036854775807) :
    Calls Tryd.prog 4 #[.string s] w fun e w' => e = .returned (.bool true) ∧ Below w.heap.size w w' := by
  have d : decide (300 < (s.size : Int)) = true := by simp; omega
  go_enter Tryd.func4, Tryd.ntmps4
  go_wp2_with fail
  refine (alive_any _ hE).mono ?_
  rintro e w1 ⟨rfl, hb⟩
  go_wp2
  go_ret
  exact ⟨rfl, hb⟩
theorem walk_none (s : ByteArray) (w : World) (hE : Env w) (h : s.size ≤ 300) (hr : readO s.data.toList = none) :
    Calls Tryd.prog 4 #[.string s] w fun e w' => e = .returned (.bool true) ∧ Below w.heap.size w w' := by
  have d : decide (300 < (s.size : Int)) = false := by simp; omega
  have HE := Lib.hid hE
  have HV := Lib.hid (show readV s.data.toList = .tuple #[.agg #[.int .i64 0, .int .i64 0, .int .i64 0, .int .i64 0], .bool false] by unfold readV; rw [hr])
  clear hE hr
  go_enter Tryd.func4, Tryd.ntmps4
  go_wp2_with fail
  refine (alive_any _ HE.out).mono ?_
  rintro e w1 ⟨rfl, hb⟩
  have B1 := Lib.hid hb
  clear hb
  go_wp2_with fail
  refine (read_any _ _ (HE.out.kept B1.out) (by omega)).mono ?_
  rintro e w2 ⟨rfl, hb⟩
  rw [HV.out]
  have B2 := Lib.hid (B1.out.trans (hb.mono B1.out.size))
  clear hb
  go_wp2
  go_ret
  exact ⟨rfl, B2.out.alloc B2.out.size _⟩
theorem walk_some (s : ByteArray) (x : Int × Int × Int × Int) (w : World) (hE : Env w) (h : s.size ≤ 300) (hr : readO s.data.toList = some x) :
    Calls Tryd.prog 4 #[.string s] w fun e w' => e = .returned (.bool true) ∧ Below w.heap.size w w' := by
  have d : decide (300 < (s.size : Int)) = false := by simp; omega
  have HE := Lib.hid hE
  have HV := Lib.hid (show readV s.data.toList = .tuple #[.agg #[.int .i64 x.1, .int .i64 x.2.1, .int .i64 x.2.2.1, .int .i64 x.2.2.2], .bool true] by unfold readV; rw [hr])
  have hne : s.data.toList ≠ [] := by
    intro e
    rw [e] at hr
    have : readO [] = none := by decide
    rw [this] at hr; cases hr
  have e0 : ¬ s.toList = [] := by rw [Go.ByteArray.toList_eq]; exact hne
  have e1 : s.toList.isEmpty = false := by rw [Go.ByteArray.toList_eq]; cases hq : s.data.toList with | nil => exact absurd hq hne | cons => rfl
  have hl := readO_line hr
  have e2 : (bs (lineV x.1 x.2.1 x.2.2.1 x.2.2.2)).toList == s.toList := str_eq (by rw [hl, bs_self])
  have E2 := Lib.hid e2
  clear hE hr hne hl e2
  go_enter Tryd.func4, Tryd.ntmps4
  go_wp2_with fail
  refine (alive_any _ HE.out).mono ?_
  rintro e w1 ⟨rfl, hb⟩
  have B1 := Lib.hid hb
  clear hb
  go_wp2_with fail
  refine (read_any _ _ (HE.out.kept B1.out) (by omega)).mono ?_
  rintro e w2 ⟨rfl, hb⟩
  rw [HV.out]
  have B2 := Lib.hid (B1.out.trans (hb.mono B1.out.size))
  clear hb
  go_wp2_with fail
  refine (of_any _ _ _ _ _).mono ?_
  rintro e w3 ⟨rfl, hb⟩
  have B3 := Lib.hid ((B2.out.alloc B2.out.size _).trans (hb.mono (B2.out.alloc B2.out.size _).size))
  clear hb
  go_wp2_with fail
  refine (rline_any _ _ _ _ _).mono ?_
  rintro e w4 ⟨rfl, hb⟩
  have B4 := Lib.hid (B3.out.trans (hb.mono B3.out.size))
  have E := E2.out
  clear hb
  go_wp2
  go_ret
  exact ⟨rfl, B4.out⟩
theorem walk (s : ByteArray) (w : World) (hE : Env w) (hs : s.size ≤ 9223372036854775807) :
    Calls Tryd.prog 4 #[.string s] w fun e w' => e = .returned (.bool true) ∧ Below w.heap.size w w' := by
  by_cases h : 300 < s.size
  · exact walk_long s w hE h hs
  · cases hr : readO s.data.toList with
    | none => exact walk_none s w hE (by omega) hr
    | some x => exact walk_some s x w hE (by omega) hr

set_option maxRecDepth 100000 in
theorem lifted (os : Os) (started : os.Started) (H : Type) (enc : TypeId × Value → H) :
    ReturnsInHanded {} Tryd.checked os 4 .any (fun w args => (Rows.isaReadsSpec.pre enc Tryd.prog Tryd.f4 [] false w args ∧ laidMetH Tryd.prog laidL w) ∧ sizedMet enc Tryd.prog Tryd.f4 (OpenSpec.ofChange Rows.isaReadsSpec) false w args)
      (Rows.isaReadsSpec.post enc Tryd.prog Tryd.f4 false true false false) := by
  refine returnsInHanded_of_change_and (C := Tryd.checked) (X := fun w _ => laidMetH Tryd.prog laidL w) (fun _ _ _ hh h => h.of_heap hh) own started (by kernel_rfl) Tryd.func4
    (ChangeSpec.witness_shaped (enc := enc) (C := Tryd.checked) (os := os) (X := fun w _ => laidMetH Tryd.prog laidL w) false (World.doorLaid Tryd.prog 4000 os) #[.string ⟨#[]⟩] 8 rfl (World.shaped_of_RefB (by kernel_rfl) (by kernel_rfl)) (by kernel_rfl) (by kernel_rfl) (by kernel_rfl) (door_met os _)) ?_
  intro W base args ds gs before hval0 hW _ _ hL _
  have hval : ∀ (j : Nat) t v, Tryd.f4.params[j]? = some t → args[j]? = some v → Value.okWide Tryd.prog W .any base t v := hval0
  have hW' := hW
  obtain ⟨p, q, hA0, hV, rfl, hfz, hnd⟩ := hW
  have hA : DataW.TrodAll enc Tryd.prog W 0 (fun _ => true) true Tryd.f4.params.toList args.toList ds p := hA0
  rw [Tryd.params4] at hA hval
  obtain ⟨v0, d0, rfl, rfl, h0⟩ := trodAll_one hA
  obtain ⟨rfl, rfl⟩ := trodVars_none hV
  obtain ⟨s, rfl, rfl, rfl, hsz⟩ := open_string Tryd.underlying9 (hval 0 9 v0 rfl rfl) h0
  have hE := env_of hL
  clear hA0 hval0
  simp only [List.append_nil] at hW'
  refine (walk s W hE (by unfold maxLen at hsz; omega)).mono fun e W' ⟨he, bel⟩ => ?_
  subst he
  exact ⟨_, rfl, _, _, _, [], [], [], hW', trodAll_mk1 (shut_bool Tryd.underlying4 _), trodAll_mk1 (shut_string Tryd.underlying9 hsz), rfl, bel.frame _, fun h => by cases h⟩

theorem over : Rows.IsaReadsSaid :=
  OpenClaim.holds_of_wide 4 Tryd.f4 rfl rfl rfl rfl rfl rfl rfl ⟨rfl, rfl, rfl, rfl, rfl⟩ rfl rfl rfl rfl rfl (by kernel_rfl) Tryd.func4 (by kernel_rfl)
    (of_decide_eq_true (by kernel_rfl)) (by unfold Func.isWrapper; first | (rw [if_pos (by decide +kernel)]; kernel_rfl) | (rw [if_neg (by decide +kernel)]; exact ⟨rfl, rfl⟩))
    (fun os started H enc _ => lifted os started H enc)
end Go.Proofs.YtebnjhecopmekaaDoor.isaReads
namespace Go.Proofs.YtebnjhecopmekaaDoor
open Go
/-- The statement. -/
theorem isaReads_holds : Rows.IsaReadsCardSaid :=
  Claim7.holds_tied_plain_at .later [] [.data, .data, .data, .sentinel, .sentinel, .data] true _ true
    isaReads.over (fun _ h => by cases h) (by kernel_rfl) (fun _ h => by cases h) isaReads_row_tie rfl ⟨rfl, rfl⟩ (by kernel_rfl) rfl
    (fun f fn hf hfn => by
      obtain rfl : f = 4 := Option.some.inj ((show Tryd.prog.funcNamed "warder/warderlaw02.IsaReads" = some 4 by kernel_rfl).symm.trans hf) |>.symm
      obtain rfl : fn = Tryd.f4 := (Option.some.inj (Tryd.func4.symm.trans hfn)).symm
      exact ⟨by kernel_rfl, fun j t ht => by
        rw [Tryd.params4] at ht
        have hm : t ∈ [9] := by simpa using Array.mem_of_getElem? ht
        have hall : ([9].all fun u => !Tryd.prog.wantsStandIn u) = true := by kernel_rfl
        exact (show Tryd.prog.wantsStandIn t = false by simpa using List.all_eq_true.1 hall t hm)⟩)
    (by kernel_rfl)
#print axioms isaReads_holds
end Go.Proofs.YtebnjhecopmekaaDoor
