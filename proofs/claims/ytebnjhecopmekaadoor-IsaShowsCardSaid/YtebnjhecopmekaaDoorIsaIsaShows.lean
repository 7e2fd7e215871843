/-
  PROVED HERE: whatever the bytes b are, warderlaw02.IsaShows answers true, and the argument reads behind the call as it read before. (At most 1,000 bytes, as the statement itself bounds them: bytes that isa.Show shows are assembled by isa.Assemble as they are; others are no whole words of instructions. At longer slices the statement answers true without a look.) Conditions: none; the package-level variables start as the program's text lays them (the card ties them to that text).
-/
import Derived.Test.YtebnjhecopmekaaDoorIsaAlive
import Derived.Test.YtebnjhecopmekaaDoorIsaRef
import Derived.Test.YtebnjhecopmekaaDoorIsaBack
import Derived.Test.YtebnjhecopmekaaDoorIsaOpenB
import Derived.Test.YtebnjhecopmekaaDoorTie
import Derived.ChangeMaps5
import Derived.ShutString
namespace Go.Proofs.YtebnjhecopmekaaDoor.isaShows
open Go.ChangeShapes Go.WideShapes Go.ChangeAt Go.RowKit Isa

theorem walk_long (a : Option Addr) (len cap : Nat) (w : World) (hE : Env w) (h : 1000 < len) (hl : len ≤ 9223372036854775807) :
    Calls Tryd.prog 6 #[.slice a len cap] w fun e w' => e = .returned (.bool true) ∧ Below w.heap.size w w' := by
  have d : decide (1000 < (len : Int)) = true := by simp; omega
  go_enter Tryd.func6, Tryd.ntmps6
  go_wp2_with fail
  refine (alive_any _ hE).mono ?_
  rintro e w1 ⟨rfl, hb⟩
  go_wp2
  go_ret
  exact ⟨rfl, hb⟩
theorem asm_empty (w : World) (hE : Env w) :
    Calls Tryd.prog 20 #[.string (bs [])] w fun e w' => ∃ g, e = .returned (.tuple #[.slice (some ⟨g, 0, none⟩) 0 0, .int .i64 0, .int .i64 0]) ∧ Below w.heap.size w w' := by
  refine (asmShown 0 (fun _ => 0) w hE (by decide) (fun j hj => by omega) (fun j hj => by omega)).mono ?_
  rintro e w' ⟨g, rfl, _, hb⟩
  exact ⟨g, rfl, hb⟩
theorem walk_nil (a : Option Addr) (cap : Nat) (w : World) (hE : Env w) :
    Calls Tryd.prog 6 #[.slice a 0 cap] w fun e w' => e = .returned (.bool true) ∧ Below w.heap.size w w' := by
  have HE := Lib.hid hE
  clear hE
  go_enter Tryd.func6, Tryd.ntmps6
  go_wp2_with fail
  refine (alive_any _ HE.out).mono ?_
  rintro e w1 ⟨rfl, hb⟩
  have B1 := Lib.hid hb
  clear hb
  go_wp2_with fail
  refine (show_nil _ _ _).mono ?_
  rintro e w2 ⟨rfl, hb⟩
  have B2 := Lib.hid (B1.out.trans (hb.mono B1.out.size))
  clear hb
  go_wp2
  go_loop [5, 6] (fun c i => c = .bool true ∧ i = .int .i64 0) (fun _ _ => 0)
  case atStart => exact ⟨rfl, rfl⟩
  case round =>
    obtain ⟨rfl, rfl⟩ := hrel
    go_wp2_with fail
    refine (asm_empty _ (HE.out.kept B2.out)).mono ?_
    rintro e w3 ⟨g, rfl, hb⟩
    have B3 := Lib.hid (B2.out.trans (hb.mono B2.out.size))
    clear hb
    go_wp2_with fail
    refine (Wd.same_zero _ _ _ _ _).mono ?_
    rintro e w4 ⟨rfl, k, rfl⟩
    go_wp2
    go_ret
    exact ⟨rfl, below_drewN B3.out _⟩
theorem rdecodeR (v : Int) (w : World) (h0 : 0 ≤ v) (h1 : v < 4294967296) :
    Calls Tryd.prog 13 #[.int .u32 v] w fun e w' => (∃ a b c d : Int, e = .returned (.tuple #[.agg #[.int .i64 a, .int .i64 b, .int .i64 c, .int .i64 d], .bool (decR v)])) ∧ Below w.heap.size w w' := by
  refine (rdecode_any v w h0 h1).mono ?_
  rintro e w' ⟨rfl, hb⟩
  refine ⟨?_, hb⟩
  cases h : decR v
  · exact ⟨_, _, _, _, by rw [decV_no h]⟩
  · exact ⟨_, _, _, _, by rw [decV_yes h]⟩
set_option maxHeartbeats 4000000 in
theorem walk_row (b off len cap : Nat) (z : Nat → Int) (w : World) (hE : Env w) (hrow : RowAt w b off len z) (h0 : 0 < len) (hl : len ≤ 1000) :
    Calls Tryd.prog 6 #[.slice (some ⟨b, off, none⟩) len cap] w fun e w' => e = .returned (.bool true) ∧ Below w.heap.size w w' := by
  have d : decide (1000 < (len : Int)) = false := by simp; omega
  have HE := Lib.hid hE
  have HW := Lib.hid hrow
  obtain ⟨C, hC⟩ : ∃ C, whB (decide (len % 4 = 0)) z (len / 4) = C := ⟨_, rfl⟩
  have HC := Lib.hid hC
  have hq : ((len : Int) % 4 == 0) = decide (len % 4 = 0) := by
    rw [Bool.eq_iff_iff]; simp; omega
  have HQ := Lib.hid hq
  clear hE hrow hC hq
  go_enter Tryd.func6, Tryd.ntmps6
  go_wp2_with fail
  refine (alive_any _ HE.out).mono ?_
  rintro e w1 ⟨rfl, hb⟩
  have B1 := Lib.hid hb
  clear hb
  go_wp2_with fail
  refine (showR b off len cap z C _ (HE.out.kept B1.out) (HW.out.kept B1.out) hl HC.out).mono ?_
  rintro e w2 ⟨rfl, hb⟩
  have B2 := Lib.hid (B1.out.trans (hb.mono B1.out.size))
  clear hb
  obtain ⟨T, hT⟩ : ∃ T, (if C = true then showTo z (len / 4) else []) = T := ⟨_, rfl⟩
  rw [hT]
  have HT := Lib.hid hT
  clear hT
  go_wp2
  go_loopw [5, 6] (fun c i wr => ∃ k : Nat, k ≤ len / 4 ∧ i = .int .i64 (4 * k : Nat) ∧ c = .bool (whB (decide (len % 4 = 0)) z k) ∧ Hid (Below w.heap.size w wr)) (fun _ i _ => len - (intOf i).toNat)
  case atStart => exact ⟨0, by omega, rfl, by rw [HQ.out]; rfl, B2⟩
  case round =>
    obtain ⟨k, hk, rfl, rfl, hbel⟩ := hrel
    by_cases hlt : k < len / 4
    · have d1 : decide (4 * (k : Int) + 4 ≤ len) = true := by simp; omega
      have HRW := Lib.hid (HW.out.kept hbel.out)
      have hwb := word4_bounds (HRW.out.2.1 (4 * k) (by omega)) (HRW.out.2.1 (4 * k + 1) (by omega)) (HRW.out.2.1 (4 * k + 2) (by omega)) (HRW.out.2.1 (4 * k + 3) (by omega))
      have hw0 : 0 ≤ wAt z k := hwb.1
      have hw1 : wAt z k < 4294967296 := hwb.2
      have HS := Lib.hid (show whB (decide (len % 4 = 0)) z (k + 1) = (whB (decide (len % 4 = 0)) z k && decR (wAt z k)) from rfl)
      clear hwb
      generalize whB (decide (len % 4 = 0)) z k = c at *
      cases c
      all_goals
        go_wp2_with fail
        refine (rget4 _ _ _ _ k z _ HRW.out (by omega) hl).mono ?_
        rintro e w3 ⟨rfl, rfl⟩
        go_wp2_with fail
        refine (rdecodeR _ _ hw0 hw1).mono ?_
        rintro e w4 ⟨⟨y0, y1, y2, y3, rfl⟩, hb⟩
        have HB := Lib.hid (hbel.out.trans (hb.mono hbel.out.size))
        clear hb
        go_wp2
        go_roundw
        case rel => exact ⟨k + 1, by omega, by go_num, by rw [HS.out]; rfl, Lib.hid (HB.out.alloc HB.out.size _)⟩
        case measure => simp [intOf]; omega
    · have d1 : decide (4 * (k : Int) + 4 ≤ len) = false := by simp; omega
      have e : k = len / 4 := by omega
      subst e
      rw [HC.out]
      cases C
      · have e0 : T = [] := by have := HT.out; simpa using this.symm
        subst e0
        have t0 : (bs []).toList = [] := by rw [Go.ByteArray.toList_eq]; rfl
        go_wp2
        go_ret
        exact ⟨rfl, hbel.out⟩
      · obtain ⟨h4, hall⟩ := (whB_iff _ _ _).1 HC.out
        have e0 : T = showTo z (len / 4) := by have := HT.out; simpa using this.symm
        have h5 : len = 4 * (len / 4) := by have : len % 4 = 0 := by simpa using h4
                                            omega
        have HA := Lib.hid hall
        have H5 := Lib.hid h5
        subst e0
        clear hall h4 h5
        go_wp2_with fail
        refine (asmShown (len / 4) z _ (HE.out.kept hbel.out) (by omega) (fun j hj => HW.out.2.1 j (by have := H5.out; omega)) HA.out).mono ?_
        rintro e w3 ⟨g, rfl, hr, hb⟩
        have HB := Lib.hid (hbel.out.trans (hb.mono hbel.out.size))
        have HR := Lib.hid hr
        clear hb hr
        rw [← H5.out]
        have HR2 := Lib.hid (show RowAt w3 g 0 len z by have := HR.out; rw [← H5.out] at this; exact this)
        go_wp2_with fail
        refine (Wd.same_row g 0 b off len _ _ z _ (by omega) (fun j hj => HR2.out.2.2 j hj) (fun j hj => (HW.out.kept HB.out).2.2 j hj)).mono ?_
        rintro e w4 ⟨rfl, m, rfl⟩
        go_wp2
        go_ret
        exact ⟨rfl, below_drewN HB.out _⟩
theorem walk (a : Option Addr) (len cap : Nat) (w : World) (hE : Env w) (hm : len ≤ maxLen) (hrow : 0 < len → ∃ b off z, a = some ⟨b, off, none⟩ ∧ RowAt w b off len z) :
    Calls Tryd.prog 6 #[.slice a len cap] w fun e w' => e = .returned (.bool true) ∧ Below w.heap.size w w' := by
  by_cases h : 1000 < len
  · exact walk_long a len cap w hE h (by unfold maxLen at hm; omega)
  · by_cases h0 : 0 < len
    · obtain ⟨b, off, z, rfl, hr⟩ := hrow h0
      exact walk_row b off len cap z w hE hr h0 (by omega)
    · obtain rfl : len = 0 := by omega
      exact walk_nil a cap w hE

set_option maxRecDepth 100000 in
theorem lifted (os : Os) (started : os.Started) (H : Type) (enc : TypeId × Value → H) :
    ReturnsInHanded {} Tryd.checked os 6 .any (fun w args => (Rows.isaShowsSpec.pre enc Tryd.prog Tryd.f6 [] false w args ∧ laidMetH Tryd.prog laidL w) ∧ sizedMet enc Tryd.prog Tryd.f6 (OpenSpec.ofChange Rows.isaShowsSpec) false w args)
      (Rows.isaShowsSpec.post enc Tryd.prog Tryd.f6 false true false false) := by
  refine returnsInHanded_of_change_and (C := Tryd.checked) (X := fun w _ => laidMetH Tryd.prog laidL w) (fun _ _ _ hh h => h.of_heap hh) own started (by kernel_rfl) Tryd.func6
    (ChangeSpec.witness_shaped (enc := enc) (C := Tryd.checked) (os := os) (X := fun w _ => laidMetH Tryd.prog laidL w) false (World.doorLaid Tryd.prog 4000 os) #[.slice none 0 0] 8 rfl (World.shaped_of_RefB (by kernel_rfl) (by kernel_rfl)) (by kernel_rfl) (by kernel_rfl) (by kernel_rfl) (door_met os _)) ?_
  intro W base args ds gs before hval0 hW _ _ hL _
  have hval : ∀ (j : Nat) t v, Tryd.f6.params[j]? = some t → args[j]? = some v → Value.okWide Tryd.prog W .any base t v := hval0
  have hW' := hW
  obtain ⟨p, q, hA0, hV, rfl, hfz, hnd⟩ := hW
  have hA : DataW.TrodAll enc Tryd.prog W 0 (fun _ => true) true Tryd.f6.params.toList args.toList ds p := hA0
  rw [Tryd.params6] at hA hval
  obtain ⟨v0, vs0, d0, ds0, p0, q0, hargs, rfl, rfl, h0, r0⟩ := trodAll_cons hA
  obtain ⟨rfl, rfl, rfl⟩ := trodAll_nil r0
  obtain rfl : args = #[v0] := by cases args; simp_all
  obtain ⟨rfl, rfl⟩ := trodVars_none hV
  have k0 := h0
  obtain ⟨a0, n0, c0, rfl, m0, lt0, w0⟩ := bytes_open (hval 0 43 v0 rfl rfl) h0
  have hE := env_of hL
  clear hA0 hval0
  refine (walk a0 n0 c0 W hE m0 w0).mono fun e W' ⟨he, bel⟩ => ?_
  subst he
  exact ⟨_, rfl, _, _, _, [], _, [], hW', trodAll_mk1 (shut_bool Tryd.underlying4 _), (trodAll_cons_mk (Below.trod laidOut (by kernel_rfl) (of_decide_eq_true (by kernel_rfl)) k0 bel lt0) trodAll_mk0), rfl, bel.frame _, fun h => by cases h⟩

theorem over : Rows.IsaShowsSaid :=
  OpenClaim.holds_of_wide 6 Tryd.f6 rfl rfl rfl rfl rfl rfl rfl ⟨rfl, rfl, rfl, rfl, rfl⟩ rfl rfl rfl rfl rfl (by kernel_rfl) Tryd.func6 (by kernel_rfl)
    (of_decide_eq_true (by kernel_rfl)) (by unfold Func.isWrapper; first | (rw [if_pos (by decide +kernel)]; kernel_rfl) | (rw [if_neg (by decide +kernel)]; exact ⟨rfl, rfl⟩))
    (fun os started H enc _ => lifted os started H enc)
end Go.Proofs.YtebnjhecopmekaaDoor.isaShows
namespace Go.Proofs.YtebnjhecopmekaaDoor
open Go
/-- The statement. -/
theorem isaShows_holds : Rows.IsaShowsCardSaid :=
  Claim7.holds_tied_plain_at .later [] [.data, .data, .data, .sentinel, .sentinel, .data] true _ true
    isaShows.over (fun _ h => by cases h) (by kernel_rfl) (fun _ h => by cases h) isaShows_row_tie rfl ⟨rfl, rfl⟩ (by kernel_rfl) rfl
    (fun f fn hf hfn => by
      obtain rfl : f = 6 := Option.some.inj ((show Tryd.prog.funcNamed "warder/warderlaw02.IsaShows" = some 6 by kernel_rfl).symm.trans hf) |>.symm
      obtain rfl : fn = Tryd.f6 := (Option.some.inj (Tryd.func6.symm.trans hfn)).symm
      exact ⟨by kernel_rfl, fun j t ht => by
        rw [Tryd.params6] at ht
        have hm : t ∈ [43] := by simpa using Array.mem_of_getElem? ht
        have hall : ([43].all fun u => !Tryd.prog.wantsStandIn u) = true := by kernel_rfl
        exact (show Tryd.prog.wantsStandIn t = false by simpa using List.all_eq_true.1 hall t hm)⟩)
    (by kernel_rfl)
#print axioms isaShows_holds
end Go.Proofs.YtebnjhecopmekaaDoor
