/-
  MeterLeast: the core that is told is one of those asked for, and no other one of these has a lesser clock, none ahead of it the same one: for every input true, and the input reads as it did. Condition: what the program's text lays (the table of costs).
-/
import Derived.Test.YtalaalpafafpbaaDoorMtRun
namespace Go.Proofs.YtalaalpafafpbaaDoor
open Go.ChangeShapes Go.WideShapes Go.ChangeAt Go.RowKit Go.Deep
namespace meterLeast
open Mt
set_option maxRecDepth 100000 in
set_option maxHeartbeats 2000000 in
theorem walk (pc : Option Addr) (len cap : Nat) (x : Cs) (pb : Option Addr) (lb cb : Nat) (bb : Nat → Bool) (w : World) (hl : len ≤ maxLen) (hc : Mt.CallsIn w.heap.size w pc len x) (hlb : lb ≤ maxLen) (hb : RdT w.heap.size w pb lb bb) (hC : Costs w) :
    Calls Tryd.prog 5 #[.slice pc len cap, .slice pb lb cb] w fun e w' => e = .returned (.bool true) ∧ Only [] w w' := by
  have HLB := Lib.hid hlb
  unfold maxLen at hl hlb
  have HC := Lib.hid hc
  have HB := Lib.hid hb
  have C0 := Lib.hid hC
  have hg := hC.1
  clear hc hC hb
  go_enter Tryd.func5, Tryd.ntmps5
  by_cases h60 : 60 < len
  · have d : decide ((60 : Int) < (len : Int)) = true := by simp; omega
    go_wp2_with (go_at_call 7; refine (alive_any _ C0.out).mono ?_; rintro e w0 ⟨rfl, O0⟩)
    go_ret
    exact ⟨rfl, O0⟩
  have d : decide ((60 : Int) < (len : Int)) = false := by simp; omega
  by_cases h20 : 20 < lb
  · have d2 : decide ((20 : Int) < (lb : Int)) = true := by simp; omega
    go_wp2_with (go_at_call 7; refine (alive_any _ C0.out).mono ?_; rintro e w0 ⟨rfl, O0⟩)
    go_ret
    exact ⟨rfl, O0⟩
  have d2 : decide ((20 : Int) < (lb : Int)) = false := by simp; omega
  go_wp2_with (go_at_call 7; refine (alive_any _ C0.out).mono ?_; rintro e w0 ⟨rfl, O0⟩)
  refine (new_any 4 w0 (by decide) (by decide)).mono ?_
  rintro e w1 ⟨m, F, c, rfl, hM, hO, hm, hF⟩
  have M1 := Lib.hid hM
  have O1 := Lib.hid (O0.next hO (by simp))
  have s0 := O0.size
  clear hM hO O0
  go_wp2_with fail
  go_loopw [7] (fun i wr => ∃ k : Nat, k ≤ len ∧ i = .int .i64 k ∧ (∃ L s, Met wr m F 4 c L s) ∧ Only [] w wr) (fun i _ => len - (intOf i).toNat)
  case atStart => exact ⟨0, by omega, rfl, ⟨_, _, M1.out⟩, O1.out⟩
  case round =>
    obtain ⟨k, hk, rfl, ⟨L, s, hM⟩, hO⟩ := hrel
    have MH := Lib.hid hM
    have OH := Lib.hid hO
    clear hM hO M1 O1
    by_cases hlt : k < len
    · obtain ⟨b, off, epa, hbB, hcc⟩ := HC.out.kept OH.out (by simp) (by omega)
      subst epa
      have ck := hcc k hlt
      have c0 := ck.c0
      have c1 := ck.c1
      have c2 := ck.c2
      have c3 := ck.c3
      have t0 := ck.t0
      have t1 := ck.t1
      have CH := Lib.hid (C0.out.kept OH.out (by simp))
      have hki : (k : Int) < len := by omega
      clear hcc ck
      cases hu : x.wt k
      · rw [hu] at c3
        go_wp2_with fail
        refine seal_tail (S := fun w' => w'.cell? ⟨b, off + k * 4, none⟩ = some (.int .i64 (x.co k)) ∧ w'.cell? ⟨b, off + k * 4 + 1, none⟩ = some (.int .i64 (x.kd k)) ∧ w'.cell? ⟨b, off + k * 4 + 2, none⟩ = some (.int .u64 (x.ti k)) ∧ Met w' m F 4 c L s ∧ Only [] w w' ∧ Costs w') 16 (by kernel_rfl) (by kernel_rfl) ⟨c0, c1, c2, MH.out.kept (Only.drewN [] _ 1) (by simp) (by simp), OH.out.next (Only.drewN [] _ 1) (by simp), CH.out.kept (Only.drewN [] _ 1) (by simp)⟩ ?_
        rintro w3 ⟨e0, e1, e2, hM3, hO3, hC3⟩
        have M3 := Lib.hid hM3
        have O3 := Lib.hid hO3
        have C3 := Lib.hid hC3
        clear c0 c1 c2 c3 MH OH CH hM3 hO3 hC3
        simp only [List.take_succ_cons, List.take_zero, List.drop_succ_cons, List.drop_zero]
        iterate 16 (refine seal_next (fun K hK => ?_); go_simp; refine hK _ ?_; clear hK K)
        refine seal_nil ?_
        go_wp2_with (go_at_call 11; refine (charge_any m F 4 c (x.co k) (x.kd k) L s (x.ti k) _ M3.out C3.out t0 t1).mono ?_; rintro e w4 ⟨rfl, hM4, hO4⟩; have M4 := Lib.hid hM4; have O4 := Lib.hid (O3.out.next hO4 (by simp; omega)); clear hM4 hO4)
        go_roundw
        case rel => exact ⟨k + 1, by omega, by go_num, ⟨_, _, M4.out⟩, O4.out⟩
        case measure => simp [intOf]; omega
      · rw [hu] at c3
        go_wp2_with fail
        refine seal_tail (S := fun w' => w'.cell? ⟨b, off + k * 4, none⟩ = some (.int .i64 (x.co k)) ∧ w'.cell? ⟨b, off + k * 4 + 2, none⟩ = some (.int .u64 (x.ti k)) ∧ Met w' m F 4 c L s ∧ Only [] w w') 11 (by kernel_rfl) (by kernel_rfl) ⟨c0, c2, MH.out.kept (Only.drewN [] _ 1) (by simp) (by simp), OH.out.next (Only.drewN [] _ 1) (by simp)⟩ ?_
        rintro w3 ⟨e0, e2, hM3, hO3⟩
        have M3 := Lib.hid hM3
        have O3 := Lib.hid hO3
        clear c0 c1 c2 c3 MH OH CH hM3 hO3
        simp only [List.take_succ_cons, List.take_zero, List.drop_succ_cons, List.drop_zero]
        iterate 11 (refine seal_next (fun K hK => ?_); go_simp; refine hK _ ?_; clear hK K)
        refine seal_nil ?_
        go_wp2_with (go_at_call 9; refine (wait_any m F 4 c (x.co k) L s (x.ti k) _ M3.out t1).mono ?_; rintro e w4 ⟨rfl, hM4, hO4⟩; have M4 := Lib.hid hM4; have O4 := Lib.hid (O3.out.next hO4 (by simp; omega)); clear hM4 hO4)
        go_roundw
        case rel => exact ⟨k + 1, by omega, by go_num, ⟨_, _, M4.out⟩, O4.out⟩
        case measure => simp [intOf]; omega
    · go_wp2_with fail
      clear hlt
      refine (least_any m F 4 c L s w.heap.size pb lb cb bb _ MH.out (HB.out.kept OH.out (by simp)) HLB.out).mono ?_
      rintro e w' ⟨rfl, q, rfl⟩
      have MQ := Lib.hid (MH.out.kept (Only.drewN [] _ q) (by simp) (by simp))
      have OQ := Lib.hid (OH.out.next (Only.drewN [] _ q) (by simp))
      generalize wr.drewN q = wq at *
      have BQ := Lib.hid (HB.out.kept OQ.out (by simp))
      have rg := leastF_range L bb (min lb 4)
      have SP := Lib.hid (leastF_spec L bb (min lb 4))
      have A0 := Lib.hid (fun h => anyF_no bb (min lb 4) h L)
      have A1 := Lib.hid (anyF_yes bb (min lb 4))
      generalize leastF L bb (min lb 4) = p at *
      clear MH OH HC HB d d2
      go_wp2_with fail
      go_loop [9, 10] (fun an i => ∃ k : Nat, k ≤ min lb 4 ∧ i = .int .i64 k ∧ an = .bool (anyF bb k)) (fun _ i => min lb 4 - (intOf i).toNat)
      case atStart => exact ⟨0, by omega, rfl, rfl⟩
      case round =>
        obtain ⟨j, hj, rfl, rfl⟩ := hrel
        by_cases hjl : j < min lb 4
        · obtain ⟨g, off, epa, hgB, hgw, hcc⟩ := BQ.out (by omega)
          subst epa
          have cj := hcc j (by omega)
          have d1 : decide ((j : Int) < 4) = true := by simp; omega
          have d2 : decide ((j : Int) < (lb : Int)) = true := by simp; omega
          have E := Lib.hid (show anyF bb (j + 1) = (anyF bb j || bb j) from rfl)
          have S1 := Lib.hid (SP.out.1 j hjl)
          have kc : clkA 4 L j = clk L j := by unfold clkA; rw [if_pos (inR_nat 4 j (by omega))]; rfl
          clear hcc
          generalize anyF bb j = an at *
          cases hbj : bb j
          · rw [hbj] at cj
            cases an
            · go_wp2
              go_round
              case rel => exact ⟨j + 1, by omega, by go_num, by rw [E.out, hbj]; rfl⟩
              case measure => simp [intOf]; omega
            · go_wp2
              go_round
              case rel => exact ⟨j + 1, by omega, by go_num, by rw [E.out]; rfl⟩
              case measure => simp [intOf]; omega
          · rw [hbj] at cj
            obtain ⟨p0, p1, p2⟩ := S1.out hbj
            obtain ⟨r, rfl⟩ := Int.eq_ofNat_of_zero_le p0
            have pc2 : clkA 4 L r = clk L r := by unfold clkA; rw [if_pos (inR_nat 4 r (by omega))]; rfl
            have f1 : decide ((0 : Int) ≤ (r : Int)) = true := by simp
            rw [Int.toNat_natCast] at p1 p2
            have f2 : decide (clk L j < clk L r) = false := by simp; omega
            by_cases hjr : (j : Int) < r
            · have f3 : decide ((j : Int) < (r : Int)) = true := by simpa using hjr
              have p3 := p2 hjr
              have f4 : (clk L j == clk L r) = false := by simp; omega
              clear p1 p2 p3 S1
              cases an
              · go_wp2_with (go_at_call 14; first | (with_reducible refine (clock_any m F 4 c L s j _ MQ.out).mono ?_; rintro _ w' ⟨rfl, rfl⟩; rw [kc]) | (with_reducible refine (clock_any m F 4 c L s r _ MQ.out).mono ?_; rintro _ w' ⟨rfl, rfl⟩; rw [pc2]))
                go_round
                case rel => exact ⟨j + 1, by omega, by go_num, by rw [E.out, hbj]; rfl⟩
                case measure => simp [intOf]; omega
              · go_wp2_with (go_at_call 14; first | (with_reducible refine (clock_any m F 4 c L s j _ MQ.out).mono ?_; rintro _ w' ⟨rfl, rfl⟩; rw [kc]) | (with_reducible refine (clock_any m F 4 c L s r _ MQ.out).mono ?_; rintro _ w' ⟨rfl, rfl⟩; rw [pc2]))
                go_round
                case rel => exact ⟨j + 1, by omega, by go_num, by rw [E.out]; rfl⟩
                case measure => simp [intOf]; omega
            · have f3 : decide ((j : Int) < (r : Int)) = false := by simpa using hjr
              clear p1 p2 S1
              cases an
              · go_wp2_with (go_at_call 14; first | (with_reducible refine (clock_any m F 4 c L s j _ MQ.out).mono ?_; rintro _ w' ⟨rfl, rfl⟩; rw [kc]) | (with_reducible refine (clock_any m F 4 c L s r _ MQ.out).mono ?_; rintro _ w' ⟨rfl, rfl⟩; rw [pc2]))
                go_round
                case rel => exact ⟨j + 1, by omega, by go_num, by rw [E.out, hbj]; rfl⟩
                case measure => simp [intOf]; omega
              · go_wp2_with (go_at_call 14; first | (with_reducible refine (clock_any m F 4 c L s j _ MQ.out).mono ?_; rintro _ w' ⟨rfl, rfl⟩; rw [kc]) | (with_reducible refine (clock_any m F 4 c L s r _ MQ.out).mono ?_; rintro _ w' ⟨rfl, rfl⟩; rw [pc2]))
                go_round
                case rel => exact ⟨j + 1, by omega, by go_num, by rw [E.out]; rfl⟩
                case measure => simp [intOf]; omega
        · have ej : j = min lb 4 := by omega
          rw [ej]
          have ENDS : Hid (∀ P : Prop, (4 ≤ j → P) → (j < 4 → lb ≤ j → P) → P) := fun P h1 h2 => by
            by_cases g : j < 4
            · exact h2 g (by omega)
            · exact h1 (by omega)
          have AN : Hid (∀ P : Prop, (anyF bb (min lb 4) = false → p = -1 → P) → (anyF bb (min lb 4) = true → ∀ r : Nat, p = r → r < lb → r < 4 → bb r = true → P) → P) := fun P h1 h2 => by
            cases h : anyF bb (min lb 4)
            · exact h1 h (A0.out h)
            · obtain ⟨k, hk, hbk⟩ := A1.out h
              obtain ⟨p0, _, _⟩ := SP.out.1 k hk hbk
              obtain ⟨r, rfl⟩ := Int.eq_ofNat_of_zero_le p0
              have := SP.out.2 p0
              exact h2 h r rfl (by omega) (by omega) (by simpa using this)
          rw [← ej] at AN ⊢
          clear A0 A1 SP ej hj hjl rg
          generalize anyF bb j = an at *
          refine AN.out _ ?_ ?_
          · intro ea ep
            subst ea ep
            refine ENDS.out _ ?_ ?_
            · intro g1
              go_wp2
              go_ret
              exact ⟨rfl, OQ.out⟩
            · intro g1 g2
              go_wp2
              go_ret
              exact ⟨rfl, OQ.out⟩
          · intro ea r ep hr1 hr2 hbr
            subst ea ep
            obtain ⟨g, off, epa, hgB, hgw, hcc⟩ := BQ.out (by omega)
            subst epa
            have cr := hcc r hr1
            rw [hbr] at cr
            have f1 : decide ((0 : Int) ≤ (r : Int)) = true := by simp
            have f2 : decide ((r : Int) < (lb : Int)) = true := by simp; omega
            have f3 : decide ((r : Int) < 4) = true := by simp; omega
            clear hcc
            refine ENDS.out _ ?_ ?_
            · intro g1
              go_wp2
              go_ret
              exact ⟨rfl, OQ.out⟩
            · intro g1 g2
              go_wp2
              go_ret
              exact ⟨rfl, OQ.out⟩
set_option maxRecDepth 100000 in
theorem lifted (os : Os) (started : os.Started) (H : Type) (enc : TypeId × Value → H) :
    ReturnsInHanded {} Tryd.checked os 5 .any (fun w args => (Rows.meterLeastSpec.pre enc Tryd.prog Tryd.f5 [] false w args ∧ laidMetH Tryd.prog Mt.laidL w) ∧ sizedMet enc Tryd.prog Tryd.f5 (OpenSpec.ofChange Rows.meterLeastSpec) false w args)
      (Rows.meterLeastSpec.post enc Tryd.prog Tryd.f5 false true false false) := by
  refine returnsInHanded_of_change_and (C := Tryd.checked) (X := fun w _ => laidMetH Tryd.prog Mt.laidL w) (fun _ _ _ hh h => h.of_heap hh) Mt.own started (by kernel_rfl) Tryd.func5
    (ChangeSpec.witness_shaped (enc := enc) (C := Tryd.checked) (os := os) (X := fun w _ => laidMetH Tryd.prog Mt.laidL w) false (World.doorLaid Tryd.prog 4000 os) #[.slice none 0 0, .slice none 0 0] 8 rfl (World.shaped_of_RefB (by kernel_rfl) (by kernel_rfl)) (by kernel_rfl) (by kernel_rfl) (by kernel_rfl) (Mt.door_met os _)) ?_
  intro W base args ds gs before hval0 hW _ _ hL _
  have hval : ∀ (j : Nat) t v, Tryd.f5.params[j]? = some t → args[j]? = some v → Value.okWide Tryd.prog W .any base t v := hval0
  have hW' := hW
  obtain ⟨p, q, hA0, hV, rfl, hfz, hnd⟩ := hW
  have hA : DataW.TrodAll enc Tryd.prog W 0 (fun _ => true) true Tryd.f5.params.toList args.toList ds p := hA0
  rw [Tryd.params5] at hA hval
  obtain ⟨v0, vs0, d0, ds0, p0, q0, hargs, rfl, rfl, h0, r0⟩ := trodAll_cons hA
  obtain ⟨v1, vs1, d1, ds1, p1, q1, rfl, rfl, rfl, h1, r1⟩ := trodAll_cons r0
  obtain ⟨rfl, rfl, rfl⟩ := trodAll_nil r1
  obtain rfl : args = #[v0, v1] := by cases args; simp_all
  obtain ⟨rfl, rfl⟩ := trodVars_none hV
  have k0 := h0
  obtain ⟨a0, n0, c0, y0, rfl, m0, lt0, z0⟩ := calls_open (hval 0 22 v0 rfl rfl) h0
  have k1 := h1
  obtain ⟨a1, n1, c1, y1, rfl, m1, lt1, z1⟩ := bools_open (hval 1 23 v1 rfl rfl) h1
  have hE := Mt.laid_of hL
  clear hA0 hval0
  refine (walk a0 n0 c0 y0 a1 n1 c1 y1 W m0 z0 m1 z1 hE).mono fun e W' ⟨he, ho⟩ => ?_
  subst he
  have bel : Below W.heap.size W W' := ho.below (Nat.le_refl _) (by simp)
  exact ⟨_, rfl, _, _, _, [], _, [], hW', trodAll_mk1 (shut_bool Tryd.underlying4 _), (trodAll_cons_mk (Below.trod Mt.laidOut (by kernel_rfl) (of_decide_eq_true (by kernel_rfl)) k0 bel lt0) (trodAll_cons_mk (Below.trod Mt.laidOut (by kernel_rfl) (of_decide_eq_true (by kernel_rfl)) k1 bel lt1) trodAll_mk0)), rfl, bel.frame _, fun h => by cases h⟩
theorem over : Rows.MeterLeastSaid :=
  OpenClaim.holds_of_wide 5 Tryd.f5 rfl rfl rfl rfl rfl rfl rfl ⟨rfl, rfl, rfl, rfl, rfl⟩ rfl rfl rfl rfl rfl (by kernel_rfl) Tryd.func5 (by kernel_rfl)
    (of_decide_eq_true (by kernel_rfl)) (by unfold Func.isWrapper; first | (rw [if_pos (by decide +kernel)]; kernel_rfl) | (rw [if_neg (by decide +kernel)]; exact ⟨rfl, rfl⟩))
    (fun os started H enc _ => lifted os started H enc)
end meterLeast
/-- The statement. -/
theorem meterLeast_holds : Rows.MeterLeastCardSaid :=
  Claim7.holds_tied_plain_at .later [] [.data] true _ false
    meterLeast.over (fun _ h => by cases h) (by kernel_rfl) (fun _ h => by cases h) meterLeast_row_tie rfl ⟨rfl, rfl⟩ (by kernel_rfl) rfl
    (fun f fn hf hfn => by
      obtain rfl : f = 5 := Option.some.inj ((show Tryd.prog.funcNamed "warder/warderlaw05.MeterLeast" = some 5 by kernel_rfl).symm.trans hf) |>.symm
      obtain rfl : fn = Tryd.f5 := (Option.some.inj (Tryd.func5.symm.trans hfn)).symm
      exact ⟨by kernel_rfl, fun j t ht => by
        rw [Tryd.params5] at ht
        have hm : t ∈ [22, 23] := by simpa using Array.mem_of_getElem? ht
        have hall : ([22, 23].all fun u => !Tryd.prog.wantsStandIn u) = true := by kernel_rfl
        exact (show Tryd.prog.wantsStandIn t = false by simpa using List.all_eq_true.1 hall t hm)⟩)
    (by kernel_rfl)
#print axioms meterLeast_holds
end Go.Proofs.YtalaalpafafpbaaDoor
