/-
  EntryBoth: what two entries allow together is what each allows: for every input true, and the input reads as it did; no condition.
-/
import Derived.Test.YtpmhphbfbcgfnaaEnOpen
namespace Go.Proofs.Ytpmhphbfbcgfnaa
open Go.ChangeShapes Go.WideShapes Go.ChangeAt Go.RowKit Go.Deep Go.Joins Nt
open En
namespace entryBoth
theorem alw_both (V W X V' W' X' : Bool) (k : Nat) (hk : k < 3) : alw (V && V') (V && V' && (W && W')) (V && V' && (X && X')) k = (alw V W X k && alw V' W' X' k) := by
  match k, hk with
  | 0, _ => unfold alw; cases V <;> cases V' <;> rfl
  | 1, _ => unfold alw; cases V <;> cases V' <;> cases W <;> cases W' <;> rfl
  | 2, _ => unfold alw; cases V <;> cases V' <;> cases X <;> cases X' <;> rfl
set_option maxHeartbeats 1000000 in
theorem walk (V W X B : Bool) (F : Int) (V' W' X' B' : Bool) (F' : Int) (w : World) :
    Calls Try.prog 4 #[.agg #[.bool V, .bool W, .bool X, .bool B, .int .i64 F], .agg #[.bool V', .bool W', .bool X', .bool B', .int .i64 F']] w fun e w' => e = .returned (.bool true) ∧ Below w.heap.size w w' := by
  obtain ⟨p, hp⟩ : ∃ p, p = (V && V') := ⟨_, rfl⟩
  obtain ⟨q, hq⟩ : ∃ q, q = (p && (W && W')) := ⟨_, rfl⟩
  obtain ⟨r, hr⟩ : ∃ r, r = (p && (X && X')) := ⟨_, rfl⟩
  obtain ⟨z, hz⟩ : ∃ z, z = (if p then F' else 0) := ⟨_, rfl⟩
  have AB : ∀ k : Nat, k < 3 → alw p q r k = (alw V W X k && alw V' W' X' k) := fun k hk => by
    rw [hr, hq, hp]; exact alw_both V W X V' W' X' k hk
  have cb := fun w => both_any V W X B F V' W' X' B' F' w
  rw [← hp, ← hq, ← hr, ← hz] at cb
  have CB := Lib.hid cb
  have AH := Lib.hid AB
  have HP := Lib.hid hp
  have HQ := Lib.hid hq
  have HR := Lib.hid hr
  have HZ := Lib.hid hz
  clear hp hq hr hz AB cb
  obtain ⟨u0, hu0⟩ : ∃ u0, u0 = w.alloc (.cells #[.bool V, .bool W, .bool X, .bool B, .int .i64 F] 23) := ⟨_, rfl⟩
  obtain ⟨u1, hu1⟩ : ∃ u1, u1 = u0.alloc (.cells #[.bool V', .bool W', .bool X', .bool B', .int .i64 F'] 23) := ⟨_, rfl⟩
  have s0 : u0.heap.size = w.heap.size + 1 := by rw [hu0]; simp
  have b0 : Below w.heap.size w u0 := by rw [hu0]; exact (Below.refl _ _).alloc (Nat.le_refl _) _
  have b1 : Below u0.heap.size u0 u1 := by rw [hu1]; exact (Below.refl _ _).alloc (Nat.le_refl _) _
  have f0 : Five u1 w.heap.size V W X B F := (show Five u0 w.heap.size V W X B F from by rw [hu0]; exact five_new _ _ _ _ _ _ _).kept' b1
  have f1 : Five u1 u0.heap.size V' W' X' B' F' := by rw [hu1]; exact five_new _ _ _ _ _ _ _
  have bz : Below w.heap.size w u1 := b0.trans (b1.mono b0.size)
  rw [s0] at f1
  have F0 := Lib.hid f0
  have F1 := Lib.hid f1
  have BZ := Lib.hid bz
  have HU : Hid (u1 = (w.alloc (.cells #[.bool V, .bool W, .bool X, .bool B, .int .i64 F] 23)).alloc (.cells #[.bool V', .bool W', .bool X', .bool B', .int .i64 F'] 23)) := by rw [hu1, hu0]; rfl
  clear b0 b1 f0 f1 bz s0 hu0 hu1
  go_enter Try.func4, Try.ntmps4
  go_wp2_with fail
  rw [← HU.out]
  refine (alive_any _).mono ?_
  rintro e w1 ⟨rfl, b1⟩
  have F2 := Lib.hid (F0.out.kept' b1)
  have F3 := Lib.hid (F1.out.kept' b1)
  have B1 := Lib.hid (BZ.out.trans (b1.mono BZ.out.size))
  obtain ⟨c0, c1, c2, c3, c4⟩ := F2.out
  obtain ⟨d0, d1, d2, d3, d4⟩ := F3.out
  clear b1 F0 F1 BZ HU
  go_wp2_with fail
  refine (CB.out _).mono ?_
  rintro e w2 ⟨rfl, b2⟩
  have F4 := Lib.hid (F2.out.kept' b2)
  have F5 := Lib.hid (F3.out.kept' b2)
  have B2 := Lib.hid (B1.out.trans (b2.mono B1.out.size))
  clear b2 F2 F3 B1 c0 c1 c2 c3 c4 d0 d1 d2 d3 d4
  go_wp2_with fail
  have l2 := block_lt_of_cell F5.out.c0
  have F6 := Lib.hid (five_new w2 p q r false z 23)
  have F7 := Lib.hid (F4.out.kept' ((Below.refl w2.heap.size w2).alloc (Nat.le_refl _) (.cells #[.bool p, .bool q, .bool r, .bool false, .int .i64 z] 23)))
  have F8 := Lib.hid (F5.out.kept' ((Below.refl w2.heap.size w2).alloc (Nat.le_refl _) (.cells #[.bool p, .bool q, .bool r, .bool false, .int .i64 z] 23)))
  have B3 := Lib.hid (B2.out.alloc B2.out.size (.cells #[.bool p, .bool q, .bool r, .bool false, .int .i64 z] 23))
  clear F4 F5 B2
  generalize w2.heap.size = g at *
  generalize w2.alloc (.cells #[.bool p, .bool q, .bool r, .bool false, .int .i64 z] 23) = w3 at *
  clear l2
  go_loopw [6] (fun i wr => ∃ k : Nat, k ≤ 3 ∧ i = .int .i64 k ∧ (Five wr w.heap.size V W X B F ∧ Five wr (w.heap.size + 1) V' W' X' B' F' ∧ Five wr g p q r false z) ∧ Below w.heap.size w wr) (fun i _ => 3 - (intOf i).toNat)
  case atStart => exact ⟨0, by omega, rfl, ⟨F7.out, F8.out, F6.out⟩, B3.out⟩
  case round =>
    obtain ⟨k, hk, rfl, ⟨f0, f1, f2⟩, hB⟩ := hrel
    have F0 := Lib.hid f0
    have F1 := Lib.hid f1
    have F2 := Lib.hid f2
    have BH := Lib.hid hB
    clear f0 f1 f2 hB F6 F7 F8 B3
    by_cases hlt : k < 3
    · have hk3 : (k : Int) < 3 := by omega
      have e := AH.out k hlt
      have CA := Lib.hid (fun w => allows_any V W X B F k w)
      have CC := Lib.hid (fun w => allows_any V' W' X' B' F' k w)
      have CD := Lib.hid (fun w => allows_any p q r false z k w)
      have RN : k + 1 ≤ 3 := by omega
      have MS : 3 - (k + 1) < 3 - k := by omega
      rw [e] at CD
      generalize alw V W X k = a at *
      generalize alw V' W' X' k = b at *
      clear e
      obtain ⟨c0, c1, c2, c3, c4⟩ := F0.out
      obtain ⟨d0, d1, d2, d3, d4⟩ := F1.out
      obtain ⟨g0, g1, g2, g3, g4⟩ := F2.out
      have kc0 := cell_regrown c0
      have kc1 := cell_regrown c1
      have kc2 := cell_regrown c2
      have kc3 := cell_regrown c3
      have kc4 := cell_regrown c4
      have kd0 := cell_regrown d0
      have kd1 := cell_regrown d1
      have kd2 := cell_regrown d2
      have kd3 := cell_regrown d3
      have kd4 := cell_regrown d4
      have kg0 := cell_regrown g0
      have kg1 := cell_regrown g1
      have kg2 := cell_regrown g2
      have kg3 := cell_regrown g3
      have kg4 := cell_regrown g4
      clear c0 c1 c2 c3 c4 d0 d1 d2 d3 d4 g0 g1 g2 g3 g4
      cases a <;> cases b
      all_goals
        go_wp2_with fail
        refine wp_region_quiet_below (by kernel_rfl) (by kernel_rfl) ?_
        repeat (quiet_step (first | (go_at_call 13; first | (with_reducible exact Calls.regrown_of (CA.out _)) | (with_reducible exact Calls.regrown_of (CC.out _)) | (with_reducible exact Calls.regrown_of (CD.out _)))))
        refine wpQuiet_nil ?_
        intro _ hw'
        obtain ⟨⟨dq, osq⟩, hw''⟩ := hw'
        subst hw''
        have hb4 := below_regrown wr dq osq
        have G0 := Lib.hid (F0.out.kept' hb4)
        have G1 := Lib.hid (F1.out.kept' hb4)
        have G2 := Lib.hid (F2.out.kept' hb4)
        have G3 := Lib.hid (BH.out.trans (hb4.mono BH.out.size))
        clear kc0 kc1 kc2 kc3 kc4 kd0 kd1 kd2 kd3 kd4 kg0 kg1 kg2 kg3 kg4 F0 F1 F2 BH hb4
        generalize Go.Sort.grow (redrawn wr _) _ = w4 at *
        go_wp2
        go_round
        case rel => exact ⟨k + 1, RN, by go_num, ⟨G0.out, G1.out, G2.out⟩, G3.out⟩
        case measure => simpa [intOf] using MS
    · have ek : k = 3 := by omega
      subst ek
      obtain ⟨c0, c1, c2, c3, c4⟩ := F0.out
      obtain ⟨d0, d1, d2, d3, d4⟩ := F1.out
      obtain ⟨g0, g1, g2, g3, g4⟩ := F2.out
      have BZ := BH.out
      have hp := HP.out
      have hq := HQ.out
      have hr := HR.out
      have hz := HZ.out
      clear CB AH HP HQ HR HZ F0 F1 hk hlt
      by_cases hv : V = true ∧ V' = true
      · obtain ⟨rfl, rfl⟩ := hv
        have hp' : p = true := hp
        subst hp'
        have hz' : F' = z := hz.symm
        subst hz'
        have BZ' := Lib.hid BZ
        have FZ := Lib.hid F2.out
        clear hp hq hr hz BZ F2 BH
        go_wp2_with fail
        refine (allows_any true q r false F' 3 _).mono ?_
        rintro e w5 ⟨rfl, b5⟩
        have a0 : alw true q r 3 = false := rfl
        rw [a0]
        have B5 := Lib.hid (BZ'.out.trans (b5.mono BZ'.out.size))
        obtain ⟨f0, f1, f2, f3, f4⟩ := FZ.out.kept' b5
        clear a0 b5 c0 c1 c2 c3 c4 d0 d1 d2 d3 d4 g0 g1 g2 g3 g4 FZ BZ'
        go_wp2_with fail
        refine (allows_any true q r false F' (-1) _).mono ?_
        rintro e w6 ⟨rfl, b6⟩
        have a0 : alw true q r (-1) = false := rfl
        rw [a0]
        have B6 := Lib.hid (B5.out.trans (b6.mono B5.out.size))
        clear a0 b6 f0 f1 f2 f3 f4 B5
        go_wp2
        go_ret
        exact ⟨rfl, B6.out⟩
      · have hp' : p = false := by rw [hp]; revert hv; cases V <;> cases V' <;> simp
        subst hp'
        have hq' : q = false := hq
        have hr' : r = false := hr
        have hz' : z = 0 := hz
        subst hq' hr' hz'
        have q2 : ∀ w, (Op.equalIn 10000 23 (.agg #[.bool false, .bool false, .bool false, .bool false, .int .i64 0]) (.agg #[.bool false, .bool false, .bool false, .bool false, .int .i64 0])).run Try.prog w = .ok true w := fun w => eqEnt false false false false false false false false 0 0 w
        clear hp hq hr hz F2
        cases V <;> cases V'
        case true.true => exact absurd ⟨rfl, rfl⟩ hv
        all_goals
          clear hv
          go_wp2
          go_ret
          exact ⟨rfl, BZ⟩
set_option maxRecDepth 100000 in
theorem lifted (os : Os) (started : os.Started) (H : Type) (enc : TypeId × Value → H) :
    ReturnsInHanded {} Try.checked os 4 .any (Rows.entryBothSpec.pre6 enc Try.prog Try.f4 Rows.entryBothRow.domain false) (Rows.entryBothSpec.post enc Try.prog Try.f4 false true false false) := by
  refine returnsInHanded_of_change_sized (C := Try.checked) own started (by kernel_rfl) Try.func4
    (ChangeSpec.witness6 (enc := enc) (C := Try.checked) false ⟨#[], #[.agg #[.bool false, .bool false, .bool false, .bool false, .int .i64 0], .agg #[.bool false, .bool false, .bool false, .bool false, .int .i64 0]], []⟩ 8 (by kernel_rfl) (by kernel_rfl) (by kernel_rfl) (by kernel_rfl)) ?_
  intro W base args ds gs before hval0 hW hcnd hZ0 _
  have hval : ∀ (j : Nat) t v, Try.f4.params[j]? = some t → args[j]? = some v → Value.okWide Try.prog W .any base t v := hval0
  have hZ : ∀ n ∈ DataW.weightsEach Try.prog (Try.f4.params.toList ++ []) (ds ++ gs), n ≤ reachBytes := fun n hn => of_decide_eq_true (List.all_eq_true.1 hZ0 n hn)
  have hW' := hW
  obtain ⟨p, q, hA0, hV, rfl, hfz, hnd⟩ := hW
  have hA : DataW.TrodAll enc Try.prog W 0 (fun _ => true) true Try.f4.params.toList args.toList ds p := hA0
  rw [Try.params4] at hA hval hZ
  obtain ⟨v0, vs0, d0, ds0, p0, q0, hargs, rfl, rfl, h0, r0⟩ := trodAll_cons hA
  obtain ⟨v1, vs1, d1, ds1, p1, q1, rfl, rfl, rfl, h1, r1⟩ := trodAll_cons r0
  obtain ⟨rfl, rfl, rfl⟩ := trodAll_nil r1
  obtain rfl : args = #[v0, v1] := by cases args; simp_all
  obtain ⟨rfl, rfl⟩ := trodVars_none hV
  have k0 := h0
  obtain ⟨V0, W0, X0, B0, F0, rfl, pe0⟩ := ent_open (hval 0 23 v0 rfl rfl) h0
  have k1 := h1
  obtain ⟨V1, W1, X1, B1, F1, rfl, pe1⟩ := ent_open (hval 1 23 v1 rfl rfl) h1
  clear hA0 hval0 hZ0
  refine (walk V0 W0 X0 B0 F0 V1 W1 X1 B1 F1 W).mono fun e W' ⟨he, ho⟩ => ?_
  subst he
  have bel : Below W.heap.size W W' := ho
  exact ⟨_, rfl, _, _, _, [], _, [], hW', trodAll_mk1 (shut_bool Try.underlying4 _), (trodAll_cons_mk (Below.trod laidOut (by kernel_rfl) (of_decide_eq_true (by kernel_rfl)) k0 bel (by simp [pe0])) (trodAll_cons_mk (Below.trod laidOut (by kernel_rfl) (of_decide_eq_true (by kernel_rfl)) k1 bel (by simp [pe1])) trodAll_mk0)), rfl, bel.frame _, fun h => by cases h⟩
theorem over : Rows.entryBothRow.holds Try.pinned (OpenSpec.ofChange Rows.entryBothSpec) :=
  OpenClaim.holds_of_wide 4 Try.f4 rfl rfl rfl rfl rfl rfl rfl ⟨rfl, rfl, rfl, rfl, rfl⟩ rfl rfl rfl rfl rfl (by kernel_rfl) Try.func4 (by kernel_rfl)
    (of_decide_eq_true (by kernel_rfl)) (by unfold Func.isWrapper; first | (rw [if_pos (by decide +kernel)]; kernel_rfl) | (rw [if_neg (by decide +kernel)]; exact ⟨rfl, rfl⟩))
    (fun os started H enc _ => lifted os started H enc)
end entryBoth
/-- The statement. -/
theorem entryBoth_holds : Rows.EntryBothSaid := entryBoth.over
#print axioms entryBoth_holds
end Go.Proofs.Ytpmhphbfbcgfnaa
