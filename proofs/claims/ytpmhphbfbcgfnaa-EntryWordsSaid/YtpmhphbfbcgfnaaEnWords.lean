/-
  EntryWords: every Encode, Decode and Allows answers what the document says, and what has a word comes back from it: for every input true, and the input reads as it did; no condition.
-/
import Derived.Test.YtpmhphbfbcgfnaaEnOpen
namespace Go.Proofs.Ytpmhphbfbcgfnaa
open Go.ChangeShapes Go.WideShapes Go.ChangeAt Go.RowKit Go.Deep Go.Joins Nt
open En
namespace entryWords
/-- What a good entry's word tells. -/
theorem back (V W X B : Bool) (F : Int) (h : gd V W X B F = true) : (V && W) = W ∧ (V && X) = X ∧ (V && B) = B ∧ eF V F = F ∧ encN V W X B F = lw V W X B F := by
  have e : encN V W X B F = lw V W X B F := by unfold encN; rw [h]; rfl
  have := gd_eq V W X B F
  rw [h] at this
  simp only [Bool.and_eq_true, beq_iff_eq] at this
  obtain ⟨⟨⟨⟨_, a⟩, b⟩, c⟩, d⟩ := this
  exact ⟨a, b, c, d, e⟩
/-- The entry of a word has a word. -/
theorem good (v : Int) (h0 : 0 ≤ v) (h1 : v < 4294967296) : gd (dV v) (dW v) (dX v) (dB v) (dF v) = true := by
  by_cases h : v % 2 = 1
  · have d : dV v = true := by unfold dV; simpa using h
    have f : dF v = v / 256 % 65536 := by unfold dF; rw [if_pos h]
    unfold gd; rw [d, f]; simp; omega
  · have e : (v % 2 == 1) = false := by simpa using h
    unfold dV dW dX dB dF
    rw [e, if_neg h]
    rfl
set_option maxHeartbeats 1000000 in
theorem walk (V W X B : Bool) (F : Int) (v acc : Int) (w : World) (h0 : 0 ≤ v) (h1 : v < 4294967296) :
    Calls Try.prog 3 #[.agg #[.bool V, .bool W, .bool X, .bool B, .int .i64 F], .int .u32 v, .int .i64 acc] w fun e w' => e = .returned (.bool true) ∧ Below w.heap.size w w' := by
  have G := good v h0 h1
  obtain ⟨dv, hdv⟩ : ∃ d, d = dV v := ⟨_, rfl⟩
  obtain ⟨dw, hdw⟩ : ∃ d, d = dW v := ⟨_, rfl⟩
  obtain ⟨dx, hdx⟩ : ∃ d, d = dX v := ⟨_, rfl⟩
  obtain ⟨db, hdb⟩ : ∃ d, d = dB v := ⟨_, rfl⟩
  obtain ⟨df, hdf⟩ : ∃ d, d = dF v := ⟨_, rfl⟩
  have CD := Lib.hid (fun w => decode_any v w h0 h1)
  have CR := Lib.hid (fun w => rdecode_any v w h0 h1)
  rw [← hdv, ← hdw, ← hdx, ← hdb, ← hdf] at CD CR G
  clear hdv hdw hdx hdb hdf
  obtain ⟨en, hen⟩ : ∃ n, n = encN V W X B F := ⟨_, rfl⟩
  obtain ⟨eg, heg⟩ : ∃ n, n = gd V W X B F := ⟨_, rfl⟩
  have CE := Lib.hid (fun w => encode_any V W X B F w)
  have CF := Lib.hid (fun w => renc_any V W X B F w)
  rw [← hen, ← heg] at CE CF
  have CK := Lib.hid (fun (hg : eg = true) w => by
    have := decode_lw V W X B F w
    obtain ⟨a, b, c, d, e⟩ := back V W X B F (heg ▸ hg)
    rw [a, b, c, d, ← e, ← hen] at this
    exact this)
  obtain ⟨dn, hdn⟩ : ∃ n, n = encN dv dw dx db df := ⟨_, rfl⟩
  have CG := Lib.hid (fun w => encode_any dv dw dx db df w)
  rw [G, ← hdn] at CG
  have CL := Lib.hid (fun w => by
    have := decode_lw dv dw dx db df w
    obtain ⟨a, b, c, d, e⟩ := back dv dw dx db df G
    rw [a, b, c, d, ← e, ← hdn] at this
    exact this)
  obtain ⟨al, hal⟩ : ∃ n, n = alw V W X acc := ⟨_, rfl⟩
  have CA := Lib.hid (fun w => allows_any V W X B F acc w)
  have CB := Lib.hid (fun w => rallows_any V W X B F acc w)
  rw [← hal] at CA CB
  have q1 : ∀ w, (Op.equalIn 10000 29 (.agg #[.bool dv, .bool dw, .bool dx, .bool db, .int .i64 df]) (.agg #[.bool dv, .bool dw, .bool dx, .bool db, .int .i64 df])).run Try.prog w = .ok true w := fun w => by rw [eqRef]; simp
  have q2 : ∀ w, (Op.equalIn 10000 23 (.agg #[.bool dv, .bool dw, .bool dx, .bool db, .int .i64 df]) (.agg #[.bool dv, .bool dw, .bool dx, .bool db, .int .i64 df])).run Try.prog w = .ok true w := fun w => by rw [eqEnt]; simp
  have q3 : ∀ w, (Op.equalIn 10000 23 (.agg #[.bool V, .bool W, .bool X, .bool B, .int .i64 F]) (.agg #[.bool V, .bool W, .bool X, .bool B, .int .i64 F])).run Try.prog w = .ok true w := fun w => by rw [eqEnt]; simp
  clear hen heg hdn hal G h0 h1
  have F0 := Lib.hid (five_new w V W X B F 23)
  have B0 := Lib.hid ((Below.refl w.heap.size w).alloc (Nat.le_refl _) (.cells #[.bool V, .bool W, .bool X, .bool B, .int .i64 F] 23))
  go_enter Try.func3, Try.ntmps3
  go_wp2_with fail
  generalize w.alloc (.cells #[.bool V, .bool W, .bool X, .bool B, .int .i64 F] 23) = w0 at *
  refine (alive_any _).mono ?_
  rintro e w1 ⟨rfl, b1⟩
  have F1 := Lib.hid (F0.out.kept' b1)
  have B1 := Lib.hid (B0.out.trans (b1.mono B0.out.size))
  obtain ⟨c0, c1, c2, c3, c4⟩ := F1.out
  clear b1 F0 B0
  go_wp2_with fail
  refine (CE.out _).mono ?_
  rintro e w2 ⟨rfl, b2⟩
  have F2 := Lib.hid (F1.out.kept' b2)
  have B2 := Lib.hid (B1.out.trans (b2.mono B1.out.size))
  clear b2 F1 B1 c0 c1 c2 c3 c4
  obtain ⟨c0, c1, c2, c3, c4⟩ := F2.out
  go_wp2_with fail
  refine (of_any V W X B F _).mono ?_
  rintro e w3 ⟨rfl, b3⟩
  have F3 := Lib.hid (F2.out.kept' b3)
  have B3 := Lib.hid (B2.out.trans (b3.mono B2.out.size))
  clear b3 F2 B2 c0 c1 c2 c3 c4
  go_wp2_with fail
  refine (CF.out _).mono ?_
  rintro e w4 ⟨rfl, b4⟩
  have F4 := Lib.hid (F3.out.kept' b4)
  have B4 := Lib.hid (B3.out.trans (b4.mono B3.out.size))
  clear b4 F3 B3
  go_wp2_with fail
  refine (CD.out _).mono ?_
  rintro e w5 ⟨rfl, b5⟩
  have F5 := Lib.hid (F4.out.kept' b5)
  have B5 := Lib.hid (B4.out.trans (b5.mono B4.out.size))
  clear b5 F4 B4
  go_wp2_with fail
  have G6 := Lib.hid (five_new w5 dv dw dx db df 23)
  have F6 := Lib.hid (F5.out.kept' ((Below.refl w5.heap.size w5).alloc (Nat.le_refl _) (.cells #[.bool dv, .bool dw, .bool dx, .bool db, .int .i64 df] 23)))
  have B6 := Lib.hid (B5.out.alloc B5.out.size (.cells #[.bool dv, .bool dw, .bool dx, .bool db, .int .i64 df] 23))
  clear F5 B5
  generalize w5.heap.size = g at *
  generalize w5.alloc (.cells #[.bool dv, .bool dw, .bool dx, .bool db, .int .i64 df] 23) = w6 at *
  obtain ⟨c0, c1, c2, c3, c4⟩ := F6.out
  obtain ⟨g0, g1, g2, g3, g4⟩ := G6.out
  have kc0 := cell_regrown c0
  have kc1 := cell_regrown c1
  have kc2 := cell_regrown c2
  have kc3 := cell_regrown c3
  have kc4 := cell_regrown c4
  have kg0 := cell_regrown g0
  have kg1 := cell_regrown g1
  have kg2 := cell_regrown g2
  have kg3 := cell_regrown g3
  have kg4 := cell_regrown g4
  clear c0 c1 c2 c3 c4 g0 g1 g2 g3 g4
  refine wp_region_quiet_below (by kernel_rfl) (by kernel_rfl) ?_
  repeat (quiet_step (first
    | (go_at_call 10; exact Calls.regrown_of (of_any _ _ _ _ _ _))
    | (go_at_call 12; exact Calls.regrown_of (CR.out _))
    | (go_at_call 13; exact Calls.regrown_of (CA.out _))
    | (go_at_call 14; exact Calls.regrown_of (CB.out _))))
  refine wpQuiet_nil ?_
  intro _ hw'
  obtain ⟨⟨dq, osq⟩, hw''⟩ := hw'
  subst hw''
  have hb7 := below_regrown w6 dq osq
  have F7 := Lib.hid (F6.out.kept' hb7)
  have G7 := Lib.hid (G6.out.kept' hb7)
  have B7 := Lib.hid (B6.out.trans (hb7.mono B6.out.size))
  clear kc0 kc1 kc2 kc3 kc4 kg0 kg1 kg2 kg3 kg4 F6 G6 B6 hb7
  generalize Go.Sort.grow (redrawn w6 _) _ = w7 at *
  obtain ⟨g0, g1, g2, g3, g4⟩ := G7.out
  go_wp2_with fail
  refine (CG.out _).mono ?_
  rintro e w8 ⟨rfl, b8⟩
  have F8 := Lib.hid (F7.out.kept' b8)
  have G8 := Lib.hid (G7.out.kept' b8)
  have B8 := Lib.hid (B7.out.trans (b8.mono B7.out.size))
  clear b8 F7 G7 B7 g0 g1 g2 g3 g4
  cases eg
  all_goals
    obtain ⟨c0, c1, c2, c3, c4⟩ := F8.out
    obtain ⟨g0, g1, g2, g3, g4⟩ := G8.out
    have kc0 := cell_regrown c0
    have kc1 := cell_regrown c1
    have kc2 := cell_regrown c2
    have kc3 := cell_regrown c3
    have kc4 := cell_regrown c4
    have kg0 := cell_regrown g0
    have kg1 := cell_regrown g1
    have kg2 := cell_regrown g2
    have kg3 := cell_regrown g3
    have kg4 := cell_regrown g4
    clear c0 c1 c2 c3 c4 g0 g1 g2 g3 g4
    go_wp2_with fail
    refine wp_region_quiet_below (by kernel_rfl) (by kernel_rfl) ?_
    repeat (quiet_step (first
      | (go_at_call 11; with_reducible exact Calls.regrown_of (CL.out _))
      | (go_at_call 11; with_reducible exact Calls.regrown_of (CK.out trivial _))))
    refine wpQuiet_nil ?_
    intro _ hw'
    obtain ⟨⟨dq, osq⟩, hw''⟩ := hw'
    subst hw''
    have B9 := Lib.hid (B8.out.trans ((below_regrown w8 dq osq).mono B8.out.size))
    clear kc0 kc1 kc2 kc3 kc4 kg0 kg1 kg2 kg3 kg4 F8 G8 B8
    go_wp2
    go_ret
    exact ⟨rfl, B9.out⟩
set_option maxRecDepth 100000 in
theorem lifted (os : Os) (started : os.Started) (H : Type) (enc : TypeId × Value → H) :
    ReturnsInHanded {} Try.checked os 3 .any (Rows.entryWordsSpec.pre6 enc Try.prog Try.f3 Rows.entryWordsRow.domain false) (Rows.entryWordsSpec.post enc Try.prog Try.f3 false true false false) := by
  refine returnsInHanded_of_change_sized (C := Try.checked) own started (by kernel_rfl) Try.func3
    (ChangeSpec.witness6 (enc := enc) (C := Try.checked) false ⟨#[], #[.agg #[.bool false, .bool false, .bool false, .bool false, .int .i64 0], .int .u32 0, .int .i64 0], []⟩ 8 (by kernel_rfl) (by kernel_rfl) (by kernel_rfl) (by kernel_rfl)) ?_
  intro W base args ds gs before hval0 hW hcnd hZ0 _
  have hval : ∀ (j : Nat) t v, Try.f3.params[j]? = some t → args[j]? = some v → Value.okWide Try.prog W .any base t v := hval0
  have hZ : ∀ n ∈ DataW.weightsEach Try.prog (Try.f3.params.toList ++ []) (ds ++ gs), n ≤ reachBytes := fun n hn => of_decide_eq_true (List.all_eq_true.1 hZ0 n hn)
  have hW' := hW
  obtain ⟨p, q, hA0, hV, rfl, hfz, hnd⟩ := hW
  have hA : DataW.TrodAll enc Try.prog W 0 (fun _ => true) true Try.f3.params.toList args.toList ds p := hA0
  rw [Try.params3] at hA hval hZ
  obtain ⟨v0, vs0, d0, ds0, p0, q0, hargs, rfl, rfl, h0, r0⟩ := trodAll_cons hA
  obtain ⟨v1, vs1, d1, ds1, p1, q1, rfl, rfl, rfl, h1, r1⟩ := trodAll_cons r0
  obtain ⟨v2, vs2, d2, ds2, p2, q2, rfl, rfl, rfl, h2, r2⟩ := trodAll_cons r1
  obtain ⟨rfl, rfl, rfl⟩ := trodAll_nil r2
  obtain rfl : args = #[v0, v1, v2] := by cases args; simp_all
  obtain ⟨rfl, rfl⟩ := trodVars_none hV
  have k0 := h0
  obtain ⟨V0, W0, X0, B0, F0, rfl, pe0⟩ := ent_open (hval 0 23 v0 rfl rfl) h0
  obtain ⟨x1, rfl, rfl, rfl, w1⟩ := open_int Try.underlying24 (hval 1 24 v1 rfl rfl) h1
  obtain ⟨x2, rfl, rfl, rfl, w2⟩ := open_int Try.underlying3 (hval 2 3 v2 rfl rfl) h2
  clear hA0 hval0 hZ0
  refine (walk V0 W0 X0 B0 F0 x1 x2 W (bounds_u32 w1).1 (by have := (bounds_u32 w1).2; omega)).mono fun e W' ⟨he, ho⟩ => ?_
  subst he
  have bel : Below W.heap.size W W' := ho
  exact ⟨_, rfl, _, _, _, [], _, [], hW', trodAll_mk1 (shut_bool Try.underlying4 _), (trodAll_cons_mk (Below.trod laidOut (by kernel_rfl) (of_decide_eq_true (by kernel_rfl)) k0 bel (by simp [pe0])) (trodAll_cons_mk (shut_int Try.underlying24 w1) (trodAll_cons_mk (shut_int Try.underlying3 w2) trodAll_mk0))), rfl, bel.frame _, fun h => by cases h⟩
theorem over : Rows.entryWordsRow.holds Try.pinned (OpenSpec.ofChange Rows.entryWordsSpec) :=
  OpenClaim.holds_of_wide 3 Try.f3 rfl rfl rfl rfl rfl rfl rfl ⟨rfl, rfl, rfl, rfl, rfl⟩ rfl rfl rfl rfl rfl (by kernel_rfl) Try.func3 (by kernel_rfl)
    (of_decide_eq_true (by kernel_rfl)) (by unfold Func.isWrapper; first | (rw [if_pos (by decide +kernel)]; kernel_rfl) | (rw [if_neg (by decide +kernel)]; exact ⟨rfl, rfl⟩))
    (fun os started H enc _ => lifted os started H enc)
end entryWords
/-- The statement. -/
theorem entryWords_holds : Rows.EntryWordsSaid := entryWords.over
#print axioms entryWords_holds
end Go.Proofs.Ytpmhphbfbcgfnaa
