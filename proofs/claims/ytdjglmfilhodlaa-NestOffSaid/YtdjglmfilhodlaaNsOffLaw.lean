/-
  NestOff: without a root a translation is a walk of the table that is handed in; with one, each address of a page comes to one frame, by as many reads: for every input true, and the input reads as it did; no condition.
-/
import Derived.Test.YtdjglmfilhodlaaNsAlive
namespace Go.Proofs.Ytdjglmfilhodlaa
open Go.ChangeShapes Go.WideShapes Go.ChangeAt Go.RowKit Go.Deep
namespace Ns
open Ph En Wk
theorem mask_bits (a : Int) (a0 : 0 ≤ a) (a1 : a < 4294967296) : bits .andNot .u32 a 255 = a / 256 * 256 := by
  obtain ⟨A, rfl⟩ := Int.eq_ofNat_of_zero_le a0
  have h := u32_andNot_nat A 255 (by omega) (by decide)
  rw [show ((255 : Nat) : Int) = 255 from rfl] at h
  rw [h, show 4294967295 - 255 = 4294967040 from rfl, mask_page A (by omega)]
  omega
theorem walk_h (m F n c : Nat) (z : Nat → Int) (root a acc : Int) (h : Hit) (w : World) (hM : Mem w m F n c z) (h0 : 0 ≤ a) (h1 : a < 4294967296) (hh : walkS n z root a acc = h) :
    Calls Try.prog 23 #[.pointer (some ⟨m, 0, none⟩), .int .i64 root, .int .u32 a, .int .i64 acc] w fun e w' => e = .returned (.agg #[.int .i64 h.f, .int .i64 h.r, .int .i64 h.F, .bool h.W, .bool h.X, .bool h.B]) ∧ Below w.heap.size w w' := by
  subst hh
  exact walk_any m F n c z root a acc w hM h0 h1
end Ns
namespace nestOff
open Ph En Wk Ns
set_option maxRecDepth 100000 in
set_option maxHeartbeats 4000000 in
theorem walk (pa : Option Addr) (len cap : Nat) (x : Puts) (va acc : Int) (w : World) (hl : len ≤ maxLen) (hx : PutsIn w.heap.size w pa len x) (v0 : 0 ≤ va) (v1 : va < 4294967296) :
    Calls Try.prog 6 #[.slice pa len cap, .int .u32 va, .int .i64 acc] w fun e w' => e = .returned (.bool true) ∧ Only [] w w' := by
  have HX := Lib.hid hx
  clear hx
  go_enter Try.func6, Try.ntmps6
  go_wp2_with fail
  refine (Ns.alive_any _).mono ?_
  rintro e w0 ⟨rfl, O0⟩
  go_wp2_with fail
  refine (Ns.great_any 30 pa len cap w0 hl).mono ?_
  rintro e w' ⟨rfl, rfl⟩
  cases hg : Ns.gr 30 len
  case true =>
    clear hg
    go_wp2
    go_ret
    exact ⟨rfl, O0⟩
  obtain ⟨_, _, h100⟩ := Ns.gr_false hg
  clear hg
  by_cases hv : 1048576 ≤ va
  · have d : decide (1048576 ≤ va) = true := by simpa using hv
    go_wp2
    go_ret
    exact ⟨rfl, O0⟩
  have d : decide (1048576 ≤ va) = false := by simp; omega
  have vv : va < 1048576 := by omega
  clear hv
  go_wp2_with fail
  refine (Ns.both_at 30 30 pa len cap x w0 rfl (by decide) (by decide) (by omega) ((HX.out.kept O0 (by simp)).mono O0.size)).mono ?_
  rintro e w1 ⟨m, F, c, r, G, rfl, hB, hO, hm, hF, hr, hG⟩
  have M1 := Lib.hid hB.mem
  have O1 := Lib.hid (O0.next hO (by simp))
  clear hB hO hm hF hr hG O0 HX
  generalize zOf 30 x len = z at *
  obtain ⟨h, hW⟩ : ∃ h, walkS 30 z 0 va acc = h := ⟨_, rfl⟩
  obtain ⟨t, hT⟩ : ∃ t, transS 30 z 0 0 va acc = t := ⟨_, rfl⟩
  have hO := off (n := 30) (z := z) (tb := 0) (va := va) (acc := acc) v0 vv hW
  rw [hT] at hO
  have hF : h.f = 0 → 0 ≤ h.F ∧ h.F < 30 := fun k => by have := walkS_F (n := 30) (z := z) (root := 0) (a := va) (acc := acc) (by rw [hW]; exact k); rw [hW] at this; exact this
  have HO := Lib.hid hO
  have HF := Lib.hid hF
  have JW := Lib.hid hW
  have JT := Lib.hid hT
  have HP := Lib.hid (same_page 30 z 512 0 va (va / 256 * 256) acc (by omega) vv)
  obtain ⟨ta, hA⟩ : ∃ t, transS 30 z 512 0 va acc = t := ⟨_, rfl⟩
  obtain ⟨tb, hB⟩ : ∃ t, transS 30 z 512 0 (va / 256 * 256) acc = t := ⟨_, rfl⟩
  rw [hA, hB] at HP
  have JA := Lib.hid hA
  have JB := Lib.hid hB
  have MB := Lib.hid (mask_bits va v0 v1)
  clear hW hT hO hF hA hB d h100
  go_wp2_with fail
  refine (walk_h m F 30 c z 0 va acc h w1 M1.out v0 v1 JW.out).mono ?_
  rintro e u3 ⟨rfl, bx⟩
  have ho := Only.of bx []
  have ha := Only.alloc [] u3 (.cells #[.int .i64 h.f, .int .i64 h.r, .int .i64 h.F, .bool h.W, .bool h.X, .bool h.B] 62)
  have HS := Lib.hid (six_new u3 h.f h.r h.F h.W h.X h.B 62)
  have Mn := Lib.hid ((M1.out.kept ho (by simp) (by simp)).kept ha (by simp) (by simp))
  have On := Lib.hid ((O1.out.next ho (by simp)).next ha (by simp))
  clear M1 O1 ho ha bx JW
  go_wp2_with fail
  generalize u3.alloc (.cells #[.int .i64 h.f, .int .i64 h.r, .int .i64 h.F, .bool h.W, .bool h.X, .bool h.B] 62) = w3 at *
  generalize u3.heap.size = bS at *
  refine (trans_at m F 30 c z 0 0 va acc _ w3 Mn.out v0 v1 (by decide) (by decide) JT.out).mono ?_
  rintro e u5 ⟨rfl, bx⟩
  have ho := Only.of bx []
  have ha := Only.alloc [] u5 (.cells #[.int .i64 t.f.st, .int .i64 t.f.kd, .int .u32 t.f.ad, .bool t.f.tb, .int .i64 t.r, .int .i64 t.P, .int .u32 t.A, .bool t.W, .bool t.X] 38)
  have HS5 := Lib.hid ((HS.out.keptS ho (by simp)).keptS ha (by simp))
  have HT5 := Lib.hid (nine_new u5 t 38)
  have M1 := Lib.hid ((Mn.out.kept ho (by simp) (by simp)).kept ha (by simp) (by simp))
  have O1 := Lib.hid ((On.out.next ho (by simp)).next ha (by simp))
  clear Mn On HS ho ha bx JT
  obtain ⟨hf, hr, hF, hW, hX, hB⟩ := h
  obtain ⟨s0, s1, s2, s3, s4, s5⟩ := HS5.out
  dsimp only at s0 s1 s2 s3 s4 s5
  have eO := HO.out
  dsimp only at eO
  by_cases hk : hf = 0
  subst hk
  rw [if_pos rfl] at eO
  subst eO
  obtain ⟨F0, F1⟩ := HF.out rfl
  dsimp only at F0 F1 ⊢
  have z1 : IntKind.i64.wrap (256 * hF) = 256 * hF := IntWalk.i64_in _ (by omega)
  have z2 : IntKind.u32.wrap (256 * hF) = 256 * hF := IntWalk.u32_in _ (by omega)
  have z3 : IntKind.u32.wrap (256 * hF + va % 256) = 256 * hF + va % 256 := IntWalk.u32_in _ (by omega)
  clear HS5 HT5 HO HF
  focus go_wp2_with fail
  clear s0 s1 s2 s3 s4 s5 z1 z2 z3 F0 F1
  rotate_left
  rw [if_neg hk] at eO
  subst eO
  have dk : (hf == 0) = false := by simpa using hk
  have dk' : (hf != 0) = true := by simpa using hk
  clear HS5 HT5 HO HF
  focus go_wp2_with fail
  clear s0 s1 s2 s3 s4 s5 dk dk' hk
  all_goals
    refine (trans_at m F 30 c z 512 0 va acc _ _ M1.out v0 v1 (by decide) (by decide) JA.out).mono ?_
    rintro e uw7 ⟨rfl, bx⟩
    have ho := Only.of bx []
    have ha := Only.alloc [] uw7 (.cells #[.int .i64 ta.f.st, .int .i64 ta.f.kd, .int .u32 ta.f.ad, .bool ta.f.tb, .int .i64 ta.r, .int .i64 ta.P, .int .u32 ta.A, .bool ta.W, .bool ta.X] 38)
    have HAn := Lib.hid (nine_new uw7 ta 38)
    have Mn := Lib.hid ((M1.out.kept ho (by simp) (by simp)).kept ha (by simp) (by simp))
    have On := Lib.hid ((O1.out.next ho (by simp)).next ha (by simp))
    clear M1 O1 ho ha bx 
    go_wp2_with fail
    generalize uw7.alloc (.cells #[.int .i64 ta.f.st, .int .i64 ta.f.kd, .int .u32 ta.f.ad, .bool ta.f.tb, .int .i64 ta.r, .int .i64 ta.P, .int .u32 ta.A, .bool ta.W, .bool ta.X] 38) = w7 at *
    generalize uw7.heap.size = bHA at *
    have HA := HAn
    have M1 := Mn
    have O1 := On
    clear Mn On HAn
    rw [MB.out]
    refine (trans_at m F 30 c z 512 0 (va / 256 * 256) acc _ _ M1.out (by omega) (by omega) (by decide) (by decide) JB.out).mono ?_
    rintro e uw9 ⟨rfl, bx⟩
    have ho := Only.of bx []
    have ha := Only.alloc [] uw9 (.cells #[.int .i64 tb.f.st, .int .i64 tb.f.kd, .int .u32 tb.f.ad, .bool tb.f.tb, .int .i64 tb.r, .int .i64 tb.P, .int .u32 tb.A, .bool tb.W, .bool tb.X] 38)
    have HAn := Lib.hid ((HA.out.keptS ho (by simp)).keptS ha (by simp))
    have HBn := Lib.hid (nine_new uw9 tb 38)
    have Mn := Lib.hid ((M1.out.kept ho (by simp) (by simp)).kept ha (by simp) (by simp))
    have On := Lib.hid ((O1.out.next ho (by simp)).next ha (by simp))
    clear M1 O1 ho ha bx HA
    have HA := HAn
    have HB := HBn
    have M1 := Mn
    have O1 := On
    clear Mn On HAn HBn
    clear JA JB MB
    rcases HP.out with ⟨f, f', rr, eA, eB, ek, es, ez⟩ | ⟨rr, P, A, W, X, eA, eB, A0, A1⟩
    · obtain ⟨st, kd, ad, tbl⟩ := f
      obtain ⟨st', kd', ad', tbl'⟩ := f'
      dsimp only at ek es ez
      subst ek es eA eB
      have dz : (kd != 0) = true := by simpa using ez
      obtain ⟨a0, a1, _, _, a4, a5, _, _, _⟩ := HA.out
      dsimp only at a0 a1 a4 a5 ⊢
      clear HA HB HP M1
      go_wp2
      go_ret
      exact ⟨rfl, O1.out⟩
    · rw [show A + va / 256 * 256 % 256 = A by omega] at eB
      subst eA eB
      have zz : IntKind.u32.wrap (A + va % 256) = A + va % 256 := IntWalk.u32_in _ (by omega)
      obtain ⟨a0, a1, _, _, a4, a5, a6, _, _⟩ := HA.out
      dsimp only at a0 a1 a4 a5 a6 ⊢
      clear HA HB HP M1
      go_wp2
      go_ret
      exact ⟨rfl, O1.out⟩
set_option maxRecDepth 100000 in
theorem lifted (os : Os) (started : os.Started) (H : Type) (enc : TypeId × Value → H) :
    ReturnsInHanded {} Try.checked os 6 .any (Rows.nestOffSpec.pre6 enc Try.prog Try.f6 Rows.nestOffRow.domain false) (Rows.nestOffSpec.post enc Try.prog Try.f6 false true false false) := by
  refine returnsInHanded_of_change_sized (C := Try.checked) own started (by kernel_rfl) Try.func6
    (ChangeSpec.witness6 (enc := enc) (C := Try.checked) false ⟨#[], #[.slice none 0 0, .int .u32 0, .int .i64 0], []⟩ 8 (by kernel_rfl) (by kernel_rfl) (by kernel_rfl) (by kernel_rfl)) ?_
  intro W base args ds gs before hval0 hW hcnd hZ0 _
  have hval : ∀ (j : Nat) t v, Try.f6.params[j]? = some t → args[j]? = some v → Value.okWide Try.prog W .any base t v := hval0
  have hZ : ∀ n ∈ DataW.weightsEach Try.prog (Try.f6.params.toList ++ []) (ds ++ gs), n ≤ reachBytes := fun n hn => of_decide_eq_true (List.all_eq_true.1 hZ0 n hn)
  have hW' := hW
  obtain ⟨p, q, hA0, hV, rfl, hfz, hnd⟩ := hW
  have hA : DataW.TrodAll enc Try.prog W 0 (fun _ => true) true Try.f6.params.toList args.toList ds p := hA0
  rw [Try.params6] at hA hval hZ
  obtain ⟨v0, vs0, d0, ds0, p0, q0, hargs, rfl, rfl, h0, r0⟩ := trodAll_cons hA
  obtain ⟨v1, vs1, d1, ds1, p1, q1, rfl, rfl, rfl, h1, r1⟩ := trodAll_cons r0
  obtain ⟨v2, vs2, d2, ds2, p2, q2, rfl, rfl, rfl, h2, r2⟩ := trodAll_cons r1
  obtain ⟨rfl, rfl, rfl⟩ := trodAll_nil r2
  obtain rfl : args = #[v0, v1, v2] := by cases args; simp_all
  obtain ⟨rfl, rfl⟩ := trodVars_none hV
  have k0 := h0
  have hz0 : ∀ n ∈ d0.weights Try.prog 22, n ≤ reachBytes := fun n hn => hZ n (by simp only [List.append_nil, DataW.weightsEach, List.mem_append]; exact Or.inl hn)
  obtain ⟨a0, n0, c0, y0, rfl, m0, lt0, z0⟩ := puts_open (hval 0 22 v0 rfl rfl) h0 hz0
  obtain ⟨x1, rfl, rfl, rfl, w1⟩ := open_int Try.underlying23 (hval 1 23 v1 rfl rfl) h1
  obtain ⟨x2, rfl, rfl, rfl, w2⟩ := open_int Try.underlying3 (hval 2 3 v2 rfl rfl) h2
  clear hA0 hval0 hZ0
  refine (walk a0 n0 c0 y0 x1 x2 W m0 z0 (bounds_u32 w1).1 (by have := (bounds_u32 w1).2; omega)).mono fun e W' ⟨he, ho⟩ => ?_
  subst he
  have bel : Below W.heap.size W W' := ho.below (Nat.le_refl _) (by simp)
  exact ⟨_, rfl, _, _, _, [], _, [], hW', trodAll_mk1 (shut_bool Try.underlying4 _), (trodAll_cons_mk (Below.trod laidOut (by kernel_rfl) (of_decide_eq_true (by kernel_rfl)) k0 bel lt0) (trodAll_cons_mk (shut_int Try.underlying23 w1) (trodAll_cons_mk (shut_int Try.underlying3 w2) trodAll_mk0))), rfl, bel.frame _, fun h => by cases h⟩
theorem over : Rows.nestOffRow.holds Try.pinned (OpenSpec.ofChange Rows.nestOffSpec) :=
  OpenClaim.holds_of_wide 6 Try.f6 rfl rfl rfl rfl rfl rfl rfl ⟨rfl, rfl, rfl, rfl, rfl⟩ rfl rfl rfl rfl rfl (by kernel_rfl) Try.func6 (by kernel_rfl)
    (of_decide_eq_true (by kernel_rfl)) (by unfold Func.isWrapper; first | (rw [if_pos (by decide +kernel)]; kernel_rfl) | (rw [if_neg (by decide +kernel)]; exact ⟨rfl, rfl⟩))
    (fun os started H enc _ => lifted os started H enc)
end nestOff
/-- The statement. -/
theorem nestOff_holds : Rows.NestOffSaid := nestOff.over
#print axioms nestOff_holds
end Go.Proofs.Ytdjglmfilhodlaa
