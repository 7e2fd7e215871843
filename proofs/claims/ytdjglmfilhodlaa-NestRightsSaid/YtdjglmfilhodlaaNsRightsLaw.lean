/-
  NestRights: where a translation for reading has no fault, one for writing has none just if Write is told, one for executing just if Exec is: for every input true, and the input reads as it did; no condition.
-/
import Derived.Test.YtdjglmfilhodlaaNsAlive
namespace Go.Proofs.Ytdjglmfilhodlaa
open Go.ChangeShapes Go.WideShapes Go.ChangeAt Go.RowKit Go.Deep
namespace nestRights
open Ph En Wk Ns
set_option maxRecDepth 100000 in
set_option maxHeartbeats 4000000 in
theorem walk (pa : Option Addr) (len cap : Nat) (x : Puts) (root va : Int) (w : World) (hl : len ≤ maxLen) (hx : PutsIn w.heap.size w pa len x) (r0 : 0 ≤ root) (r1 : root < 4294967296) (v0 : 0 ≤ va) (v1 : va < 4294967296) :
    Calls Try.prog 7 #[.slice pa len cap, .int .u32 root, .int .u32 va] w fun e w' => e = .returned (.bool true) ∧ Only [] w w' := by
  have HX := Lib.hid hx
  clear hx
  go_enter Try.func7, Try.ntmps7
  go_wp2_with fail
  refine (Ns.alive_any _).mono ?_
  rintro e w0 ⟨rfl, O0⟩
  go_wp2_with fail
  refine (Ns.great_any 30 pa len cap w0 hl).mono ?_
  rintro e w' ⟨rfl, rfl⟩
  cases hg : Ns.gr 30 len
  case true =>
    clear hg
    go_wp2
    go_ret
    exact ⟨rfl, O0⟩
  obtain ⟨_, _, h100⟩ := Ns.gr_false hg
  clear hg
  go_wp2_with fail
  refine (Ns.both_at 30 30 pa len cap x w0 rfl (by decide) (by decide) (by omega) ((HX.out.kept O0 (by simp)).mono O0.size)).mono ?_
  rintro e w1 ⟨m, F, c, r, G, rfl, hB, hO, hm, hF, hr, hG⟩
  have M1 := Lib.hid hB.mem
  have O1 := Lib.hid (O0.next hO (by simp))
  clear hB hO hm hF hr hG O0 HX
  generalize zOf 30 x len = z at *
  have HR := Lib.hid (rights 30 z root 0 va)
  obtain ⟨ta, hA⟩ : ∃ t, transS 30 z root 0 va 0 = t := ⟨_, rfl⟩
  obtain ⟨tb, hB⟩ : ∃ t, transS 30 z root 0 va 1 = t := ⟨_, rfl⟩
  obtain ⟨tc, hC⟩ : ∃ t, transS 30 z root 0 va 2 = t := ⟨_, rfl⟩
  rw [hA, hB, hC] at HR
  have JA := Lib.hid hA
  have JB := Lib.hid hB
  have JC := Lib.hid hC
  clear hA hB hC
  go_wp2_with fail
  refine (trans_at m F 30 c z root 0 va 0 _ w1 M1.out v0 v1 r0 r1 JA.out).mono ?_
  rintro e uw3 ⟨rfl, bx⟩
  have ho := Only.of bx []
  have ha := Only.alloc [] uw3 (.cells #[.int .i64 ta.f.st, .int .i64 ta.f.kd, .int .u32 ta.f.ad, .bool ta.f.tb, .int .i64 ta.r, .int .i64 ta.P, .int .u32 ta.A, .bool ta.W, .bool ta.X] 38)
  have HAn := Lib.hid (nine_new uw3 ta 38)
  have Mn := Lib.hid ((M1.out.kept ho (by simp) (by simp)).kept ha (by simp) (by simp))
  have On := Lib.hid ((O1.out.next ho (by simp)).next ha (by simp))
  clear M1 O1 ho ha bx 
  go_wp2_with fail
  generalize uw3.alloc (.cells #[.int .i64 ta.f.st, .int .i64 ta.f.kd, .int .u32 ta.f.ad, .bool ta.f.tb, .int .i64 ta.r, .int .i64 ta.P, .int .u32 ta.A, .bool ta.W, .bool ta.X] 38) = w3 at *
  generalize uw3.heap.size = bHA at *
  have HA := HAn
  have M1 := Mn
  have O1 := On
  clear Mn On HAn
  refine (trans_at m F 30 c z root 0 va 1 _ w3 M1.out v0 v1 r0 r1 JB.out).mono ?_
  rintro e uw5 ⟨rfl, bx⟩
  have ho := Only.of bx []
  have ha := Only.alloc [] uw5 (.cells #[.int .i64 tb.f.st, .int .i64 tb.f.kd, .int .u32 tb.f.ad, .bool tb.f.tb, .int .i64 tb.r, .int .i64 tb.P, .int .u32 tb.A, .bool tb.W, .bool tb.X] 38)
  have HAn := Lib.hid ((HA.out.keptS ho (by simp)).keptS ha (by simp))
  have HBn := Lib.hid (nine_new uw5 tb 38)
  have Mn := Lib.hid ((M1.out.kept ho (by simp) (by simp)).kept ha (by simp) (by simp))
  have On := Lib.hid ((O1.out.next ho (by simp)).next ha (by simp))
  clear M1 O1 ho ha bx HA
  go_wp2_with fail
  generalize uw5.alloc (.cells #[.int .i64 tb.f.st, .int .i64 tb.f.kd, .int .u32 tb.f.ad, .bool tb.f.tb, .int .i64 tb.r, .int .i64 tb.P, .int .u32 tb.A, .bool tb.W, .bool tb.X] 38) = w5 at *
  generalize uw5.heap.size = bHB at *
  have HA := HAn
  have HB := HBn
  have M1 := Mn
  have O1 := On
  clear Mn On HAn HBn
  refine (trans_at m F 30 c z root 0 va 2 _ w5 M1.out v0 v1 r0 r1 JC.out).mono ?_
  rintro e uw7 ⟨rfl, bx⟩
  have ho := Only.of bx []
  have ha := Only.alloc [] uw7 (.cells #[.int .i64 tc.f.st, .int .i64 tc.f.kd, .int .u32 tc.f.ad, .bool tc.f.tb, .int .i64 tc.r, .int .i64 tc.P, .int .u32 tc.A, .bool tc.W, .bool tc.X] 38)
  have HAn := Lib.hid ((HA.out.keptS ho (by simp)).keptS ha (by simp))
  have HBn := Lib.hid ((HB.out.keptS ho (by simp)).keptS ha (by simp))
  have HCn := Lib.hid (nine_new uw7 tc 38)
  have Mn := Lib.hid ((M1.out.kept ho (by simp) (by simp)).kept ha (by simp) (by simp))
  have On := Lib.hid ((O1.out.next ho (by simp)).next ha (by simp))
  clear M1 O1 ho ha bx HA HB
  have HA := HAn
  have HB := HBn
  have HC := HCn
  have M1 := Mn
  have O1 := On
  clear Mn On HAn HBn HCn
  clear JA JB JC
  rcases HR.out with ⟨⟨fa, ra, hA, ka⟩, ⟨fb, rb, hB, kb⟩, ⟨fc, rc, hC, kc⟩⟩ | ⟨r, P, A, W, X, g, h, s, t, hA, hg, hh, hB, hC⟩
  · subst hA hB hC
    have a1 := HA.out.c1
    have b1 := HB.out.c1
    have c1 := HC.out.c1
    dsimp only at a1 b1 c1 ⊢
    have da : (fa.kd != 0) = true := by simpa using ka
    have db : (fb.kd != 0) = true := by simpa using kb
    have dc : (fc.kd != 0) = true := by simpa using kc
    clear ka kb kc HA HB HC M1 HR
    go_wp2
    go_ret
    exact ⟨rfl, O1.out⟩
  · obtain ⟨gs, gk, ga, gt⟩ := g
    obtain ⟨hs, hk, ha, ht⟩ := h
    simp only at hg hh
    subst hg hh
    clear HR M1
    subst hA
    cases W <;> cases X
    all_goals
      simp only [if_true, Bool.false_eq_true, if_false] at hB hC
      subst hB hC
      have a1 := HA.out.c1
      have a7 := HA.out.c7
      have a8 := HA.out.c8
      have b1 := HB.out.c1
      have c1 := HC.out.c1
      dsimp only at a1 a7 a8 b1 c1 ⊢
      clear HA HB HC
    · go_wp2
      go_ret
      exact ⟨rfl, O1.out⟩
    · go_wp2
      go_ret
      exact ⟨rfl, O1.out⟩
    · go_wp2
      go_ret
      exact ⟨rfl, O1.out⟩
    · go_wp2
      go_ret
      exact ⟨rfl, O1.out⟩
set_option maxRecDepth 100000 in
theorem lifted (os : Os) (started : os.Started) (H : Type) (enc : TypeId × Value → H) :
    ReturnsInHanded {} Try.checked os 7 .any (Rows.nestRightsSpec.pre6 enc Try.prog Try.f7 Rows.nestRightsRow.domain false) (Rows.nestRightsSpec.post enc Try.prog Try.f7 false true false false) := by
  refine returnsInHanded_of_change_sized (C := Try.checked) own started (by kernel_rfl) Try.func7
    (ChangeSpec.witness6 (enc := enc) (C := Try.checked) false ⟨#[], #[.slice none 0 0, .int .u32 0, .int .u32 0], []⟩ 8 (by kernel_rfl) (by kernel_rfl) (by kernel_rfl) (by kernel_rfl)) ?_
  intro W base args ds gs before hval0 hW hcnd hZ0 _
  have hval : ∀ (j : Nat) t v, Try.f7.params[j]? = some t → args[j]? = some v → Value.okWide Try.prog W .any base t v := hval0
  have hZ : ∀ n ∈ DataW.weightsEach Try.prog (Try.f7.params.toList ++ []) (ds ++ gs), n ≤ reachBytes := fun n hn => of_decide_eq_true (List.all_eq_true.1 hZ0 n hn)
  have hW' := hW
  obtain ⟨p, q, hA0, hV, rfl, hfz, hnd⟩ := hW
  have hA : DataW.TrodAll enc Try.prog W 0 (fun _ => true) true Try.f7.params.toList args.toList ds p := hA0
  rw [Try.params7] at hA hval hZ
  obtain ⟨v0, vs0, d0, ds0, p0, q0, hargs, rfl, rfl, h0, r0⟩ := trodAll_cons hA
  obtain ⟨v1, vs1, d1, ds1, p1, q1, rfl, rfl, rfl, h1, r1⟩ := trodAll_cons r0
  obtain ⟨v2, vs2, d2, ds2, p2, q2, rfl, rfl, rfl, h2, r2⟩ := trodAll_cons r1
  obtain ⟨rfl, rfl, rfl⟩ := trodAll_nil r2
  obtain rfl : args = #[v0, v1, v2] := by cases args; simp_all
  obtain ⟨rfl, rfl⟩ := trodVars_none hV
  have k0 := h0
  have hz0 : ∀ n ∈ d0.weights Try.prog 22, n ≤ reachBytes := fun n hn => hZ n (by simp only [List.append_nil, DataW.weightsEach, List.mem_append]; exact Or.inl hn)
  obtain ⟨a0, n0, c0, y0, rfl, m0, lt0, z0⟩ := puts_open (hval 0 22 v0 rfl rfl) h0 hz0
  obtain ⟨x1, rfl, rfl, rfl, w1⟩ := open_int Try.underlying23 (hval 1 23 v1 rfl rfl) h1
  obtain ⟨x2, rfl, rfl, rfl, w2⟩ := open_int Try.underlying23 (hval 2 23 v2 rfl rfl) h2
  clear hA0 hval0 hZ0
  refine (walk a0 n0 c0 y0 x1 x2 W m0 z0 (bounds_u32 w1).1 (by have := (bounds_u32 w1).2; omega) (bounds_u32 w2).1 (by have := (bounds_u32 w2).2; omega)).mono fun e W' ⟨he, ho⟩ => ?_
  subst he
  have bel : Below W.heap.size W W' := ho.below (Nat.le_refl _) (by simp)
  exact ⟨_, rfl, _, _, _, [], _, [], hW', trodAll_mk1 (shut_bool Try.underlying4 _), (trodAll_cons_mk (Below.trod laidOut (by kernel_rfl) (of_decide_eq_true (by kernel_rfl)) k0 bel lt0) (trodAll_cons_mk (shut_int Try.underlying23 w1) (trodAll_cons_mk (shut_int Try.underlying23 w2) trodAll_mk0))), rfl, bel.frame _, fun h => by cases h⟩
theorem over : Rows.nestRightsRow.holds Try.pinned (OpenSpec.ofChange Rows.nestRightsSpec) :=
  OpenClaim.holds_of_wide 7 Try.f7 rfl rfl rfl rfl rfl rfl rfl ⟨rfl, rfl, rfl, rfl, rfl⟩ rfl rfl rfl rfl rfl (by kernel_rfl) Try.func7 (by kernel_rfl)
    (of_decide_eq_true (by kernel_rfl)) (by unfold Func.isWrapper; first | (rw [if_pos (by decide +kernel)]; kernel_rfl) | (rw [if_neg (by decide +kernel)]; exact ⟨rfl, rfl⟩))
    (fun os started H enc _ => lifted os started H enc)
end nestRights
/-- The statement. -/
theorem nestRights_holds : Rows.NestRightsSaid := nestRights.over
#print axioms nestRights_holds
end Go.Proofs.Ytdjglmfilhodlaa
