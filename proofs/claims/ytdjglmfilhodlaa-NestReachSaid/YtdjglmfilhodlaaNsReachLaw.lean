/-
  NestReach: a translation without a fault comes to a frame that the monitor's table tells for the page, and that allows the access: for every input true, and the input reads as it did; no condition.
-/
import Derived.Test.YtdjglmfilhodlaaNsAlive
namespace Go.Proofs.Ytdjglmfilhodlaa
open Go.ChangeShapes Go.WideShapes Go.ChangeAt Go.RowKit Go.Deep
namespace Ns
open Ph En Wk
theorem look_at (m F n c : Nat) (z : Nat → Int) (root p : Int) (s : Seen) (w : World) (hM : Mem w m F n c z) (hs : lookS n z root p = s) :
    Calls Try.prog 19 #[.pointer (some ⟨m, 0, none⟩), .int .i64 root, .int .i64 p] w fun e w' => e = .returned (.tuple #[.agg #[.bool s.e.V, .bool s.e.W, .bool s.e.X, .bool s.e.B, .int .i64 s.e.F], .bool s.ok]) ∧ Below w.heap.size w w' := by
  subst hs
  exact look_any m F n c z root p w hM
end Ns
namespace nestReach
open Ph En Wk Ns
set_option maxRecDepth 100000 in
set_option maxHeartbeats 4000000 in
theorem walk (nf : Int) (pa : Option Addr) (len cap : Nat) (x : Puts) (root tb va acc : Int) (w : World) (hl : len ≤ maxLen) (hx : PutsIn w.heap.size w pa len x) (r0 : 0 ≤ root) (r1 : root < 4294967296) (v0 : 0 ≤ va) (v1 : va < 4294967296) :
    Calls Try.prog 4 #[.int .i64 nf, .slice pa len cap, .int .u32 root, .int .i64 tb, .int .u32 va, .int .i64 acc] w fun e w' => e = .returned (.bool true) ∧ Only [] w w' := by
  have HX := Lib.hid hx
  clear hx
  go_enter Try.func4, Try.ntmps4
  go_wp2_with fail
  refine (Ns.alive_any _).mono ?_
  rintro e w0 ⟨rfl, O0⟩
  go_wp2_with fail
  refine (Ns.great_any nf pa len cap w0 hl).mono ?_
  rintro e w' ⟨rfl, rfl⟩
  cases hg : Ns.gr nf len
  case true =>
    clear hg
    go_wp2
    go_ret
    exact ⟨rfl, O0⟩
  obtain ⟨g1, g2, h100⟩ := Ns.gr_false hg
  obtain ⟨n, rfl⟩ := Int.eq_ofNat_of_zero_le (show 0 ≤ nf by omega)
  have n1 : 1 ≤ n := by omega
  have n2 : n ≤ 100 := by omega
  clear hg g1 g2
  go_wp2_with fail
  refine (Wk.both_wide n pa len cap x w0 n1 n2 (by omega) ((HX.out.kept O0 (by simp)).mono O0.size)).mono ?_
  rintro e w1 ⟨m, F, c, r, G, rfl, hB, hO, hm, hF, hr, hG⟩
  have M1 := Lib.hid hB.mem
  have O1 := Lib.hid (O0.next hO (by simp))
  clear hB hO hm hF hr hG O0
  generalize zOf n x len = z at *
  go_wp2_with fail
  rcases reach n z root tb va acc with ⟨f, rr, hT, hk, hst, q0, q6⟩ | ⟨rr, P, FF, W, X, W', X', B', hT, q0, q1, q6, p0, p1, f0, f1, hS, ha, hW, hX, hw1, hx2⟩
  · obtain ⟨st, kd, ad, tbl⟩ := f
    simp only at hk hst
    refine (trans_at m F n c z root tb va acc _ w1 M1.out v0 v1 r0 r1 hT).mono ?_
    rintro e w2 ⟨rfl, b2⟩
    have ho := Only.of b2 []
    have ha := Only.alloc [] w2 (.cells #[.int .i64 st, .int .i64 kd, .int .u32 ad, .bool tbl, .int .i64 rr, .int .i64 0, .int .u32 0, .bool false, .bool false] 38)
    have O3 := Lib.hid ((O1.out.next ho (by simp)).next ha (by simp))
    clear M1 O1 ho ha b2 hT
    have dk : (kd != 0) = true := by simpa using hk
    have d6 : decide (rr ≤ 6) = true := by simpa using q6
    rcases hst with rfl | rfl
    all_goals
      clear hk
      go_wp2
      go_ret
      exact ⟨rfl, O3.out⟩
  · obtain ⟨A, hA⟩ : ∃ A, A = 256 * FF + va % 256 := ⟨_, rfl⟩
    have eA : A / 256 = FF := by omega
    have eB : A % 256 = va % 256 := by omega
    have A0 : 0 ≤ A := by omega
    rw [← hA] at hT
    clear hA
    refine (trans_at m F n c z root tb va acc _ w1 M1.out v0 v1 r0 r1 hT).mono ?_
    rintro e w2 ⟨rfl, b2⟩
    have ho := Only.of b2 []
    have hb := Only.alloc [] w2 (.cells #[.int .i64 0, .int .i64 0, .int .u32 0, .bool false, .int .i64 rr, .int .i64 P, .int .u32 A, .bool W, .bool X] 38)
    have M3 := Lib.hid ((M1.out.kept ho (by simp) (by simp)).kept hb (by simp) (by simp))
    have O3 := Lib.hid ((O1.out.next ho (by simp)).next hb (by simp))
    have N3 := Lib.hid (show Nine (w2.alloc (.cells #[.int .i64 0, .int .i64 0, .int .u32 0, .bool false, .int .i64 rr, .int .i64 P, .int .u32 A, .bool W, .bool X] 38)) w2.heap.size ⟨⟨0, 0, 0, false⟩, rr, P, A, W, X⟩ from nine_new w2 ⟨⟨0, 0, 0, false⟩, rr, P, A, W, X⟩ 38)
    clear M1 O1 ho hb b2 hT
    go_wp2_with fail
    generalize w2.alloc (.cells #[.int .i64 0, .int .i64 0, .int .u32 0, .bool false, .int .i64 rr, .int .i64 P, .int .u32 A, .bool W, .bool X] 38) = w3 at *
    generalize w2.heap.size = b3 at *
    have c5 := N3.out.c5
    go_wp2_with fail
    clear c5
    refine (look_at m F n c z tb P _ w3 M3.out hS).mono ?_
    rintro e w4 ⟨rfl, b4⟩
    have ho := Only.of b4 []
    have hb := Only.alloc [] w4 (.cells #[.bool true, .bool W', .bool X', .bool B', .int .i64 FF] 50)
    have O5 := Lib.hid ((O3.out.next ho (by simp)).next hb (by simp))
    have N5 := Lib.hid ((N3.out.keptS ho (by simp)).keptS hb (by simp))
    have E5 := Lib.hid (five_new w4 true W' X' B' FF 50)
    clear M3 O3 N3 ho hb b4 hS
    have c6 := N5.out.c6
    obtain ⟨e0, e1, e2, e3, e4⟩ := E5.out
    dsimp only at c6 ⊢
    go_wp2_with fail
    clear c6 e0 e1 e2 e3 e4
    generalize w4.alloc (.cells #[.bool true, .bool W', .bool X', .bool B', .int .i64 FF] 50) = w5 at *
    generalize w4.heap.size = b5 at *
    refine (allows_any true W' X' B' FF acc w5).mono ?_
    rintro e w6 ⟨rfl, b6⟩
    rw [ha]
    have ho := Only.of b6 []
    have O7 := Lib.hid (O5.out.next ho (by simp))
    obtain ⟨t0', t1, t2, t3, t4, t5, t6, t7, t8⟩ := N5.out.keptS ho (by simp)
    obtain ⟨e0, e1, e2, e3, e4⟩ := E5.out.keptS ho (by simp)
    dsimp only at t0' t1 t2 t3 t4 t5 t6 t7 t8
    have qf := fun w => eqFlt 0 0 0 false 9997 w
    have d1 : decide (1 ≤ rr) = true := by simpa using q1
    have d6 : decide (rr ≤ 6) = true := by simpa using q6
    clear O5 N5 E5 ho b6 HX ha
    by_cases a1 : acc = 1
    · obtain rfl := hw1 a1
      obtain rfl := hW rfl
      subst a1
      clear hW hw1 hx2
      cases X
      · go_wp2
        go_ret
        exact ⟨rfl, O7.out⟩
      · obtain rfl := hX rfl
        go_wp2
        go_ret
        exact ⟨rfl, O7.out⟩
    have x1 : (acc != 1) = true := by simpa using a1
    by_cases a2 : acc = 2
    · obtain rfl := hx2 a2
      obtain rfl := hX rfl
      subst a2
      clear hX hw1 hx2
      cases W
      · go_wp2
        go_ret
        exact ⟨rfl, O7.out⟩
      · obtain rfl := hW rfl
        go_wp2
        go_ret
        exact ⟨rfl, O7.out⟩
    have x2 : (acc != 2) = true := by simpa using a2
    clear hw1 hx2 a1 a2
    cases W
    · cases X
      · go_wp2
        go_ret
        exact ⟨rfl, O7.out⟩
      · obtain rfl := hX rfl
        go_wp2
        go_ret
        exact ⟨rfl, O7.out⟩
    · obtain rfl := hW rfl
      cases X
      · go_wp2
        go_ret
        exact ⟨rfl, O7.out⟩
      · obtain rfl := hX rfl
        go_wp2
        go_ret
        exact ⟨rfl, O7.out⟩
set_option maxRecDepth 100000 in
theorem lifted (os : Os) (started : os.Started) (H : Type) (enc : TypeId × Value → H) :
    ReturnsInHanded {} Try.checked os 4 .any (Rows.nestReachSpec.pre6 enc Try.prog Try.f4 Rows.nestReachRow.domain false) (Rows.nestReachSpec.post enc Try.prog Try.f4 false true false false) := by
  refine returnsInHanded_of_change_sized (C := Try.checked) own started (by kernel_rfl) Try.func4
    (ChangeSpec.witness6 (enc := enc) (C := Try.checked) false ⟨#[], #[.int .i64 0, .slice none 0 0, .int .u32 0, .int .i64 0, .int .u32 0, .int .i64 0], []⟩ 8 (by kernel_rfl) (by kernel_rfl) (by kernel_rfl) (by kernel_rfl)) ?_
  intro W base args ds gs before hval0 hW hcnd hZ0 _
  have hval : ∀ (j : Nat) t v, Try.f4.params[j]? = some t → args[j]? = some v → Value.okWide Try.prog W .any base t v := hval0
  have hZ : ∀ n ∈ DataW.weightsEach Try.prog (Try.f4.params.toList ++ []) (ds ++ gs), n ≤ reachBytes := fun n hn => of_decide_eq_true (List.all_eq_true.1 hZ0 n hn)
  have hW' := hW
  obtain ⟨p, q, hA0, hV, rfl, hfz, hnd⟩ := hW
  have hA : DataW.TrodAll enc Try.prog W 0 (fun _ => true) true Try.f4.params.toList args.toList ds p := hA0
  rw [Try.params4] at hA hval hZ
  obtain ⟨v0, vs0, d0, ds0, p0, q0, hargs, rfl, rfl, h0, r0⟩ := trodAll_cons hA
  obtain ⟨v1, vs1, d1, ds1, p1, q1, rfl, rfl, rfl, h1, r1⟩ := trodAll_cons r0
  obtain ⟨v2, vs2, d2, ds2, p2, q2, rfl, rfl, rfl, h2, r2⟩ := trodAll_cons r1
  obtain ⟨v3, vs3, d3, ds3, p3, q3, rfl, rfl, rfl, h3, r3⟩ := trodAll_cons r2
  obtain ⟨v4, vs4, d4, ds4, p4, q4, rfl, rfl, rfl, h4, r4⟩ := trodAll_cons r3
  obtain ⟨v5, vs5, d5, ds5, p5, q5, rfl, rfl, rfl, h5, r5⟩ := trodAll_cons r4
  obtain ⟨rfl, rfl, rfl⟩ := trodAll_nil r5
  obtain rfl : args = #[v0, v1, v2, v3, v4, v5] := by cases args; simp_all
  obtain ⟨rfl, rfl⟩ := trodVars_none hV
  obtain ⟨x0, rfl, rfl, rfl, w0⟩ := open_int Try.underlying3 (hval 0 3 v0 rfl rfl) h0
  have k1 := h1
  have hz1 : ∀ n ∈ d1.weights Try.prog 22, n ≤ reachBytes := fun n hn => hZ n (by simp only [List.append_nil, DataW.weightsEach, List.mem_append]; exact Or.inr (Or.inl hn))
  obtain ⟨a1, n1, c1, y1, rfl, m1, lt1, z1⟩ := puts_open (hval 1 22 v1 rfl rfl) h1 hz1
  obtain ⟨x2, rfl, rfl, rfl, w2⟩ := open_int Try.underlying23 (hval 2 23 v2 rfl rfl) h2
  obtain ⟨x3, rfl, rfl, rfl, w3⟩ := open_int Try.underlying3 (hval 3 3 v3 rfl rfl) h3
  obtain ⟨x4, rfl, rfl, rfl, w4⟩ := open_int Try.underlying23 (hval 4 23 v4 rfl rfl) h4
  obtain ⟨x5, rfl, rfl, rfl, w5⟩ := open_int Try.underlying3 (hval 5 3 v5 rfl rfl) h5
  clear hA0 hval0 hZ0
  refine (walk x0 a1 n1 c1 y1 x2 x3 x4 x5 W m1 z1 (bounds_u32 w2).1 (by have := (bounds_u32 w2).2; omega) (bounds_u32 w4).1 (by have := (bounds_u32 w4).2; omega)).mono fun e W' ⟨he, ho⟩ => ?_
  subst he
  have bel : Below W.heap.size W W' := ho.below (Nat.le_refl _) (by simp)
  exact ⟨_, rfl, _, _, _, [], _, [], hW', trodAll_mk1 (shut_bool Try.underlying4 _), (trodAll_cons_mk (shut_int Try.underlying3 w0) (trodAll_cons_mk (Below.trod laidOut (by kernel_rfl) (of_decide_eq_true (by kernel_rfl)) k1 bel lt1) (trodAll_cons_mk (shut_int Try.underlying23 w2) (trodAll_cons_mk (shut_int Try.underlying3 w3) (trodAll_cons_mk (shut_int Try.underlying23 w4) (trodAll_cons_mk (shut_int Try.underlying3 w5) trodAll_mk0)))))), rfl, bel.frame _, fun h => by cases h⟩
theorem over : Rows.nestReachRow.holds Try.pinned (OpenSpec.ofChange Rows.nestReachSpec) :=
  OpenClaim.holds_of_wide 4 Try.f4 rfl rfl rfl rfl rfl rfl rfl ⟨rfl, rfl, rfl, rfl, rfl⟩ rfl rfl rfl rfl rfl (by kernel_rfl) Try.func4 (by kernel_rfl)
    (of_decide_eq_true (by kernel_rfl)) (by unfold Func.isWrapper; first | (rw [if_pos (by decide +kernel)]; kernel_rfl) | (rw [if_neg (by decide +kernel)]; exact ⟨rfl, rfl⟩))
    (fun os started H enc _ => lifted os started H enc)
end nestReach
/-- The statement. -/
theorem nestReach_holds : Rows.NestReachSaid := nestReach.over
#print axioms nestReach_holds
end Go.Proofs.Ytdjglmfilhodlaa
