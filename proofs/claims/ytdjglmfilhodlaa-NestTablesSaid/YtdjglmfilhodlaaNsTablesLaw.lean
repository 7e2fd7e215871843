/-
  NestTables: a guest's translation hangs on its own bytes and the monitor's tables alone: for every input true, and the input reads as it did; no condition.
-/
import Derived.Test.YtdjglmfilhodlaaNsReached
namespace Go.Proofs.Ytdjglmfilhodlaa
open Go.ChangeShapes Go.WideShapes Go.ChangeAt Go.RowKit Go.Deep
namespace nestTables
open Ph En Wk Ns
set_option maxRecDepth 100000 in
set_option maxHeartbeats 4000000 in
theorem walk (nf : Int) (pa : Option Addr) (len cap : Nat) (x : Puts) (root va acc : Int) (pb : Option Addr) (lo cb : Nat) (y : Puts) (w : World) (hl : len ≤ maxLen) (hx : PutsIn w.heap.size w pa len x) (r0 : 0 ≤ root) (r1 : root < 4294967296) (v0 : 0 ≤ va) (v1 : va < 4294967296) (hlo : lo ≤ maxLen) (hy : PutsIn w.heap.size w pb lo y) :
    Calls Try.prog 5 #[.int .i64 nf, .slice pa len cap, .int .u32 root, .int .u32 va, .int .i64 acc, .slice pb lo cb] w fun e w' => e = .returned (.bool true) ∧ Only [] w w' := by
  have HX := Lib.hid hx
  have HY := Lib.hid hy
  unfold maxLen at hlo
  clear hx hy
  go_enter Try.func5, Try.ntmps5
  go_wp2_with fail
  refine (Ns.alive_any _).mono ?_
  rintro e w0 ⟨rfl, O0⟩
  go_wp2_with fail
  refine (Ns.great_any nf pa len cap w0 hl).mono ?_
  rintro e w' ⟨rfl, rfl⟩
  cases hg : Ns.gr nf len
  case true =>
    clear hg
    go_wp2
    go_ret
    exact ⟨rfl, O0⟩
  obtain ⟨g1, g2, h100⟩ := Ns.gr_false hg
  obtain ⟨n, rfl⟩ := Int.eq_ofNat_of_zero_le (show 0 ≤ nf by omega)
  have n1 : 1 ≤ n := by omega
  have n2 : n ≤ 100 := by omega
  clear hg g1 g2
  by_cases b1 : 60 < lo
  · have d1 : decide ((60 : Int) < (lo : Int)) = true := by simp; omega
    go_wp2
    go_ret
    exact ⟨rfl, O0⟩
  have d1 : decide ((60 : Int) < (lo : Int)) = false := by simp; omega
  have lo60 : lo ≤ 60 := by omega
  clear b1
  have s0 := O0.size
  go_wp2_with fail
  refine (Wk.both_wide n pa len cap x w0 n1 n2 (by omega) ((HX.out.kept O0 (by simp)).mono O0.size)).mono ?_
  rintro e w1 ⟨m, F, c, r, G, rfl, hB, hO, hm, hF, hr, hG⟩
  have M1 := Lib.hid hB.mem
  have O1 := Lib.hid (O0.next hO (by simp))
  have lF := hB.mem.row.lt
  have F0 : w.heap.size ≤ F := by omega
  clear hB hO hm hF hr hG O0 s0 HX d1
  generalize zOf n x len = z at *
  go_wp2_with fail
  refine (reached_any m F n c z w1 M1.out n1 n2).mono ?_
  rintro e w2 ⟨ub, U, rfl, hU, hub, hO, hU0, hP1, hP2⟩
  have M2 := Lib.hid (M1.out.kept hO (by simp) (by simp))
  have O2 := Lib.hid (O1.out.next hO (by simp))
  have U2 := Lib.hid hU
  have U0 := Lib.hid hU0
  have P1 := Lib.hid hP1
  have P2 := Lib.hid hP2
  have nub : ub ≠ F := by omega
  have l2 := hO.size
  clear hU hO hU0 hP1 hP2 M1 O1 hub
  obtain ⟨t, hT⟩ : ∃ t, transS n z root 0 va acc = t := ⟨_, rfl⟩
  have JT := Lib.hid hT
  clear hT
  go_wp2_with fail
  refine (trans_at m F n c z root 0 va acc t w2 M2.out v0 v1 r0 r1 JT.out).mono ?_
  rintro e w3 ⟨rfl, b3⟩
  have ho := Only.of b3 []
  have ha := Only.alloc [] w3 (.cells #[.int .i64 t.f.st, .int .i64 t.f.kd, .int .u32 t.f.ad, .bool t.f.tb, .int .i64 t.r, .int .i64 t.P, .int .u32 t.A, .bool t.W, .bool t.X] 38)
  have M4 := Lib.hid ((M2.out.kept ho (by simp) (by simp)).kept ha (by simp) (by simp))
  have O4 := Lib.hid ((O2.out.next ho (by simp)).next ha (by simp))
  have U4 := Lib.hid ((U2.out.kept ho (by simp)).kept ha (by simp))
  have N4 := Lib.hid (nine_new w3 t 38)
  have nA : w3.heap.size ≠ F := by have := ho.size; omega
  clear M2 O2 U2 ho ha b3
  go_wp2_with fail
  generalize w3.alloc (.cells #[.int .i64 t.f.st, .int .i64 t.f.kd, .int .u32 t.f.ad, .bool t.f.tb, .int .i64 t.r, .int .i64 t.P, .int .u32 t.A, .bool t.W, .bool t.X] 38) = w4 at *
  generalize w3.heap.size = bA at *
  go_loopw [17] (fun i wr => ∃ (k : Nat) (zk : Nat → Int), k ≤ lo ∧ i = .int .i64 k ∧ Mem wr m F n c zk ∧ Bools wr ub n U ∧ Nine wr bA t ∧ Only [] w wr ∧ ∀ q : Nat, (q < n → U q = true) → Ag z zk q) (fun i _ => lo - (intOf i).toNat)
  case atStart => exact ⟨0, z, by omega, rfl, M4.out, U4.out, N4.out, O4.out, fun q _ => Ag.refl z q⟩
  case round =>
    obtain ⟨k, zk, hk, rfl, hM, hU, hN, hO, hA⟩ := hrel
    have MH := Lib.hid hM
    have UH := Lib.hid hU
    have NH := Lib.hid hN
    have OH := Lib.hid hO
    have AH := Lib.hid hA
    clear hM hU hN hO hA M4 U4 N4 O4
    by_cases hlt : k < lo
    · obtain ⟨b, off, epa, hbB, hcc⟩ := HY.out (by omega)
      subst epa
      have ck := (hcc k hlt).kept OH.out (by simp)
      have c0 := ck.c0
      have c1 := ck.c1
      have ad0 := ck.ad
      have w0' := ck.v0
      have w1' := ck.v1
      have hki : (k : Int) < lo := by omega
      obtain ⟨Q, hQ⟩ : ∃ Q : Nat, Q = y.ad k / 256 := ⟨_, rfl⟩
      have eQ : (y.ad k : Int) / 256 = (Q : Int) := by omega
      have HQ := Lib.hid hQ
      clear hcc ck hQ
      by_cases hq : Q < n
      · have dq : decide ((Q : Int) < (n : Int)) = true := by simpa using hq
        have cu := UH.out.cell Q hq
        cases hUQ : U Q
        · rw [hUQ] at cu
          have AN := Lib.hid (show ∀ q : Nat, (q < n → U q = true) → Ag z (pw n zk (y.ad k) (y.vl k)) q from fun q h => (AH.out q h).put n _ _ (fun e => by
            have e2 : Q = q := by rw [HQ.out]; exact e
            subst e2
            have := h hq
            rw [hUQ] at this
            cases this))
          have CT : Hid (∀ w', w'.cell? ⟨b, off + k * 2, none⟩ = some (.int .u32 (y.ad k)) ∧ w'.cell? ⟨b, off + k * 2 + 1, none⟩ = some (.int .u32 (y.vl k)) ∧ Mem w' m F n c zk ∧ Bools w' ub n U ∧ Nine w' bA t ∧ Only [] w w' →
              Calls Try.prog 22 #[.pointer (some ⟨m, 0, none⟩), .int .u32 (y.ad k), .int .u32 (y.vl k)] w' fun e w'' => e = .returned (.bool (hwA n (y.ad k))) ∧ Mem w'' m F n c (pw n zk (y.ad k) (y.vl k)) ∧ Bools w'' ub n U ∧ Nine w'' bA t ∧ Only [] w w'') := Lib.hid fun w' h => by
            refine (putWord_any m F n c (y.ad k) zk (y.vl k) w' h.2.2.1 ad0 w0' w1').mono ?_
            rintro e w'' ⟨rfl, hM, hO⟩
            exact ⟨rfl, hM, h.2.2.2.1.kept hO (by simpa using nub), h.2.2.2.2.1.keptS hO (by simpa using nA), h.2.2.2.2.2.next hO (by simp; omega)⟩
          have H0 := Lib.hid (show wr.drew.cell? ⟨b, off + k * 2, none⟩ = some (.int .u32 (y.ad k)) ∧ wr.drew.cell? ⟨b, off + k * 2 + 1, none⟩ = some (.int .u32 (y.vl k)) ∧ Mem wr.drew m F n c zk ∧ Bools wr.drew ub n U ∧ Nine wr.drew bA t ∧ Only [] w wr.drew from
            ⟨c0, c1, MH.out.kept (Only.drewN [] wr 1) (by simp) (by simp), UH.out.kept (Only.drewN [] wr 1) (by simp), NH.out.keptS (Only.drewN [] wr 1) (by simp), OH.out.next (Only.drewN [] wr 1) (by simp)⟩)
          clear hUQ MH UH NH OH AH ad0 w0' w1'
          go_wp2_with fail
          refine seal_tail (S := fun w' => w'.cell? ⟨b, off + k * 2, none⟩ = some (.int .u32 (y.ad k)) ∧ w'.cell? ⟨b, off + k * 2 + 1, none⟩ = some (.int .u32 (y.vl k)) ∧ Mem w' m F n c zk ∧ Bools w' ub n U ∧ Nine w' bA t ∧ Only [] w w') 11 (by kernel_rfl) (by kernel_rfl) H0.out ?_
          intro w8 h8
          have e0 := h8.1
          have e1 := h8.2.1
          have H8 := Lib.hid h8
          clear c0 c1 cu H0 h8
          simp only [List.take_succ_cons, List.take_zero, List.drop_succ_cons, List.drop_zero]
          iterate 11 (refine seal_next (fun K hK => ?_); go_simp; refine hK _ ?_; clear hK K)
          refine seal_nil ?_
          go_wp2_with (go_at_call 22; refine (CT.out w8 H8.out).mono ?_; rintro e w9 ⟨rfl, M9, U9, N9, O9⟩)
          go_roundw
          case rel => exact ⟨k + 1, _, by omega, by go_num, M9, U9, N9, O9, AN.out⟩
          case measure => simp [intOf]; omega
        · rw [hUQ] at cu
          clear hUQ
          go_wp2
          go_roundw
          case rel => exact ⟨k + 1, zk, by omega, by go_num, MH.out, UH.out, NH.out, OH.out, AH.out⟩
          case measure => simp [intOf]; omega
      · have dq : decide ((Q : Int) < (n : Int)) = false := by simp; omega
        go_wp2
        go_roundw
        case rel => exact ⟨k + 1, zk, by omega, by go_num, MH.out, UH.out, NH.out, OH.out, AH.out⟩
        case measure => simp [intOf]; omega
    · have TS : transS n zk root 0 va acc = t := by
        rw [← JT.out]
        refine trans_same (AH.out 0 (fun _ => U0.out)) (fun i i0 i1 hV hB q hq => ?_) (fun p p0 p1 hok q hq => ?_)
        · obtain ⟨i, rfl⟩ := Int.eq_ofNat_of_zero_le i0
          exact AH.out q (fun hqn => P1.out i (by omega) hV hB q hqn hq)
        · obtain ⟨p, rfl⟩ := Int.eq_ofNat_of_zero_le p0
          exact AH.out q (fun _ => P2.out p (by omega) hok q hq)
      have DT : Hid (∀ d os, Calls Try.prog 13 #[.pointer (some ⟨m, 0, none⟩), .int .u32 root, .int .i64 0, .int .u32 va, .int .i64 acc] (Go.Sort.grow (redrawn wr d) os) fun e w' => e = .returned (.agg #[.int .i64 t.f.st, .int .i64 t.f.kd, .int .u32 t.f.ad, .bool t.f.tb, .int .i64 t.r, .int .i64 t.P, .int .u32 t.A, .bool t.W, .bool t.X]) ∧ Below (Go.Sort.grow (redrawn wr d) os).heap.size (Go.Sort.grow (redrawn wr d) os) w') := Lib.hid fun d os =>
        trans_at m F n c zk root 0 va acc t (Go.Sort.grow (redrawn wr d) os) (MH.out.kept (Only.of (below_regrown wr d os) []) (by simp) (by simp)) v0 v1 r0 r1 TS
      obtain ⟨c0, c1, c2, c3, c4, c5, c6, c7, c8⟩ := NH.out
      have q := fun w => eqTold t w
      simp only [Tld.val] at q
      clear TS MH AH UH NH
      go_wp2_with fail
      have r0 := cell_regrown c0
      have r1 := cell_regrown c1
      have r2 := cell_regrown c2
      have r3 := cell_regrown c3
      have r4 := cell_regrown c4
      have r5 := cell_regrown c5
      have r6 := cell_regrown c6
      have r7 := cell_regrown c7
      have r8 := cell_regrown c8
      refine wp_region_quiet_below (by kernel_rfl) (by kernel_rfl) ?_
      repeat (quiet_step (first | (go_at_call 13; exact Calls.regrown_of (DT.out _ _))))
      refine wpQuiet_nil ?_
      intro _ hw'
      obtain ⟨⟨dq, osq⟩, hw''⟩ := hw'
      subst hw''
      have O8 := Lib.hid (OH.out.next (Only.of (below_regrown wr dq osq) []) (by simp))
      clear r0 r1 r2 r3 r4 r5 r6 r7 r8 c0 c1 c2 c3 c4 c5 c6 c7 c8 q OH
      go_wp2
      go_ret
      exact ⟨rfl, O8.out⟩
set_option maxRecDepth 100000 in
theorem lifted (os : Os) (started : os.Started) (H : Type) (enc : TypeId × Value → H) :
    ReturnsInHanded {} Try.checked os 5 .any (Rows.nestTablesSpec.pre6 enc Try.prog Try.f5 Rows.nestTablesRow.domain false) (Rows.nestTablesSpec.post enc Try.prog Try.f5 false true false false) := by
  refine returnsInHanded_of_change_sized (C := Try.checked) own started (by kernel_rfl) Try.func5
    (ChangeSpec.witness6 (enc := enc) (C := Try.checked) false ⟨#[], #[.int .i64 0, .slice none 0 0, .int .u32 0, .int .u32 0, .int .i64 0, .slice none 0 0], []⟩ 8 (by kernel_rfl) (by kernel_rfl) (by kernel_rfl) (by kernel_rfl)) ?_
  intro W base args ds gs before hval0 hW hcnd hZ0 _
  have hval : ∀ (j : Nat) t v, Try.f5.params[j]? = some t → args[j]? = some v → Value.okWide Try.prog W .any base t v := hval0
  have hZ : ∀ n ∈ DataW.weightsEach Try.prog (Try.f5.params.toList ++ []) (ds ++ gs), n ≤ reachBytes := fun n hn => of_decide_eq_true (List.all_eq_true.1 hZ0 n hn)
  have hW' := hW
  obtain ⟨p, q, hA0, hV, rfl, hfz, hnd⟩ := hW
  have hA : DataW.TrodAll enc Try.prog W 0 (fun _ => true) true Try.f5.params.toList args.toList ds p := hA0
  rw [Try.params5] at hA hval hZ
  obtain ⟨v0, vs0, d0, ds0, p0, q0, hargs, rfl, rfl, h0, r0⟩ := trodAll_cons hA
  obtain ⟨v1, vs1, d1, ds1, p1, q1, rfl, rfl, rfl, h1, r1⟩ := trodAll_cons r0
  obtain ⟨v2, vs2, d2, ds2, p2, q2, rfl, rfl, rfl, h2, r2⟩ := trodAll_cons r1
  obtain ⟨v3, vs3, d3, ds3, p3, q3, rfl, rfl, rfl, h3, r3⟩ := trodAll_cons r2
  obtain ⟨v4, vs4, d4, ds4, p4, q4, rfl, rfl, rfl, h4, r4⟩ := trodAll_cons r3
  obtain ⟨v5, vs5, d5, ds5, p5, q5, rfl, rfl, rfl, h5, r5⟩ := trodAll_cons r4
  obtain ⟨rfl, rfl, rfl⟩ := trodAll_nil r5
  obtain rfl : args = #[v0, v1, v2, v3, v4, v5] := by cases args; simp_all
  obtain ⟨rfl, rfl⟩ := trodVars_none hV
  obtain ⟨x0, rfl, rfl, rfl, w0⟩ := open_int Try.underlying3 (hval 0 3 v0 rfl rfl) h0
  have k1 := h1
  have hz1 : ∀ n ∈ d1.weights Try.prog 22, n ≤ reachBytes := fun n hn => hZ n (by simp only [List.append_nil, DataW.weightsEach, List.mem_append]; exact Or.inr (Or.inl hn))
  obtain ⟨a1, n1, c1, y1, rfl, m1, lt1, z1⟩ := puts_open (hval 1 22 v1 rfl rfl) h1 hz1
  obtain ⟨x2, rfl, rfl, rfl, w2⟩ := open_int Try.underlying23 (hval 2 23 v2 rfl rfl) h2
  obtain ⟨x3, rfl, rfl, rfl, w3⟩ := open_int Try.underlying23 (hval 3 23 v3 rfl rfl) h3
  obtain ⟨x4, rfl, rfl, rfl, w4⟩ := open_int Try.underlying3 (hval 4 3 v4 rfl rfl) h4
  have k5 := h5
  have hz5 : ∀ n ∈ d5.weights Try.prog 22, n ≤ reachBytes := fun n hn => hZ n (by simp only [List.append_nil, DataW.weightsEach, List.mem_append]; exact Or.inr (Or.inr (Or.inr (Or.inr (Or.inr (hn))))))
  obtain ⟨a5, n5, c5, y5, rfl, m5, lt5, z5⟩ := puts_open (hval 5 22 v5 rfl rfl) h5 hz5
  clear hA0 hval0 hZ0
  refine (walk x0 a1 n1 c1 y1 x2 x3 x4 a5 n5 c5 y5 W m1 z1 (bounds_u32 w2).1 (by have := (bounds_u32 w2).2; omega) (bounds_u32 w3).1 (by have := (bounds_u32 w3).2; omega) m5 z5).mono fun e W' ⟨he, ho⟩ => ?_
  subst he
  have bel : Below W.heap.size W W' := ho.below (Nat.le_refl _) (by simp)
  exact ⟨_, rfl, _, _, _, [], _, [], hW', trodAll_mk1 (shut_bool Try.underlying4 _), (trodAll_cons_mk (shut_int Try.underlying3 w0) (trodAll_cons_mk (Below.trod laidOut (by kernel_rfl) (of_decide_eq_true (by kernel_rfl)) k1 bel lt1) (trodAll_cons_mk (shut_int Try.underlying23 w2) (trodAll_cons_mk (shut_int Try.underlying23 w3) (trodAll_cons_mk (shut_int Try.underlying3 w4) (trodAll_cons_mk (Below.trod laidOut (by kernel_rfl) (of_decide_eq_true (by kernel_rfl)) k5 bel lt5) trodAll_mk0)))))), rfl, bel.frame _, fun h => by cases h⟩
theorem over : Rows.nestTablesRow.holds Try.pinned (OpenSpec.ofChange Rows.nestTablesSpec) :=
  OpenClaim.holds_of_wide 5 Try.f5 rfl rfl rfl rfl rfl rfl rfl ⟨rfl, rfl, rfl, rfl, rfl⟩ rfl rfl rfl rfl rfl (by kernel_rfl) Try.func5 (by kernel_rfl)
    (of_decide_eq_true (by kernel_rfl)) (by unfold Func.isWrapper; first | (rw [if_pos (by decide +kernel)]; kernel_rfl) | (rw [if_neg (by decide +kernel)]; exact ⟨rfl, rfl⟩))
    (fun os started H enc _ => lifted os started H enc)
end nestTables
/-- The statement. -/
theorem nestTables_holds : Rows.NestTablesSaid := nestTables.over
#print axioms nestTables_holds
end Go.Proofs.Ytdjglmfilhodlaa
