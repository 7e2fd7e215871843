/-
  PhysCalls: every row of calls is answered as the document says, and every question: for every input true, and the input reads as it did; no condition.
-/
import Derived.Test.YtpnpcmclpmldmaaPhFills
namespace Go.Proofs.Ytpnpcmclpmldmaa
open Go.ChangeShapes Go.WideShapes Go.ChangeAt Go.RowKit Go.Deep
namespace physCalls
open Ph
set_option maxRecDepth 100000 in
set_option maxHeartbeats 1000000 in
theorem walk (nf : Int) (pc : Option Addr) (len cap : Nat) (x : Cs) (ad : Nat) (nn : Int) (w : World) (hl : len ≤ maxLen) (hc : Ph.CallsIn w.heap.size w pc len x) (ha : ad < 4294967296) :
    Calls Try.prog 3 #[.int .i64 nf, .slice pc len cap, .int .u32 ad, .int .i64 nn] w fun e w' => e = .returned (.bool true) ∧ Only [] w w' := by
  have HC := Lib.hid hc
  clear hc
  go_enter Try.func3, Try.ntmps3
  go_wp2_with (go_at_call 8; refine (alive_any _).mono ?_; rintro e w0 ⟨rfl, O0⟩)
  refine (great_any w.heap.size pc len cap x w0 (HC.out.kept O0 (by simp)) hl).mono ?_
  rintro e w' ⟨g, rfl, rfl, hg⟩
  cases g
  case true =>
    go_wp2
    go_ret
    exact ⟨rfl, O0⟩
  case false =>
    obtain ⟨h60, h30⟩ := hg rfl
    have H30 := Lib.hid h30
    clear hg h30
    by_cases b1 : nf < 1
    · have d1 : decide (nf < 1) = true := by simpa using b1
      have d2 : decide (40 < nf) = false := by simp; omega
      go_wp2_with (go_at_call 10; refine (new_no nf _ (.inl b1)).mono ?_; rintro e w' ⟨rfl, rfl⟩)
      go_ret
      exact ⟨rfl, O0⟩
    have d1 : decide (nf < 1) = false := by simpa using b1
    by_cases b2 : 40 < nf
    · have d2 : decide (40 < nf) = true := by simpa using b2
      by_cases b3 : nf ≤ 1024
      · have d3 : decide (nf ≤ 1024) = true := by simpa using b3
        go_wp2
        go_ret
        exact ⟨rfl, O0⟩
      · have d3 : decide (nf ≤ 1024) = false := by simpa using b3
        have d4 : decide (1024 < nf) = true := by simp; omega
        go_wp2_with (go_at_call 10; refine (new_no nf _ (.inr (by omega))).mono ?_; rintro e w' ⟨rfl, rfl⟩)
        go_ret
        exact ⟨rfl, O0⟩
    have d2 : decide (40 < nf) = false := by simpa using b2
    have d3 : decide (1024 < nf) = false := by simp; omega
    obtain ⟨n, rfl⟩ := Int.eq_ofNat_of_zero_le (show 0 ≤ nf by omega)
    have h1 : 1 ≤ n := by omega
    have h2 : n ≤ 40 := by omega
    clear b1 b2
    go_wp2_with fail
    refine (new_any n w0 h1 (by omega)).mono ?_
    rintro e w1 ⟨m, F, c, rfl, hM, hO, hm, hF⟩
    have M1 := Lib.hid hM
    have O1 := Lib.hid (O0.next hO (by simp))
    have s0 := O0.size
    clear hM hO O0
    have nx : ((n : Int) != (n : Int)) = false := by simp
    go_wp2_with (go_at_call 11; refine (frames_any m F n c _ M1.out.head).mono ?_; rintro e w' ⟨rfl, rfl⟩)
    refine (rnew_any n w1 h1 h2).mono ?_
    rintro e w2 ⟨r, G, rfl, hM, hO, hr, hG⟩
    have l1 := M1.out.lt
    have l2 := M1.out.row.lt
    have B2 : Hid (Both w2 m F n c r G (fun _ => 0)) := ⟨M1.out.kept hO (by simp) (by simp), hM, by omega, by omega, by omega, by omega⟩
    have O2 := Lib.hid (O1.out.next hO (by simp))
    have l3 := O1.out.size
    clear hM hO M1 O1 nx
    go_wp2_with fail
    go_loopw [12] (fun i wr => ∃ k : Nat, k ≤ len ∧ i = .int .i64 k ∧ (∃ z, Both wr m F n c r G z) ∧ Only [] w wr) (fun i _ => len - (intOf i).toNat)
    case atStart => exact ⟨0, by omega, rfl, ⟨_, B2.out⟩, O2.out⟩
    case round =>
      obtain ⟨k, hk, rfl, ⟨z, hB⟩, hO⟩ := hrel
      have BH := Lib.hid hB
      have OH := Lib.hid hO
      clear hB hO B2 O2
      by_cases hlt : k < len
      · obtain ⟨b, off, epa, hbB, hcc⟩ := HC.out.kept OH.out (by simp) (by omega)
        subst epa
        have ck := hcc k hlt
        have c0 := ck.c0
        have c1 := ck.c1
        have c2 := ck.c2
        have c3 := ck.c3
        have c4 := ck.c4
        have CK := Lib.hid (ck.is (H30.out k hlt))
        clear hcc ck
        go_wp2_with (go_at_call 13; refine (told_any m F n c r G w.heap.size z (x.y k) (x.wh k) (x.nn k) (x.ad k) (x.vl k) (x.pa k) (x.l k) (x.cb k) _ BH.out (by omega) (by omega) CK.out).mono ?_; rintro e w3 ⟨rfl, ⟨z', hB3⟩, hO3⟩; have B3 := Lib.hid hB3; have O3 := Lib.hid (OH.out.next hO3 (by simp; omega)); clear hB3 hO3 c0 c1 c2 c3 c4 CK BH OH)
        refine (byte_any m F n c ad z' w3 B3.out.mem ha).mono ?_
        rintro e w' ⟨rfl, rfl⟩
        go_wp2_with fail
        refine (rbyte_any r G n ad z' w3 B3.out.ref ha).mono ?_
        rintro e w' ⟨rfl, rfl⟩
        go_wp2_with fail
        refine (word_any m F n c ad z' w3 B3.out.mem ha).mono ?_
        rintro e w' ⟨rfl, t1, rfl⟩
        have B4 := Lib.hid (B3.out.kept (Only.drewN [] w3 t1) (by simp) (by simp) (by simp) (by simp))
        have O4 := Lib.hid (O3.out.next (Only.drewN [] w3 t1) (by simp))
        clear B3 O3
        generalize w3.drewN t1 = w4 at *
        go_wp2_with fail
        refine (rword_any r G n ad z' w4 B4.out.ref ha).mono ?_
        rintro e w' ⟨rfl, rfl⟩
        have q1 : (rd n z' ad != rd n z' ad) = false := by simp
        have q2 : (inB n ad != inB n ad) = false := by simp
        have q3 : (rdw n z' ad != rdw n z' ad) = false := by simp
        have q4 : (hwA n ad != hwA n ad) = false := by simp
        go_wp2
        go_roundw
        case rel => exact ⟨k + 1, by omega, by go_num, ⟨z', B4.out⟩, O4.out⟩
        case measure => simp [intOf]; omega
      · go_wp2_with fail
        clear hlt
        obtain ⟨wz, hwz⟩ : ∃ wz, wz = wr := ⟨_, rfl⟩
        subst hwz
        go_loopw [21] (fun i wq => ∃ k : Nat, k ≤ n ∧ i = .int .i64 k ∧ Only [] wz wq) (fun i _ => n - (intOf i).toNat)
        case atStart => exact ⟨0, by omega, rfl, Only.refl _ _⟩
        case round =>
          obtain ⟨q, hq, rfl, hO⟩ := hrel
          have BQ := Lib.hid (BH.out.kept hO (by simp) (by simp) (by simp) (by simp))
          have OQ := Lib.hid hO
          have rh := BQ.out.ref.head
          clear hO
          by_cases hql : q < n
          · go_wp2_with fail
            refine (frame_yes m F n c q z _ BQ.out.mem hql).mono ?_
            rintro e w5 ⟨g, cg, rfl, hR, hO, hgg⟩
            have R5 := Lib.hid hR
            have B5 := Lib.hid (BQ.out.kept hO (by simp) (by simp) (by simp) (by simp))
            have O5 := Lib.hid (OQ.out.trans hO)
            have rh5 := B5.out.ref.head
            have es : eqN 256 (fun j => z (256 * q + j)) (fun j => z (256 * q + j)) = true := eqN_yes (fun _ _ => rfl)
            have b1 : 256 * (q : Int) + 256 ≤ 256 * (n : Int) := by omega
            clear hR hO BQ OQ rh
            go_wp2_with (go_at_call 19; refine (same_any g 0 G (256 * q) 256 cg _ _ _ _ (by decide) (fun j hj => by rw [Nat.zero_add]; exact R5.out.cell j hj) (fun j hj => B5.out.ref.row.cell _ (by omega))).mono ?_; rintro e w' ⟨rfl, t2, rfl⟩; rw [es])
            go_roundw
            case rel => exact ⟨q + 1, by omega, by go_num, O5.out.trans (Only.drewN [] _ t2)⟩
            case measure => simp [intOf]; omega
          · have OA := Lib.hid (OH.out.next OQ.out (by simp))
            by_cases hn : 0 ≤ nn ∧ nn < n
            · obtain ⟨j, rfl⟩ := Int.eq_ofNat_of_zero_le hn.1
              have hj : j < n := by omega
              have t1 : decide ((0 : Int) ≤ (j : Int)) = true := by simp
              have t2 : decide ((j : Int) < (n : Int)) = true := by simp; omega
              clear hn
              go_wp2_with (go_at_call 18; refine (frame_yes m F n c j z _ BQ.out.mem hj).mono ?_; rintro e w5 ⟨g, cg, rfl, hR, hO, hgg⟩; have O5 := Lib.hid (OA.out.next hO (by simp)); clear hR hO)
              go_ret
              exact ⟨rfl, O5.out⟩
            · by_cases h0 : 0 ≤ nn
              · have t1 : decide (0 ≤ nn) = true := by simpa using h0
                have t2 : decide (nn < (n : Int)) = false := by simp; omega
                go_wp2_with (go_at_call 18; refine (frame_no m F n c z nn _ BQ.out.mem hn).mono ?_; rintro e w5 ⟨rfl, rfl⟩)
                go_ret
                exact ⟨rfl, OA.out⟩
              · have t1 : decide (0 ≤ nn) = false := by simpa using h0
                go_wp2_with (go_at_call 18; refine (frame_no m F n c z nn _ BQ.out.mem hn).mono ?_; rintro e w5 ⟨rfl, rfl⟩)
                go_ret
                exact ⟨rfl, OA.out⟩
theorem walkI (nf : Int) (pc : Option Addr) (len cap : Nat) (x : Cs) (ad nn : Int) (w : World) (hl : len ≤ maxLen) (hc : Ph.CallsIn w.heap.size w pc len x) (wa : (Lit.int .u32 ad).wf = true) :
    Calls Try.prog 3 #[.int .i64 nf, .slice pc len cap, .int .u32 ad, .int .i64 nn] w fun e w' => e = .returned (.bool true) ∧ Only [] w w' := by
  have ba := bounds_u32 wa
  obtain ⟨a, rfl⟩ := Int.eq_ofNat_of_zero_le ba.1
  exact walk nf pc len cap x a nn w hl hc (by omega)
theorem own : ownKnob Try.prog.godebug = none := by kernel_rfl
theorem laidOut : laidOutB Try.prog = true := by kernel_rfl
set_option maxRecDepth 100000 in
theorem lifted (os : Os) (started : os.Started) (H : Type) (enc : TypeId × Value → H) :
    ReturnsInHanded {} Try.checked os 3 .any (Rows.physCallsSpec.pre6 enc Try.prog Try.f3 Rows.physCallsRow.domain false) (Rows.physCallsSpec.post enc Try.prog Try.f3 false true false false) := by
  refine returnsInHanded_of_change_sized (C := Try.checked) own started (by kernel_rfl) Try.func3
    (ChangeSpec.witness6 (enc := enc) (C := Try.checked) false ⟨#[], #[.int .i64 0, .slice none 0 0, .int .u32 0, .int .i64 0], []⟩ 8 (by kernel_rfl) (by kernel_rfl) (by kernel_rfl) (by kernel_rfl)) ?_
  intro W base args ds gs before hval0 hW hcnd hZ0 _
  have hval : ∀ (j : Nat) t v, Try.f3.params[j]? = some t → args[j]? = some v → Value.okWide Try.prog W .any base t v := hval0
  have hZ : ∀ n ∈ DataW.weightsEach Try.prog (Try.f3.params.toList ++ []) (ds ++ gs), n ≤ reachBytes := fun n hn => of_decide_eq_true (List.all_eq_true.1 hZ0 n hn)
  have hW' := hW
  obtain ⟨p, q, hA0, hV, rfl, hfz, hnd⟩ := hW
  have hA : DataW.TrodAll enc Try.prog W 0 (fun _ => true) true Try.f3.params.toList args.toList ds p := hA0
  rw [Try.params3] at hA hval hZ
  obtain ⟨v0, vs0, d0, ds0, p0, q0, hargs, rfl, rfl, h0, r0⟩ := trodAll_cons hA
  obtain ⟨v1, vs1, d1, ds1, p1, q1, rfl, rfl, rfl, h1, r1⟩ := trodAll_cons r0
  obtain ⟨v2, vs2, d2, ds2, p2, q2, rfl, rfl, rfl, h2, r2⟩ := trodAll_cons r1
  obtain ⟨v3, vs3, d3, ds3, p3, q3, rfl, rfl, rfl, h3, r3⟩ := trodAll_cons r2
  obtain ⟨rfl, rfl, rfl⟩ := trodAll_nil r3
  obtain rfl : args = #[v0, v1, v2, v3] := by cases args; simp_all
  obtain ⟨rfl, rfl⟩ := trodVars_none hV
  obtain ⟨x0, rfl, rfl, rfl, w0⟩ := open_int Try.underlying3 (hval 0 3 v0 rfl rfl) h0
  have k1 := h1
  have hz1 : ∀ n ∈ d1.weights Try.prog 22, n ≤ reachBytes := fun n hn => hZ n (by simp only [List.append_nil, DataW.weightsEach, List.mem_append]; exact Or.inr (Or.inl hn))
  obtain ⟨a1, n1, c1, y1, rfl, m1, lt1, z1⟩ := calls_open (hval 1 22 v1 rfl rfl) h1 hz1
  obtain ⟨x2, rfl, rfl, rfl, w2⟩ := open_int Try.underlying23 (hval 2 23 v2 rfl rfl) h2
  obtain ⟨x3, rfl, rfl, rfl, w3⟩ := open_int Try.underlying3 (hval 3 3 v3 rfl rfl) h3
  clear hA0 hval0 hZ0
  refine (walkI x0 a1 n1 c1 y1 x2 x3 W m1 z1 w2).mono fun e W' ⟨he, ho⟩ => ?_
  subst he
  have bel : Below W.heap.size W W' := ho.below (Nat.le_refl _) (by simp)
  exact ⟨_, rfl, _, _, _, [], _, [], hW', trodAll_mk1 (shut_bool Try.underlying4 _), (trodAll_cons_mk (shut_int Try.underlying3 w0) (trodAll_cons_mk (Below.trod laidOut (by kernel_rfl) (of_decide_eq_true (by kernel_rfl)) k1 bel lt1) (trodAll_cons_mk (shut_int Try.underlying23 w2) (trodAll_cons_mk (shut_int Try.underlying3 w3) trodAll_mk0)))), rfl, bel.frame _, fun h => by cases h⟩
theorem over : Rows.physCallsRow.holds Try.pinned (OpenSpec.ofChange Rows.physCallsSpec) :=
  OpenClaim.holds_of_wide 3 Try.f3 rfl rfl rfl rfl rfl rfl rfl ⟨rfl, rfl, rfl, rfl, rfl⟩ rfl rfl rfl rfl rfl (by kernel_rfl) Try.func3 (by kernel_rfl)
    (of_decide_eq_true (by kernel_rfl)) (by unfold Func.isWrapper; first | (rw [if_pos (by decide +kernel)]; kernel_rfl) | (rw [if_neg (by decide +kernel)]; exact ⟨rfl, rfl⟩))
    (fun os started H enc _ => lifted os started H enc)
end physCalls
/-- The statement. -/
theorem physCalls_holds : Rows.PhysCallsSaid := physCalls.over
#print axioms physCalls_holds
end Go.Proofs.Ytpnpcmclpmldmaa
