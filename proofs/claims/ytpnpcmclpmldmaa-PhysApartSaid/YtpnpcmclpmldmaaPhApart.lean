/-
  PhysApart: what is done to a memory changes no clone of it, and what was read of a frame stays as it was: for every input true, and the input reads as it did; no condition.
-/
import Derived.Test.YtpnpcmclpmldmaaPhFills
namespace Go.Proofs.Ytpnpcmclpmldmaa
open Go.ChangeShapes Go.WideShapes Go.ChangeAt Go.RowKit Go.Deep
namespace physApart
open Ph
set_option maxRecDepth 100000 in
set_option maxHeartbeats 1000000 in
theorem walk (nf : Int) (pc : Option Addr) (len cap : Nat) (x : Cs) (nn : Int) (w : World) (hl : len ≤ maxLen) (hc : Ph.CallsIn w.heap.size w pc len x) :
    Calls Try.prog 6 #[.int .i64 nf, .slice pc len cap, .int .i64 nn] w fun e w' => e = .returned (.bool true) ∧ Only [] w w' := by
  have HC := Lib.hid hc
  clear hc
  go_enter Try.func6, Try.ntmps6
  go_wp2_with (go_at_call 8; refine (alive_any _).mono ?_; rintro e w0 ⟨rfl, O0⟩)
  refine (great_any w.heap.size pc len cap x w0 (HC.out.kept O0 (by simp)) hl).mono ?_
  rintro e w' ⟨g, rfl, rfl, hg⟩
  cases g
  case true =>
    go_wp2
    go_ret
    exact ⟨rfl, O0⟩
  case false =>
    obtain ⟨h60, h30⟩ := hg rfl
    have H30 := Lib.hid h30
    clear hg h30
    by_cases b1 : nf < 1
    · have d1 : decide (nf < 1) = true := by simpa using b1
      go_wp2
      go_ret
      exact ⟨rfl, O0⟩
    have d1 : decide (nf < 1) = false := by simpa using b1
    by_cases b2 : 40 < nf
    · have d2 : decide (40 < nf) = true := by simpa using b2
      go_wp2
      go_ret
      exact ⟨rfl, O0⟩
    have d2 : decide (40 < nf) = false := by simpa using b2
    by_cases b3 : nn < 0
    · have d3 : decide (nn < 0) = true := by simpa using b3
      go_wp2
      go_ret
      exact ⟨rfl, O0⟩
    have d3 : decide (nn < 0) = false := by simpa using b3
    by_cases b4 : nf ≤ nn
    · have d4 : decide (nf ≤ nn) = true := by simpa using b4
      go_wp2
      go_ret
      exact ⟨rfl, O0⟩
    have d4 : decide (nf ≤ nn) = false := by simpa using b4
    obtain ⟨n, rfl⟩ := Int.eq_ofNat_of_zero_le (show 0 ≤ nf by omega)
    obtain ⟨q, rfl⟩ := Int.eq_ofNat_of_zero_le (show 0 ≤ nn by omega)
    have h1 : 1 ≤ n := by omega
    have h2 : n ≤ 40 := by omega
    have hq : q < n := by omega
    clear b1 b2 b3 b4
    go_wp2_with fail
    refine (new_any n w0 h1 (by omega)).mono ?_
    rintro e w1 ⟨m, F, c, rfl, hM, hO, hm, hF⟩
    have M1 := Lib.hid hM
    have O1 := Lib.hid (O0.next hO (by simp))
    have s0 := O0.size
    clear hM hO O0
    go_wp2_with fail
    refine (rnew_any n w1 h1 h2).mono ?_
    rintro e w2 ⟨r, G, rfl, hM, hO, hr, hG⟩
    have l1 := M1.out.lt
    have l2 := M1.out.row.lt
    have B2 : Hid (Both w2 m F n c r G (fun _ => 0)) := ⟨M1.out.kept hO (by simp) (by simp), hM, by omega, by omega, by omega, by omega⟩
    have O2 := Lib.hid (O1.out.next hO (by simp))
    have l3 := O1.out.size
    clear hM hO M1 O1
    go_wp2_with fail
    go_loopw [10] (fun i wr => ∃ k : Nat, k ≤ len ∧ i = .int .i64 k ∧ (∃ z, Both wr m F n c r G z) ∧ Only [] w wr) (fun i _ => len - (intOf i).toNat)
    case atStart => exact ⟨0, by omega, rfl, ⟨_, B2.out⟩, O2.out⟩
    case round =>
      obtain ⟨k, hk, rfl, ⟨z, hB⟩, hO⟩ := hrel
      have BH := Lib.hid hB
      have OH := Lib.hid hO
      clear hB hO B2 O2
      by_cases hlt : k < len
      · go_wp2_with fail
        refine (clone_any m F n c z _ BH.out.mem h1).mono ?_
        rintro e w4 ⟨dd, D, cd, rfl, hM, hO, hd, hD⟩
        have l5 := BH.out.mem.lt
        have l6 := BH.out.mem.row.lt
        have l7 := BH.out.ref.lt
        have l8 := BH.out.ref.row.lt
        have N4 := Lib.hid hM
        have B4 := Lib.hid (BH.out.kept hO (by simp) (by simp) (by simp) (by simp))
        have O4 := Lib.hid (OH.out.next hO (by simp))
        clear hM hO BH OH
        go_wp2_with fail
        refine (frame_yes m F n c q z w4 B4.out.mem hq).mono ?_
        rintro e w5 ⟨g, cg, rfl, hR, hO, hgg⟩
        have l9 := N4.out.lt
        have l10 := N4.out.row.lt
        have R5 := Lib.hid hR
        have N5 := Lib.hid (N4.out.kept hO (by simp) (by simp))
        have B5 := Lib.hid (B4.out.kept hO (by simp) (by simp) (by simp) (by simp))
        have O5 := Lib.hid (O4.out.next hO (by simp))
        clear hR hO N4 B4 O4
        go_wp2_with fail
        refine (copyB_any (some ⟨g, 0, none⟩) 256 cg _ w5 (by decide) R5.out.rd).mono ?_
        rintro e w6 ⟨o, co, rfl, hR, hO, hoo⟩
        have l11 := R5.out.lt
        have P6 := Lib.hid hR
        have R6 := Lib.hid (R5.out.kept hO (by simp))
        have N6 := Lib.hid (N5.out.kept hO (by simp) (by simp))
        have B6 := Lib.hid (B5.out.kept hO (by simp) (by simp) (by simp) (by simp))
        have O6 := Lib.hid (O5.out.next hO (by simp))
        clear hR hO N5 B5 O5 R5
        go_wp2_with fail
        refine (clone_any dd D n cd z _ N6.out h1).mono ?_
        rintro e w7 ⟨ee, E, ce, rfl, hM, hO, he, hE⟩
        have l12 := P6.out.lt
        have Q7 := Lib.hid hM
        have P7 := Lib.hid (P6.out.kept hO (by simp))
        have R7 := Lib.hid (R6.out.kept hO (by simp))
        have N7 := Lib.hid (N6.out.kept hO (by simp) (by simp))
        have B7 := Lib.hid (B6.out.kept hO (by simp) (by simp) (by simp) (by simp))
        have O7 := Lib.hid (O6.out.next hO (by simp))
        have l13 := hO.size
        clear hM hO N6 B6 O6 R6 P6
        obtain ⟨b, off, epa, hbB, hcc⟩ := HC.out.kept O7.out (by simp) (by omega)
        subst epa
        have ck := hcc k hlt
        have c0 := ck.c0
        have c1 := ck.c1
        have c2 := ck.c2
        have c3 := ck.c3
        have c4 := ck.c4
        have CK := Lib.hid (ck.is (H30.out k hlt))
        clear hcc ck
        go_wp2_with (go_at_call 13; refine (told_any m F n c r G w.heap.size z (x.y k) (x.wh k) (x.nn k) (x.ad k) (x.vl k) (x.pa k) (x.l k) (x.cb k) _ B7.out (by omega) (by omega) CK.out).mono ?_; rintro e w8 ⟨rfl, ⟨z', hB⟩, hO⟩; have B8 := Lib.hid hB; have P8 := Lib.hid (P7.out.kept hO (by simp; omega)); have R8 := Lib.hid (R7.out.kept hO (by simp; omega)); have N8 := Lib.hid (N7.out.kept hO (by simp; omega) (by simp; omega)); have Q8 := Lib.hid (Q7.out.kept hO (by simp; omega) (by simp; omega)); have O8 := Lib.hid (O7.out.next hO (by simp; omega)); clear hB hO B7 P7 R7 N7 Q7 O7 c0 c1 c2 c3 c4 CK)
        refine (differ_any dd D n cd ee E ce z z w8 N8.out Q8.out).mono ?_
        rintro e w9 ⟨pa, cc, rfl, hR, hO⟩
        rw [dl_self]
        have B9 := Lib.hid (B8.out.kept hO (by simp) (by simp) (by simp) (by simp))
        have P9 := Lib.hid (P8.out.kept hO (by simp))
        have R9 := Lib.hid (R8.out.kept hO (by simp))
        have N9 := Lib.hid (N8.out.kept hO (by simp) (by simp))
        have O9 := Lib.hid (O8.out.next hO (by simp))
        clear hR hO B8 P8 R8 N8 Q8 O8
        have es : eqN 256 (fun j => z (256 * q + j)) (fun j => z (256 * q + j)) = true := eqN_yes (fun _ _ => rfl)
        go_wp2_with (go_at_call 19; refine (same_any g 0 o 0 256 cg co _ _ _ (by decide) (fun j hj => by rw [Nat.zero_add]; exact R9.out.cell j hj) (fun j hj => by rw [Nat.zero_add]; exact P9.out.cell j hj)).mono ?_; rintro e w' ⟨rfl, t1, rfl⟩; rw [es]; have BA := Lib.hid (B9.out.kept (Only.drewN [] w9 t1) (by simp) (by simp) (by simp) (by simp)); have PA := Lib.hid (P9.out.kept (Only.drewN [] w9 t1) (by simp)); have RA := Lib.hid (R9.out.kept (Only.drewN [] w9 t1) (by simp)); have NA := Lib.hid (N9.out.kept (Only.drewN [] w9 t1) (by simp) (by simp)); have OA := Lib.hid (O9.out.next (Only.drewN [] w9 t1) (by simp)); clear B9 P9 R9 N9 O9; generalize w9.drewN t1 = wA at *)
        go_loopw [16] (fun i wr => ∃ k : Nat, k ≤ 256 ∧ i = .int .i64 k ∧ (∃ y', Row wr g 256 y') ∧ Only [g] wA wr) (fun i _ => 256 - (intOf i).toNat)
        case atStart => exact ⟨0, by omega, rfl, ⟨_, RA.out⟩, Only.refl _ _⟩
        case round =>
          obtain ⟨q', hq', rfl, ⟨y', hGx⟩, hOx⟩ := hrel
          have OX := Lib.hid hOx
          have GX := Lib.hid hGx
          by_cases hlt' : q' < 256
          · have cq := hGx.cell q' hlt'
            have fq := hGx.free q' hlt'
            clear hGx hOx
            go_wp2
            go_roundw
            case rel =>
              have hx : B8 ((y' q' + 1) % 256) := ⟨by omega, by omega⟩
              exact ⟨q' + 1, by omega, by go_num, ⟨_, GX.out.set q' _ hlt' hx⟩, OX.out.trans (Only.setCell _ (List.mem_singleton.2 rfl) _ _)⟩
            case measure => simp [intOf]; omega
          · clear hGx hOx
            go_wp2_with fail
            refine (frame_yes dd D n cd q z _ (NA.out.kept OX.out (by simp; omega) (by simp; omega)) hq).mono ?_
            rintro e wB ⟨g2, cg2, rfl, hR, hO, hg2⟩
            have RB := Lib.hid hR
            have PB := Lib.hid ((PA.out.kept OX.out (by simp; omega)).kept hO (by simp))
            have BB := Lib.hid ((BA.out.kept OX.out (by simp; omega) (by simp; omega) (by simp; omega) (by simp; omega)).kept hO (by simp) (by simp) (by simp) (by simp))
            have OB := Lib.hid ((OA.out.next OX.out (by simp; omega)).next hO (by simp))
            clear hR hO PA BA OA OX
            go_wp2_with (go_at_call 19; refine (same_any g2 0 o 0 256 cg2 co _ _ _ (by decide) (fun j hj => by rw [Nat.zero_add]; exact RB.out.cell j hj) (fun j hj => by rw [Nat.zero_add]; exact PB.out.cell j hj)).mono ?_; rintro e w' ⟨rfl, t2, rfl⟩; rw [es])
            go_roundw
            case rel => exact ⟨k + 1, by omega, by go_num, ⟨z', BB.out.kept (Only.drewN [] _ t2) (by simp) (by simp) (by simp) (by simp)⟩, OB.out.next (Only.drewN [] _ t2) (by simp)⟩
            case measure => simp [intOf]; omega
      · go_wp2
        go_ret
        exact ⟨rfl, OH.out⟩
theorem own : ownKnob Try.prog.godebug = none := by kernel_rfl
theorem laidOut : laidOutB Try.prog = true := by kernel_rfl
set_option maxRecDepth 100000 in
theorem lifted (os : Os) (started : os.Started) (H : Type) (enc : TypeId × Value → H) :
    ReturnsInHanded {} Try.checked os 6 .any (Rows.physApartSpec.pre6 enc Try.prog Try.f6 Rows.physApartRow.domain false) (Rows.physApartSpec.post enc Try.prog Try.f6 false true false false) := by
  refine returnsInHanded_of_change_sized (C := Try.checked) own started (by kernel_rfl) Try.func6
    (ChangeSpec.witness6 (enc := enc) (C := Try.checked) false ⟨#[], #[.int .i64 0, .slice none 0 0, .int .i64 0], []⟩ 8 (by kernel_rfl) (by kernel_rfl) (by kernel_rfl) (by kernel_rfl)) ?_
  intro W base args ds gs before hval0 hW hcnd hZ0 _
  have hval : ∀ (j : Nat) t v, Try.f6.params[j]? = some t → args[j]? = some v → Value.okWide Try.prog W .any base t v := hval0
  have hZ : ∀ n ∈ DataW.weightsEach Try.prog (Try.f6.params.toList ++ []) (ds ++ gs), n ≤ reachBytes := fun n hn => of_decide_eq_true (List.all_eq_true.1 hZ0 n hn)
  have hW' := hW
  obtain ⟨p, q, hA0, hV, rfl, hfz, hnd⟩ := hW
  have hA : DataW.TrodAll enc Try.prog W 0 (fun _ => true) true Try.f6.params.toList args.toList ds p := hA0
  rw [Try.params6] at hA hval hZ
  obtain ⟨v0, vs0, d0, ds0, p0, q0, hargs, rfl, rfl, h0, r0⟩ := trodAll_cons hA
  obtain ⟨v1, vs1, d1, ds1, p1, q1, rfl, rfl, rfl, h1, r1⟩ := trodAll_cons r0
  obtain ⟨v2, vs2, d2, ds2, p2, q2, rfl, rfl, rfl, h2, r2⟩ := trodAll_cons r1
  obtain ⟨rfl, rfl, rfl⟩ := trodAll_nil r2
  obtain rfl : args = #[v0, v1, v2] := by cases args; simp_all
  obtain ⟨rfl, rfl⟩ := trodVars_none hV
  obtain ⟨x0, rfl, rfl, rfl, w0⟩ := open_int Try.underlying3 (hval 0 3 v0 rfl rfl) h0
  have k1 := h1
  have hz1 : ∀ n ∈ d1.weights Try.prog 22, n ≤ reachBytes := fun n hn => hZ n (by simp only [List.append_nil, DataW.weightsEach, List.mem_append]; exact Or.inr (Or.inl hn))
  obtain ⟨a1, n1, c1, y1, rfl, m1, lt1, z1⟩ := calls_open (hval 1 22 v1 rfl rfl) h1 hz1
  obtain ⟨x2, rfl, rfl, rfl, w2⟩ := open_int Try.underlying3 (hval 2 3 v2 rfl rfl) h2
  clear hA0 hval0 hZ0
  refine (walk x0 a1 n1 c1 y1 x2 W m1 z1).mono fun e W' ⟨he, ho⟩ => ?_
  subst he
  have bel : Below W.heap.size W W' := ho.below (Nat.le_refl _) (by simp)
  exact ⟨_, rfl, _, _, _, [], _, [], hW', trodAll_mk1 (shut_bool Try.underlying4 _), (trodAll_cons_mk (shut_int Try.underlying3 w0) (trodAll_cons_mk (Below.trod laidOut (by kernel_rfl) (of_decide_eq_true (by kernel_rfl)) k1 bel lt1) (trodAll_cons_mk (shut_int Try.underlying3 w2) trodAll_mk0))), rfl, bel.frame _, fun h => by cases h⟩
theorem over : Rows.physApartRow.holds Try.pinned (OpenSpec.ofChange Rows.physApartSpec) :=
  OpenClaim.holds_of_wide 6 Try.f6 rfl rfl rfl rfl rfl rfl rfl ⟨rfl, rfl, rfl, rfl, rfl⟩ rfl rfl rfl rfl rfl (by kernel_rfl) Try.func6 (by kernel_rfl)
    (of_decide_eq_true (by kernel_rfl)) (by unfold Func.isWrapper; first | (rw [if_pos (by decide +kernel)]; kernel_rfl) | (rw [if_neg (by decide +kernel)]; exact ⟨rfl, rfl⟩))
    (fun os started H enc _ => lifted os started H enc)
end physApart
/-- The statement. -/
theorem physApart_holds : Rows.PhysApartSaid := physApart.over
#print axioms physApart_holds
end Go.Proofs.Ytpnpcmclpmldmaa
