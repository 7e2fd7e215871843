/-
  PhysFills: a frame that is filled has those bytes, and noughts behind, and no other frame is changed: for every input true, and the input reads as it did; no condition.
-/
import Derived.Test.YtpnpcmclpmldmaaPhAlive
import Derived.Test.YtpnpcmclpmldmaaPhCalls
import Derived.SizedLaws
namespace Go.Proofs.Ytpnpcmclpmldmaa
open Go.ChangeShapes Go.WideShapes Go.ChangeAt Go.RowKit Go.Deep
namespace Ph
theorem dl_self (z : Nat → Int) (n : Nat) : dl z z n = [] := by
  unfold dl
  rw [List.filter_eq_nil_iff]
  intro k _
  simp [eqN]
theorem filter_one (f : Nat → Bool) (k : Nat) (h : ∀ q, q ≠ k → f q = false) : ∀ n, (List.range n).filter f = [] ∨ (List.range n).filter f = [k] ∧ k < n
  | 0 => by simp
  | n + 1 => by
    rw [List.range_succ, List.filter_append]
    by_cases e : n = k
    · subst e
      have h0 : (List.range n).filter f = [] := by
        rw [List.filter_eq_nil_iff]
        intro q hq
        rw [List.mem_range] at hq
        rw [h q (by omega)]
        decide
      rw [h0]
      cases hf : f n <;> simp [hf]
    · have hn : [n].filter f = [] := by simp [h n e]
      rw [hn, List.append_nil]
      rcases filter_one f k h n with h1 | ⟨h1, h2⟩
      · exact .inl h1
      · exact .inr ⟨h1, by omega⟩
theorem dl_fill (z y : Nat → Int) (n k l : Nat) : dl (fillz z k l y) z n = [] ∨ dl (fillz z k l y) z n = [k] := by
  have := filter_one (fun q => !eqN 256 (fr (fillz z k l y) q) (fr z q)) k (fun q hq => by
    rw [eqN_yes (fun j hj => by unfold fr fillz; rw [if_neg (by omega)])]
    rfl) n
  rcases this with h | ⟨h, _⟩
  · exact .inl h
  · exact .inr h
/-- Bytes that come in. -/
theorem bytes_open {H : Type} {enc : TypeId × Value → H} {W : World} {base : Nat} {v : Value} {d : DataW H} {p : List MemPlace}
    (hval : Value.okWide Try.prog W .any base 34 v) (h : DataW.Trod enc Try.prog W 0 (fun _ => true) true 34 v d p)
    (hsz : ∀ n ∈ d.weights Try.prog 34, n ≤ reachBytes) :
    ∃ a len cap y, v = .slice a len cap ∧ len ≤ reachBytes ∧ (∀ x ∈ p, x.block < W.heap.size) ∧ RdB W.heap.size W a len y := by
  obtain ⟨a, len, cap, rfl⟩ := okWide_slice Try.underlying34 hval
  have lt0 : ∀ x ∈ p, x.block < W.heap.size := by obtain ⟨m, hm⟩ := h; exact DataW.trod_lt m _ _ _ hm
  obtain ⟨fuel, hf⟩ := h
  obtain ⟨pa, l, cb, y, e, hl, hr⟩ := bytes_trod (v := .slice a len cap) hf
  injection e with e1 e2 e3
  subst e1 e2 e3
  refine ⟨_, _, _, y, rfl, ?_, lt0, hr⟩
  rcases hl with rfl | ⟨n, hn, hl⟩
  · exact Nat.zero_le _
  · exact Nat.le_trans hl (hsz n hn)
end Ph
namespace physFills
open Ph
set_option maxRecDepth 100000 in
set_option maxHeartbeats 1000000 in
theorem walk (nn : Int) (pc : Option Addr) (len cap : Nat) (x : Cs) (pb : Option Addr) (l cb : Nat) (y : Nat → Int) (w : World) (hl : len ≤ maxLen) (hc : Ph.CallsIn w.heap.size w pc len x) (hb : l ≤ reachBytes) (hy : RdB w.heap.size w pb l y) :
    Calls Try.prog 7 #[.int .i64 nn, .slice pc len cap, .slice pb l cb] w fun e w' => e = .returned (.bool true) ∧ Only [] w w' := by
  have HC := Lib.hid hc
  have HY := Lib.hid hy
  have hb' : l ≤ 140737488351232 := hb
  clear hc hy hb
  go_enter Try.func7, Try.ntmps7
  go_wp2_with (go_at_call 8; refine (alive_any _).mono ?_; rintro e w0 ⟨rfl, O0⟩)
  refine (great_any w.heap.size pc len cap x w0 (HC.out.kept O0 (by simp)) hl).mono ?_
  rintro e w' ⟨g, rfl, rfl, hg⟩
  cases g
  case true =>
    go_wp2
    go_ret
    exact ⟨rfl, O0⟩
  case false =>
    obtain ⟨h60, h30⟩ := hg rfl
    have H30 := Lib.hid h30
    clear hg h30
    by_cases h20 : 2000 < l
    · have d : decide ((2000 : Int) < (l : Int)) = true := by simp; omega
      go_wp2
      go_ret
      exact ⟨rfl, O0⟩
    · have d : decide ((2000 : Int) < (l : Int)) = false := by simp; omega
      go_wp2_with fail
      refine (new_any 4 w0 (by decide) (by decide)).mono ?_
      rintro e w1 ⟨m, F, c, rfl, hM, hO, hm, hF⟩
      have M1 := Lib.hid hM
      have O1 := Lib.hid (O0.next hO (by simp))
      have s0 := O0.size
      clear hM hO O0
      go_wp2_with fail
      refine (rnew_any 4 w1 (by decide) (by decide)).mono ?_
      rintro e w2 ⟨r, G, rfl, hM, hO, hr, hG⟩
      have l1 := M1.out.lt
      have l2 := M1.out.row.lt
      have B2 : Hid (Both w2 m F 4 c r G (fun _ => 0)) := ⟨M1.out.kept hO (by simp) (by simp), hM, by omega, by omega, by omega, by omega⟩
      have O2 := Lib.hid (O1.out.next hO (by simp))
      have l3 := O1.out.size
      clear hM hO M1 O1
      go_wp2_with fail
      go_loopw [10] (fun i wr => ∃ k : Nat, k ≤ len ∧ i = .int .i64 k ∧ (∃ z, Both wr m F 4 c r G z) ∧ Only [] w wr) (fun i _ => len - (intOf i).toNat)
      case atStart => exact ⟨0, by omega, rfl, ⟨_, B2.out⟩, O2.out⟩
      case round =>
        obtain ⟨k, hk, rfl, ⟨z, hB⟩, hO⟩ := hrel
        have BH := Lib.hid hB
        have OH := Lib.hid hO
        clear hB hO B2 O2
        by_cases hlt : k < len
        · obtain ⟨b, off, epa, hbB, hcc⟩ := HC.out.kept OH.out (by simp) (by omega)
          subst epa
          have ck := hcc k hlt
          have c0 := ck.c0
          have c1 := ck.c1
          have c2 := ck.c2
          have c3 := ck.c3
          have c4 := ck.c4
          have CK := Lib.hid (ck.is (H30.out k hlt))
          clear hcc ck
          go_wp2_with (go_at_call 13; refine (told_any m F 4 c r G w.heap.size z (x.y k) (x.wh k) (x.nn k) (x.ad k) (x.vl k) (x.pa k) (x.l k) (x.cb k) _ BH.out (by omega) (by omega) CK.out).mono ?_; rintro e w3 ⟨rfl, ⟨z', hB3⟩, hO3⟩)
          go_roundw
          case rel => exact ⟨k + 1, by omega, by go_num, ⟨z', hB3⟩, OH.out.next hO3 (by simp; omega)⟩
          case measure => simp [intOf]; omega
        · go_wp2_with fail
          clear hlt
          refine (clone_any m F 4 c z _ BH.out.mem (by decide)).mono ?_
          rintro e w4 ⟨dd, D, cd, rfl, hM, hO, hd, hD⟩
          have N4 := Lib.hid hM
          have l5 := BH.out.mem.lt
          have l6 := BH.out.mem.row.lt
          have M4 := Lib.hid (BH.out.mem.kept hO (by simp) (by simp))
          have O4 := Lib.hid (OH.out.next hO (by simp))
          clear hM hO BH OH
          by_cases hn : 0 ≤ nn ∧ nn < 4
          · obtain ⟨q, rfl⟩ := Int.eq_ofNat_of_zero_le hn.1
            have hq : q < 4 := by omega
            have d1 : decide ((q : Int) < 0) = false := by simp
            have d2 : decide ((3 : Int) < (q : Int)) = false := by simp; omega
            clear hn
            by_cases h256 : 256 < l
            · have d3 : decide ((256 : Int) < (l : Int)) = true := by simp; omega
              go_wp2_with (go_at_call 25; refine (fill_many m F 4 c q z pb l cb _ M4.out hq h256).mono ?_; rintro e w' ⟨rfl, rfl⟩)
              refine (differ_any m F 4 c dd D cd _ _ _ M4.out N4.out).mono ?_
              rintro e w5 ⟨pa, cc, rfl, hR, hO⟩
              rw [dl_self]
              have O5 := Lib.hid (O4.out.next hO (by simp))
              clear hR hO
              go_wp2
              go_ret
              exact ⟨rfl, O5.out⟩
            · have d3 : decide ((256 : Int) < (l : Int)) = false := by simp; omega
              go_wp2_with (go_at_call 25; refine (fill_yes m F 4 c q z y pb l cb _ M4.out hq (by omega) (HY.out.kept O4.out (by simp)).rd).mono ?_; rintro e w5 ⟨rfl, hM, hO⟩; have M5 := Lib.hid hM; have N5 := Lib.hid (N4.out.kept hO (by simp; omega) (by simp; omega)); have O5 := Lib.hid (O4.out.next hO (by simp; omega)); clear hM hO M4 N4 O4)
              refine (frame_yes m F 4 c q _ w5 M5.out hq).mono ?_
              rintro e w6 ⟨g, cg, rfl, hR, hO, hgg⟩
              have M6 := Lib.hid (M5.out.kept hO (by simp) (by simp))
              have N6 := Lib.hid (N5.out.kept hO (by simp) (by simp))
              have O6 := Lib.hid (O5.out.next hO (by simp))
              have R6 : Hid (Row w6 g 256 (fz l y)) := hR.congr (fun j hj => by unfold fillz; rw [if_pos (by omega), show 256 * q + j - 256 * q = j by omega])
              clear hR hO M5 N5 O5
              go_wp2_with fail
              go_loopw [15] (fun i wr => ∃ k t : Nat, k ≤ 256 ∧ i = .int .i64 k ∧ wr = w6.drewN t) (fun i _ => 256 - (intOf i).toNat)
              case atStart => exact ⟨0, 0, by omega, rfl, rfl⟩
              case round =>
                obtain ⟨k, t, hk, rfl, rfl⟩ := hrel
                by_cases hlt : k < 256
                · have ck := R6.out.cell k hlt
                  have hk2 : decide ((k : Int) < 256) = true := by simp; omega
                  by_cases hkl : k < l
                  · obtain ⟨b, off, epa, hbB, hcc⟩ := (HY.out.kept O6.out (by simp)).1 (by omega)
                    subst epa
                    have cy := hcc k hkl
                    have ef : fz l y k = y k := by unfold fz; rw [if_pos hkl]
                    rw [ef] at ck
                    have t1 : decide ((k : Int) < (l : Int)) = true := by simp; omega
                    have t2 : (y k != y k) = false := by simp
                    have t3 : decide ((l : Int) ≤ (k : Int)) = false := by simp; omega
                    clear hcc ef
                    go_wp2_with fail
                    refine seal_all (S := fun w' => w'.cell? ⟨g, k, none⟩ = some (.int .u8 (y k)) ∧ w'.cell? ⟨b, off + k, none⟩ = some (.int .u8 (y k)) ∧ ∃ t, w' = w6.drewN t) (by kernel_rfl) (by kernel_rfl) ⟨ck, cy, t + 1, rfl⟩ ?_
                    rintro w7 ⟨c1, c2, t', rfl⟩
                    have hki : (k : Int) < 256 := by omega
                    have hkj : (k : Int) < l := by omega
                    have hkn : ¬ l ≤ k := by omega
                    clear ck cy
                    iterate 28 (refine seal_next (fun K hK => ?_); go_simp; refine hK _ ?_; clear hK K)
                    refine seal_nil ?_
                    go_wp2
                    go_roundw
                    case rel => exact ⟨k + 1, t', by omega, by go_num, rfl⟩
                    case measure => simp [intOf]; omega
                  · have ef : fz l y k = 0 := by unfold fz; rw [if_neg hkl]
                    rw [ef] at ck
                    have t1 : decide ((k : Int) < (l : Int)) = false := by simp; omega
                    have t3 : decide ((l : Int) ≤ (k : Int)) = true := by simp; omega
                    clear ef
                    go_wp2_with fail
                    refine seal_all (S := fun w' => w'.cell? ⟨g, k, none⟩ = some (.int .u8 0) ∧ ∃ t, w' = w6.drewN t) (by kernel_rfl) (by kernel_rfl) ⟨ck, t + 1, rfl⟩ ?_
                    rintro w7 ⟨c1, t', rfl⟩
                    have hki : (k : Int) < 256 := by omega
                    have hkj : l ≤ k := by omega
                    clear ck
                    iterate 28 (refine seal_next (fun K hK => ?_); go_simp; refine hK _ ?_; clear hK K)
                    refine seal_nil ?_
                    go_wp2
                    go_roundw
                    case rel => exact ⟨k + 1, t', by omega, by go_num, rfl⟩
                    case measure => simp [intOf]; omega
                · have e256 : k = 256 := by omega
                  subst e256
                  clear hlt
                  go_wp2_with fail
                  refine (differ_any m F 4 c dd D cd _ _ _ (M6.out.kept (Only.drewN [] _ t) (by simp) (by simp)) (N6.out.kept (Only.drewN [] _ t) (by simp) (by simp))).mono ?_
                  rintro e w8 ⟨pa, cc, rfl, hR, hO⟩
                  have O8 := Lib.hid ((O6.out.next (Only.drewN [] w6 t) (by simp)).next hO (by simp))
                  clear hO
                  rcases dl_fill z y 4 q l with hdl | hdl
                  · rw [hdl]
                    clear hR hdl
                    go_wp2
                    go_ret
                    exact ⟨rfl, O8.out⟩
                  · rw [hdl] at hR ⊢
                    obtain ⟨b, off, rfl, hcc⟩ := hR (by simp)
                    have c0 : w8.cell? ⟨b, off, none⟩ = some (.int .i64 (q : Int)) := hcc 0 (by simp)
                    have t5 : ((q : Int) == (q : Int)) = true := by simp
                    clear hcc hdl hR
                    go_wp2
                    go_ret
                    exact ⟨rfl, O8.out⟩
          · have hx : nn < 0 ∨ 3 < nn := by omega
            by_cases h0 : nn < 0
            · have d1 : decide (nn < 0) = true := by simpa using h0
              go_wp2_with (go_at_call 25; refine (fill_no m F 4 c z nn pb l cb _ M4.out hn).mono ?_; rintro e w' ⟨rfl, rfl⟩)
              refine (differ_any m F 4 c dd D cd _ _ _ M4.out N4.out).mono ?_
              rintro e w5 ⟨pa, cc, rfl, hR, hO⟩
              rw [dl_self]
              have O5 := Lib.hid (O4.out.next hO (by simp))
              clear hR hO hn hx
              go_wp2
              go_ret
              exact ⟨rfl, O5.out⟩
            · have d1 : decide (nn < 0) = false := by simpa using h0
              have d2 : decide (3 < nn) = true := by simp; omega
              go_wp2_with (go_at_call 25; refine (fill_no m F 4 c z nn pb l cb _ M4.out hn).mono ?_; rintro e w' ⟨rfl, rfl⟩)
              refine (differ_any m F 4 c dd D cd _ _ _ M4.out N4.out).mono ?_
              rintro e w5 ⟨pa, cc, rfl, hR, hO⟩
              rw [dl_self]
              have O5 := Lib.hid (O4.out.next hO (by simp))
              clear hR hO hn hx
              go_wp2
              go_ret
              exact ⟨rfl, O5.out⟩
theorem own : ownKnob Try.prog.godebug = none := by kernel_rfl
theorem laidOut : laidOutB Try.prog = true := by kernel_rfl
set_option maxRecDepth 100000 in
theorem lifted (os : Os) (started : os.Started) (H : Type) (enc : TypeId × Value → H) :
    ReturnsInHanded {} Try.checked os 7 .any (Rows.physFillsSpec.pre6 enc Try.prog Try.f7 Rows.physFillsRow.domain false) (Rows.physFillsSpec.post enc Try.prog Try.f7 false true false false) := by
  refine returnsInHanded_of_change_sized (C := Try.checked) own started (by kernel_rfl) Try.func7
    (ChangeSpec.witness6 (enc := enc) (C := Try.checked) false ⟨#[], #[.int .i64 0, .slice none 0 0, .slice none 0 0], []⟩ 8 (by kernel_rfl) (by kernel_rfl) (by kernel_rfl) (by kernel_rfl)) ?_
  intro W base args ds gs before hval0 hW hcnd hZ0 _
  have hval : ∀ (j : Nat) t v, Try.f7.params[j]? = some t → args[j]? = some v → Value.okWide Try.prog W .any base t v := hval0
  have hZ : ∀ n ∈ DataW.weightsEach Try.prog (Try.f7.params.toList ++ []) (ds ++ gs), n ≤ reachBytes := fun n hn => of_decide_eq_true (List.all_eq_true.1 hZ0 n hn)
  have hW' := hW
  obtain ⟨p, q, hA0, hV, rfl, hfz, hnd⟩ := hW
  have hA : DataW.TrodAll enc Try.prog W 0 (fun _ => true) true Try.f7.params.toList args.toList ds p := hA0
  rw [Try.params7] at hA hval hZ
  obtain ⟨v0, vs0, d0, ds0, p0, q0, hargs, rfl, rfl, h0, r0⟩ := trodAll_cons hA
  obtain ⟨v1, vs1, d1, ds1, p1, q1, rfl, rfl, rfl, h1, r1⟩ := trodAll_cons r0
  obtain ⟨v2, vs2, d2, ds2, p2, q2, rfl, rfl, rfl, h2, r2⟩ := trodAll_cons r1
  obtain ⟨rfl, rfl, rfl⟩ := trodAll_nil r2
  obtain rfl : args = #[v0, v1, v2] := by cases args; simp_all
  obtain ⟨rfl, rfl⟩ := trodVars_none hV
  obtain ⟨x0, rfl, rfl, rfl, w0⟩ := open_int Try.underlying3 (hval 0 3 v0 rfl rfl) h0
  have k1 := h1
  have hz1 : ∀ n ∈ d1.weights Try.prog 22, n ≤ reachBytes := fun n hn => hZ n (by simp only [List.append_nil, DataW.weightsEach, List.mem_append]; exact Or.inr (Or.inl hn))
  obtain ⟨a1, n1, c1, y1, rfl, m1, lt1, z1⟩ := calls_open (hval 1 22 v1 rfl rfl) h1 hz1
  have k2 := h2
  have hz2 : ∀ n ∈ d2.weights Try.prog 34, n ≤ reachBytes := fun n hn => hZ n (by simp only [List.append_nil, DataW.weightsEach, List.mem_append]; exact Or.inr (Or.inr (hn)))
  obtain ⟨a2, n2, c2, y2, rfl, m2, lt2, z2⟩ := bytes_open (hval 2 34 v2 rfl rfl) h2 hz2
  clear hA0 hval0 hZ0
  refine (walk x0 a1 n1 c1 y1 a2 n2 c2 y2 W m1 z1 m2 z2).mono fun e W' ⟨he, ho⟩ => ?_
  subst he
  have bel : Below W.heap.size W W' := ho.below (Nat.le_refl _) (by simp)
  exact ⟨_, rfl, _, _, _, [], _, [], hW', trodAll_mk1 (shut_bool Try.underlying4 _), (trodAll_cons_mk (shut_int Try.underlying3 w0) (trodAll_cons_mk (Below.trod laidOut (by kernel_rfl) (of_decide_eq_true (by kernel_rfl)) k1 bel lt1) (trodAll_cons_mk (Below.trod laidOut (by kernel_rfl) (of_decide_eq_true (by kernel_rfl)) k2 bel lt2) trodAll_mk0))), rfl, bel.frame _, fun h => by cases h⟩
theorem over : Rows.physFillsRow.holds Try.pinned (OpenSpec.ofChange Rows.physFillsSpec) :=
  OpenClaim.holds_of_wide 7 Try.f7 rfl rfl rfl rfl rfl rfl rfl ⟨rfl, rfl, rfl, rfl, rfl⟩ rfl rfl rfl rfl rfl (by kernel_rfl) Try.func7 (by kernel_rfl)
    (of_decide_eq_true (by kernel_rfl)) (by unfold Func.isWrapper; first | (rw [if_pos (by decide +kernel)]; kernel_rfl) | (rw [if_neg (by decide +kernel)]; exact ⟨rfl, rfl⟩))
    (fun os started H enc _ => lifted os started H enc)
end physFills
/-- The statement. -/
theorem physFills_holds : Rows.PhysFillsSaid := physFills.over
#print axioms physFills_holds
end Go.Proofs.Ytpnpcmclpmldmaa
