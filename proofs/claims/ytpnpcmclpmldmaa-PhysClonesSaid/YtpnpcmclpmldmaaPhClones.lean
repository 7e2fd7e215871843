/-
  PhysClones: a clone differs from the memory in just the frames that were written since; each is its own: for every input true, and the input reads as it did; no condition.
-/
import Derived.Test.YtpnpcmclpmldmaaPhFills
namespace Go.Proofs.Ytpnpcmclpmldmaa
open Go.ChangeShapes Go.WideShapes Go.ChangeAt Go.RowKit Go.Deep
namespace Ph
theorem eqN_comm (n : Nat) (z z' : Nat → Int) : eqN n z z' = eqN n z' z := by
  unfold eqN
  rw [decide_eq_decide]
  exact ⟨fun h j hj => (h j hj).symm, fun h j hj => (h j hj).symm⟩
theorem dl_comm (z z' : Nat → Int) (n : Nat) : dl z z' n = dl z' z n := by
  unfold dl
  exact List.filter_congr (fun k _ => by rw [eqN_comm])
theorem own_cap {w : World} {base n c g size : Nat} {t : TypeId} {vs : List Value} (h : w.ownsRow base t size (.slice (some ⟨g, 0, none⟩) n c) n vs) : n ≤ c := by
  obtain ⟨h1, h2⟩ := h
  rcases h2 with ⟨h2, _⟩ | ⟨g2, cap, cur, hv, hg, hb2, hnc, hm, hs, ht⟩
  · cases h2
  · injection hv with e1 e2 e3
    subst e3
    exact hnc
theorem copyB_cap (b off n cap : Nat) (z : Nat → Int) (w : World) (hn : 0 < n) (h2 : n ≤ 20000) (h8 : ∀ j, j < n → B8 (z j)) (hc : ∀ j, j < n → w.cell? ⟨b, off + j, none⟩ = some (.int .u8 (z j))) :
    Calls Try.prog 20 #[.slice (some ⟨b, off, none⟩) n cap] w fun e w' => ∃ g c, e = .returned (.slice (some ⟨g, 0, none⟩) n c) ∧ Row w' g n z ∧ Only [] w w' ∧ w.heap.size ≤ g ∧ n ≤ c := by
  obtain ⟨i0, hi, hz0, hz1, hz2⟩ := info_parts info5
  go_enter Try.func20, Try.ntmps20
  have own0 : (w.alloc (.cells #[] 5)).ownsRow w.heap.size 5 1 (.slice (some ⟨w.heap.size, 0, none⟩) 0 0) 0 [] :=
    World.ownsRow_lit w #[] 0 (Nat.le_refl _) (by decide) rfl
  have news : ∀ j u, (vsN n z)[j]? = some u → (w.alloc (.cells #[] 5)).cell? ((⟨b, off, none⟩ : Addr).add j) = some u :=
    vsN_news (fun j hj => by rw [World.cell?_alloc_past _ _ _ (World.block_lt_of_cell? w _ (hc j hj))]; exact hc j hj)
  have O := Lib.hid own0
  have NW := Lib.hid news
  have H8 := Lib.hid h8
  clear own0 news hc h8
  go_wp2_with (at_builtin; refine wpList_append_lies _ rfl (.tmp 5) (.tmp 6) 34 rfl w.heap.size 5 i0 (.int .u8 0) 1 1 Try.underlying34 hi hz0 hz1 hz2 rfl (by decide) (.slice (some ⟨w.heap.size, 0, none⟩) 0 0) 0 [] rfl O.out ⟨b, off, none⟩ n cap (vsN n z) rfl (by rw [vsN_len, Nat.mul_one]) NW.out (vsN_one _ _) hn (by unfold maxLen; omega) (by omega) (by simp) _ rfl ?_; intro g c w1 hown hgrow hat hlt)
  have own1 := Lib.hid hown
  have gr := Lib.hid hgrow
  clear hown hgrow hat
  simp only [Nat.zero_add, List.nil_append] at own1
  obtain ⟨hr, hg⟩ := own_row own1.out (Nat.mul_one n).symm H8.out
  refine bodyPost_ret (v := .slice (some ⟨g, 0, none⟩) n c) (by simp [results, Try.results20]) rfl ⟨g, c, rfl, hr, Only.of ?_ _, hg, own_cap own1.out⟩
  exact ((Below.refl _ _).alloc (Nat.le_refl _) _).grown gr.out (by simp) (by intro k hk; simp [Value.ownBlock] at hk; omega)
theorem Ints.kept {w w' : World} {base : Nat} {v : Value} {l : List Nat} (h : Ints w base v l) (ho : Only [] w w') : Ints w' base v l := by
  obtain ⟨h1, h2⟩ := h.own
  refine ⟨h1, h2.imp id ?_⟩
  rintro ⟨g, cap, cur, e1, e2, e3, e4⟩
  have hg : g < w.heap.size := (Array.getElem?_eq_some_iff.1 e3).1
  exact ⟨g, cap, cur, e1, e2, (ho.block g hg (by simp)).trans e3, e4⟩
theorem eqN_fr (z z' : Nat → Int) (q : Nat) : eqN 256 (fun j => z (256 * q + j)) (fun j => z' (256 * q + j)) = eqN 256 (fr z q) (fr z' q) := by
  have e : ∀ z : Nat → Int, (fun j => z (256 * q + j)) = fr z q := fun z => by funext j; unfold fr; rw [Nat.mul_comm]
  rw [e, e]
theorem ReadsI.kept {w w' : World} {pa : Option Addr} {l : List Nat} (h : ReadsI w pa l) (ho : Only [] w w') : ReadsI w' pa l := fun h0 => by
  obtain ⟨b, off, e, hc⟩ := h h0
  exact ⟨b, off, e, fun j hj => (ho.cell (World.block_lt_of_cell? w _ (hc j hj)) (by simp) _).trans (hc j hj)⟩
end Ph
namespace physClones
open Ph
set_option maxRecDepth 100000 in
set_option maxHeartbeats 1000000 in
theorem walk (nf : Int) (pc : Option Addr) (len cap : Nat) (x : Cs) (pc' : Option Addr) (len' cap' : Nat) (x' : Cs) (w : World) (hl : len ≤ maxLen) (hc : Ph.CallsIn w.heap.size w pc len x) (hl' : len' ≤ maxLen) (hc' : Ph.CallsIn w.heap.size w pc' len' x') :
    Calls Try.prog 4 #[.int .i64 nf, .slice pc len cap, .slice pc' len' cap'] w fun e w' => e = .returned (.bool true) ∧ Only [] w w' := by
  have HC := Lib.hid hc
  have HC' := Lib.hid hc'
  obtain ⟨i0, hi, hz0, hz1, hz2⟩ := info_parts infoI
  clear hc hc'
  go_enter Try.func4, Try.ntmps4
  go_wp2_with (go_at_call 8; refine (alive_any _).mono ?_; rintro e w0 ⟨rfl, O0⟩)
  refine (great_any w.heap.size pc len cap x w0 (HC.out.kept O0 (by simp)) hl).mono ?_
  rintro e w' ⟨g, rfl, rfl, hg⟩
  cases g
  case true =>
    go_wp2
    go_ret
    exact ⟨rfl, O0⟩
  case false =>
    obtain ⟨h60, h30⟩ := hg rfl
    have H30 := Lib.hid h30
    clear hg h30
    go_wp2_with fail
    refine (great_any w.heap.size pc' len' cap' x' w0 (HC'.out.kept O0 (by simp)) hl').mono ?_
    rintro e w' ⟨g, rfl, rfl, hg⟩
    cases g
    case true =>
      go_wp2
      go_ret
      exact ⟨rfl, O0⟩
    case false =>
      obtain ⟨h60', h30'⟩ := hg rfl
      have H30' := Lib.hid h30'
      clear hg h30'
      by_cases b1 : nf < 1
      · have d1 : decide (nf < 1) = true := by simpa using b1
        go_wp2
        go_ret
        exact ⟨rfl, O0⟩
      have d1 : decide (nf < 1) = false := by simpa using b1
      by_cases b2 : 40 < nf
      · have d2 : decide (40 < nf) = true := by simpa using b2
        go_wp2
        go_ret
        exact ⟨rfl, O0⟩
      have d2 : decide (40 < nf) = false := by simpa using b2
      obtain ⟨n, rfl⟩ := Int.eq_ofNat_of_zero_le (show 0 ≤ nf by omega)
      have h1 : 1 ≤ n := by omega
      have h2 : n ≤ 40 := by omega
      clear b1 b2
      go_wp2_with fail
      refine (new_any n w0 h1 (by omega)).mono ?_
      rintro e w1 ⟨m, F, c, rfl, hM, hO, hm, hF⟩
      have M1 := Lib.hid hM
      have O1 := Lib.hid (O0.next hO (by simp))
      have s0 := O0.size
      clear hM hO O0
      go_wp2_with fail
      refine (rnew_any n w1 h1 h2).mono ?_
      rintro e w2 ⟨r, G, rfl, hM, hO, hr, hG⟩
      have l1 := M1.out.lt
      have l2 := M1.out.row.lt
      have B2 : Hid (Both w2 m F n c r G (fun _ => 0)) := ⟨M1.out.kept hO (by simp) (by simp), hM, by omega, by omega, by omega, by omega⟩
      have O2 := Lib.hid (O1.out.next hO (by simp))
      have l3 := O1.out.size
      clear hM hO M1 O1
      go_wp2_with fail
      go_loopw [10] (fun i wr => ∃ k : Nat, k ≤ len ∧ i = .int .i64 k ∧ (∃ z, Both wr m F n c r G z) ∧ Only [] w wr) (fun i _ => len - (intOf i).toNat)
      case atStart => exact ⟨0, by omega, rfl, ⟨_, B2.out⟩, O2.out⟩
      case round =>
        obtain ⟨k, hk, rfl, ⟨z, hB⟩, hO⟩ := hrel
        have BH := Lib.hid hB
        have OH := Lib.hid hO
        clear hB hO B2 O2
        by_cases hlt : k < len
        · obtain ⟨b, off, epa, hbB, hcc⟩ := HC.out.kept OH.out (by simp) (by omega)
          subst epa
          have ck := hcc k hlt
          have c0 := ck.c0
          have c1 := ck.c1
          have c2 := ck.c2
          have c3 := ck.c3
          have c4 := ck.c4
          have CK := Lib.hid (ck.is (H30.out k hlt))
          clear hcc ck
          go_wp2_with (go_at_call 13; refine (told_any m F n c r G w.heap.size z (x.y k) (x.wh k) (x.nn k) (x.ad k) (x.vl k) (x.pa k) (x.l k) (x.cb k) _ BH.out (by omega) (by omega) CK.out).mono ?_; rintro e w3 ⟨rfl, ⟨z', hB3⟩, hO3⟩)
          go_roundw
          case rel => exact ⟨k + 1, by omega, by go_num, ⟨z', hB3⟩, OH.out.next hO3 (by simp; omega)⟩
          case measure => simp [intOf]; omega
        · have rh := BH.out.ref.head
          go_wp2_with fail
          clear hlt rh
          refine (copyB_cap G 0 (256 * n) (256 * n) z _ (by omega) (by omega) BH.out.ref.row.b8 (fun j hj => by rw [Nat.zero_add]; exact BH.out.ref.row.cell j hj)).mono ?_
          rintro e w4 ⟨og, oc, rfl, hR, hO, hog, hoc⟩
          have l5 := BH.out.mem.lt
          have l6 := BH.out.mem.row.lt
          have l7 := BH.out.ref.lt
          have l8 := BH.out.ref.row.lt
          have R4 := Lib.hid hR
          have B4 := Lib.hid (BH.out.kept hO (by simp) (by simp) (by simp) (by simp))
          have O4 := Lib.hid (OH.out.next hO (by simp))
          clear hR hO BH OH
          go_wp2_with fail
          refine (clone_any m F n c z _ B4.out.mem h1).mono ?_
          rintro e w5 ⟨dd, D, cd, rfl, hM, hO, hd, hD⟩
          have l9 := R4.out.lt
          have N5 := Lib.hid hM
          have R5 := Lib.hid (R4.out.kept hO (by simp))
          have B5 := Lib.hid (B4.out.kept hO (by simp) (by simp) (by simp) (by simp))
          have O5 := Lib.hid (O4.out.next hO (by simp))
          clear hM hO R4 B4 O4
          go_wp2_with fail
          go_loopw [13] (fun i wr => ∃ k : Nat, k ≤ len' ∧ i = .int .i64 k ∧ (∃ z, Both wr m F n c r G z) ∧ Only [F, G] w5 wr) (fun i _ => len' - (intOf i).toNat)
          case atStart => exact ⟨0, by omega, rfl, ⟨_, B5.out⟩, Only.refl _ _⟩
          case round =>
            obtain ⟨k', hk', rfl, ⟨z', hB⟩, hO⟩ := hrel
            have BH := Lib.hid hB
            have OH := Lib.hid (O5.out.next hO (by simp; omega))
            have N6 := Lib.hid (N5.out.kept hO (by simp; omega) (by simp; omega))
            have R6 := Lib.hid (R5.out.kept hO (by simp; omega))
            have OX := Lib.hid hO
            clear hB hO
            by_cases hlt : k' < len'
            · obtain ⟨b, off, epa, hbB, hcc⟩ := HC'.out.kept OH.out (by simp) (by omega)
              subst epa
              have ck := hcc k' hlt
              have c0 := ck.c0
              have c1 := ck.c1
              have c2 := ck.c2
              have c3 := ck.c3
              have c4 := ck.c4
              have CK := Lib.hid (ck.is (H30'.out k' hlt))
              clear hcc ck
              go_wp2_with (go_at_call 13; refine (told_any m F n c r G w.heap.size z' (x'.y k') (x'.wh k') (x'.nn k') (x'.ad k') (x'.vl k') (x'.pa k') (x'.l k') (x'.cb k') _ BH.out (by omega) (by omega) CK.out).mono ?_; rintro e w3 ⟨rfl, ⟨z'', hB3⟩, hO3⟩)
              go_roundw
              case rel => exact ⟨k' + 1, by omega, by go_num, ⟨z'', hB3⟩, OX.out.trans hO3⟩
              case measure => simp [intOf]; omega
            · go_wp2_with fail
              obtain ⟨wz, hwz⟩ : ∃ wz, wz = wr := ⟨_, rfl⟩
              subst hwz
              have own0 : Hid ((wz.alloc (.cells #[] 3)).ownsRow wz.heap.size 3 1 (.slice (some ⟨wz.heap.size, 0, none⟩) 0 0) 0 []) := World.ownsRow_lit wz #[] 0 (Nat.le_refl _) (by decide) rfl
              go_loopw [14, 15] (fun v i wq => ∃ k : Nat, k ≤ n ∧ i = .int .i64 k ∧ Ints wq wz.heap.size v (dl z z' k) ∧ Only [] wz wq) (fun _ i _ => n - (intOf i).toNat)
              case atStart => exact ⟨0, by omega, rfl, ⟨own0.out⟩, Only.alloc _ _ _⟩
              case round =>
                obtain ⟨q, hq, rfl, hI, hO⟩ := hrel
                have IH := Lib.hid hI
                have OQ := Lib.hid hO
                clear hI hO own0 N5 R5 B5 O5 OX
                by_cases hql : q < n
                · have BQ : Hid (Both wr.drew m F n c r G z') := (BH.out.kept OQ.out (by simp) (by simp) (by simp) (by simp)).kept (Only.drewN [] _ 1) (by simp) (by simp) (by simp) (by simp)
                  have RQ : Hid (Row wr.drew og (256 * n) z) := (R6.out.kept OQ.out (by simp)).kept (Only.drewN [] _ 1) (by simp)
                  have rh := BQ.out.ref.head
                  have b0 : (0 : Int) ≤ 256 * (q : Int) := by omega
                  have b1 : 256 * (q : Int) + 256 ≤ 256 * (n : Int) := by omega
                  have b2 : 256 * (q : Int) + 256 ≤ (oc : Int) := by omega
                  have b3 : (0 : Int) ≤ 256 * (q : Int) + 256 := by omega
                  have b4 : 256 * (q : Int) ≤ 256 * (q : Int) + 256 := by omega
                  have e1 : IntKind.i64.wrap (256 * (q : Int)) = 256 * q := IntWalk.i64_in _ ⟨by omega, by omega⟩
                  have e2 : IntKind.i64.wrap (256 * (q : Int) + 256) = 256 * q + 256 := IntWalk.i64_in _ ⟨by omega, by omega⟩
                  have e3 : max (256 * (q : Int) + 256) 0 = 256 * q + 256 := by omega
                  have e4 : (256 * (q : Int)).toNat = 256 * q := by omega
                  have e5 : (256 * (q : Int) + 256).toNat = 256 * q + 256 := by omega
                  have e6 : 256 * q + 256 - 256 * q = 256 := by omega
                  go_wp2_with fail
                  refine seal_tail (S := fun w' => w'.cell? ⟨r, 0, none⟩ = some (.slice (some ⟨G, 0, none⟩) (256 * n) (256 * n)) ∧ Both w' m F n c r G z' ∧ Row w' og (256 * n) z ∧ Mem w' dd D n cd z ∧ Ints w' wz.heap.size u14 (dl z z' q) ∧ Only [] wz w') 17 (by kernel_rfl) (by kernel_rfl) ⟨rh, BQ.out, RQ.out, (N6.out.kept OQ.out (by simp) (by simp)).kept (Only.drewN [] _ 1) (by simp) (by simp), ⟨IH.out.own⟩, OQ.out.trans (Only.drewN [] _ 1)⟩ ?_
                  rintro w8 ⟨rh8, B8, R8, N8, I8, O8⟩
                  have BX := Lib.hid B8
                  have RX := Lib.hid R8
                  have NX := Lib.hid N8
                  have IX := Lib.hid I8
                  have OX := Lib.hid O8
                  clear B8 R8 N8 I8 O8 rh BQ RQ
                  simp only [List.take_succ_cons, List.take_zero, List.drop_succ_cons, List.drop_zero]
                  iterate 17 (refine seal_next (fun K hK => ?_); go_simp; refine hK _ ?_; clear hK K)
                  refine seal_nil ?_
                  clear e1 e2 e3 e4 e5 e6
                  go_wp2_with fail
                  refine (same_any og (256 * q) G (256 * q) 256 _ _ (fun j => z (256 * q + j)) (fun j => z' (256 * q + j)) w8 (by decide) (fun j hj => RX.out.cell _ (by omega)) (fun j hj => BX.out.ref.row.cell _ (by omega))).mono ?_
                  rintro e w' ⟨rfl, t1, rfl⟩
                  rw [eqN_fr]
                  have hds := dl_succ z z' q
                  have hdn := dl_len z z' q
                  have es : eqN 256 (fun j => z (256 * q + j)) (fun j => z (256 * q + j)) = true := eqN_yes (fun _ _ => rfl)
                  have RY := Lib.hid (RX.out.kept (Only.drewN [] w8 t1) (by simp))
                  have NY := Lib.hid (NX.out.kept (Only.drewN [] w8 t1) (by simp) (by simp))
                  have IY : Hid (Ints (w8.drewN t1) wz.heap.size u14 (dl z z' q)) := ⟨IX.out.own⟩
                  have OY := Lib.hid (OX.out.trans (Only.drewN [] w8 t1))
                  clear BX RX NX IX OX
                  generalize w8.drewN t1 = w9 at *
                  cases hE : eqN 256 (fr z q) (fr z' q)
                  · rw [hE, if_neg (by decide)] at hds
                    have DS := Lib.hid hds
                    clear hds hE
                    have cell1 := cells1 w9 (.int .i64 q) 3
                    have C1 := Lib.hid cell1
                    clear cell1
                    have hz9 := OY.out.size
                    go_wp2_with (at_builtin; refine wpList_append_own _ rfl (.tmp 107) (.tmp 109) 49 rfl wz.heap.size 3 i0 (.int .i64 0) 1 8 Try.underlying49 hi hz0 hz1 hz2 rfl (by decide) u14 (dl z z' q).length (ints (dl z z' q)) rfl (IY.out.own.alloc _) ⟨w9.heap.size, 0, none⟩ 1 1 [.int .i64 q] rfl rfl C1.out (by simp [Value.oneCell']) (by unfold maxLen; omega) (by omega) (by simp; omega) ?_; intro v' wA hown hgrow hnil; have OW := Lib.hid hown; have GR := Lib.hid hgrow; clear hown hgrow hnil)
                    have OA : Hid (Only [] wz wA) := Only.of (((OY.out.below (Nat.le_refl _) (by simp)).alloc OY.out.size _).grown GR.out (by simp; omega) (fun j hj => (IY.out.own.lt j hj).1)) _
                    have NA := Lib.hid (N6.out.kept OA.out (by simp) (by simp))
                    have RA := Lib.hid (R6.out.kept OA.out (by simp))
                    have IA : Hid (Ints wA wz.heap.size v' (dl z z' (q + 1))) := ⟨by rw [DS.out, List.length_append, ints_append]; exact OW.out⟩
                    clear OW GR C1 RY NY IY OY
                    refine (frame_yes dd D n cd q z _ NA.out hql).mono ?_
                    rintro e wB ⟨g2, cg2, rfl, hR, hO, hg2⟩
                    have RB := Lib.hid hR
                    have PB := Lib.hid (RA.out.kept hO (by simp))
                    have OB := Lib.hid (OA.out.trans hO)
                    have IB : Hid (Ints wB wz.heap.size v' (dl z z' (q + 1))) := IA.out.kept hO
                    clear hR hO
                    go_wp2_with (go_at_call 19; refine (same_any g2 0 og (256 * q) 256 cg2 _ _ _ _ (by decide) (fun j hj => by rw [Nat.zero_add]; exact RB.out.cell j hj) (fun j hj => PB.out.cell _ (by omega))).mono ?_; rintro e w' ⟨rfl, t2, rfl⟩; rw [es])
                    go_roundw
                    case rel => exact ⟨q + 1, by omega, by go_num, ⟨IB.out.own⟩, OB.out.trans (Only.drewN [] _ t2)⟩
                    case measure => simp [intOf]; omega
                  · rw [hE, if_pos rfl, List.append_nil] at hds
                    have DS := Lib.hid hds
                    clear hds hE
                    have IA : Hid (Ints w9 wz.heap.size u14 (dl z z' (q + 1))) := by rw [DS.out]; exact IY.out
                    go_wp2_with fail
                    refine (frame_yes dd D n cd q z _ NY.out hql).mono ?_
                    rintro e wB ⟨g2, cg2, rfl, hR, hO, hg2⟩
                    have RB := Lib.hid hR
                    have PB := Lib.hid (RY.out.kept hO (by simp))
                    have OB := Lib.hid (OY.out.trans hO)
                    have IB : Hid (Ints wB wz.heap.size u14 (dl z z' (q + 1))) := IA.out.kept hO
                    clear hR hO
                    go_wp2_with (go_at_call 19; refine (same_any g2 0 og (256 * q) 256 cg2 _ _ _ _ (by decide) (fun j hj => by rw [Nat.zero_add]; exact RB.out.cell j hj) (fun j hj => PB.out.cell _ (by omega))).mono ?_; rintro e w' ⟨rfl, t2, rfl⟩; rw [es])
                    go_roundw
                    case rel => exact ⟨q + 1, by omega, by go_num, ⟨IB.out.own⟩, OB.out.trans (Only.drewN [] _ t2)⟩
                    case measure => simp [intOf]; omega
                · have e : q = n := by omega
                  subst e
                  obtain ⟨pw, cw, rfl, hRW⟩ := IH.out.reads
                  have BQ := Lib.hid (BH.out.kept OQ.out (by simp) (by simp) (by simp) (by simp))
                  have NQ := Lib.hid (N6.out.kept OQ.out (by simp) (by simp))
                  have RW := Lib.hid hRW
                  have OA := Lib.hid (OH.out.next OQ.out (by simp))
                  have hdn := dl_len z z' q
                  clear hRW IH OQ
                  go_wp2_with fail
                  refine (differ_any m F q c dd D cd _ _ _ BQ.out.mem NQ.out).mono ?_
                  rintro e wB ⟨pa, cc, rfl, hR, hO⟩
                  rw [dl_comm z' z] at hR ⊢
                  have B1 := Lib.hid (BQ.out.kept hO (by simp) (by simp) (by simp) (by simp))
                  have N1 := Lib.hid (NQ.out.kept hO (by simp) (by simp))
                  have W1 := Lib.hid (RW.out.kept hO)
                  have R1 := Lib.hid hR
                  have O1 := Lib.hid (OA.out.next hO (by simp))
                  clear hR hO BQ NQ RW OA
                  go_wp2_with fail
                  refine (ints_same pa pw (dl z z' q).length cc cw (dl z z' q) _ rfl (by omega) R1.out W1.out).mono ?_
                  rintro e w' ⟨rfl, t1, rfl⟩
                  have B2 := Lib.hid (B1.out.kept (Only.drewN [] wB t1) (by simp) (by simp) (by simp) (by simp))
                  have N2 := Lib.hid (N1.out.kept (Only.drewN [] wB t1) (by simp) (by simp))
                  have W2 := Lib.hid (W1.out.kept (Only.drewN [] wB t1))
                  have O2 := Lib.hid (O1.out.next (Only.drewN [] wB t1) (by simp))
                  clear B1 N1 W1 R1 O1
                  generalize wB.drewN t1 = wC at *
                  go_wp2_with fail
                  refine (differ_any dd D q cd m F c _ _ _ N2.out B2.out.mem).mono ?_
                  rintro e wD ⟨pa2, cc2, rfl, hR, hO⟩
                  have N3 := Lib.hid (N2.out.kept hO (by simp) (by simp))
                  have W3 := Lib.hid (W2.out.kept hO)
                  have R3 := Lib.hid hR
                  have O3 := Lib.hid (O2.out.next hO (by simp))
                  clear hR hO B2 N2 W2 O2
                  go_wp2_with fail
                  refine (ints_same pa2 pw (dl z z' q).length cc2 cw (dl z z' q) _ rfl (by omega) R3.out W3.out).mono ?_
                  rintro e w' ⟨rfl, t2, rfl⟩
                  have N4 := Lib.hid (N3.out.kept (Only.drewN [] wD t2) (by simp) (by simp))
                  have O4 := Lib.hid (O3.out.next (Only.drewN [] wD t2) (by simp))
                  clear N3 W3 R3 O3
                  generalize wD.drewN t2 = wE at *
                  go_wp2_with fail
                  refine (clone_any dd D q cd z _ N4.out h1).mono ?_
                  rintro e wF ⟨ee, E, ce, rfl, hM, hO, he, hE⟩
                  have Q5 := Lib.hid hM
                  have N5 := Lib.hid (N4.out.kept hO (by simp) (by simp))
                  have O5 := Lib.hid (O4.out.next hO (by simp))
                  clear hM hO N4 O4
                  go_wp2_with fail
                  refine (differ_any dd D q cd ee E ce _ _ _ N5.out Q5.out).mono ?_
                  rintro e wG ⟨pa3, cc3, rfl, hR, hO⟩
                  rw [dl_self]
                  have O6 := Lib.hid (O5.out.next hO (by simp))
                  clear hR hO N5 Q5 O5
                  go_wp2
                  go_ret
                  exact ⟨rfl, O6.out⟩
theorem own : ownKnob Try.prog.godebug = none := by kernel_rfl
theorem laidOut : laidOutB Try.prog = true := by kernel_rfl
set_option maxRecDepth 100000 in
theorem lifted (os : Os) (started : os.Started) (H : Type) (enc : TypeId × Value → H) :
    ReturnsInHanded {} Try.checked os 4 .any (Rows.physClonesSpec.pre6 enc Try.prog Try.f4 Rows.physClonesRow.domain false) (Rows.physClonesSpec.post enc Try.prog Try.f4 false true false false) := by
  refine returnsInHanded_of_change_sized (C := Try.checked) own started (by kernel_rfl) Try.func4
    (ChangeSpec.witness6 (enc := enc) (C := Try.checked) false ⟨#[], #[.int .i64 0, .slice none 0 0, .slice none 0 0], []⟩ 8 (by kernel_rfl) (by kernel_rfl) (by kernel_rfl) (by kernel_rfl)) ?_
  intro W base args ds gs before hval0 hW hcnd hZ0 _
  have hval : ∀ (j : Nat) t v, Try.f4.params[j]? = some t → args[j]? = some v → Value.okWide Try.prog W .any base t v := hval0
  have hZ : ∀ n ∈ DataW.weightsEach Try.prog (Try.f4.params.toList ++ []) (ds ++ gs), n ≤ reachBytes := fun n hn => of_decide_eq_true (List.all_eq_true.1 hZ0 n hn)
  have hW' := hW
  obtain ⟨p, q, hA0, hV, rfl, hfz, hnd⟩ := hW
  have hA : DataW.TrodAll enc Try.prog W 0 (fun _ => true) true Try.f4.params.toList args.toList ds p := hA0
  rw [Try.params4] at hA hval hZ
  obtain ⟨v0, vs0, d0, ds0, p0, q0, hargs, rfl, rfl, h0, r0⟩ := trodAll_cons hA
  obtain ⟨v1, vs1, d1, ds1, p1, q1, rfl, rfl, rfl, h1, r1⟩ := trodAll_cons r0
  obtain ⟨v2, vs2, d2, ds2, p2, q2, rfl, rfl, rfl, h2, r2⟩ := trodAll_cons r1
  obtain ⟨rfl, rfl, rfl⟩ := trodAll_nil r2
  obtain rfl : args = #[v0, v1, v2] := by cases args; simp_all
  obtain ⟨rfl, rfl⟩ := trodVars_none hV
  obtain ⟨x0, rfl, rfl, rfl, w0⟩ := open_int Try.underlying3 (hval 0 3 v0 rfl rfl) h0
  have k1 := h1
  have hz1 : ∀ n ∈ d1.weights Try.prog 22, n ≤ reachBytes := fun n hn => hZ n (by simp only [List.append_nil, DataW.weightsEach, List.mem_append]; exact Or.inr (Or.inl hn))
  obtain ⟨a1, n1, c1, y1, rfl, m1, lt1, z1⟩ := calls_open (hval 1 22 v1 rfl rfl) h1 hz1
  have k2 := h2
  have hz2 : ∀ n ∈ d2.weights Try.prog 22, n ≤ reachBytes := fun n hn => hZ n (by simp only [List.append_nil, DataW.weightsEach, List.mem_append]; exact Or.inr (Or.inr (hn)))
  obtain ⟨a2, n2, c2, y2, rfl, m2, lt2, z2⟩ := calls_open (hval 2 22 v2 rfl rfl) h2 hz2
  clear hA0 hval0 hZ0
  refine (walk x0 a1 n1 c1 y1 a2 n2 c2 y2 W m1 z1 m2 z2).mono fun e W' ⟨he, ho⟩ => ?_
  subst he
  have bel : Below W.heap.size W W' := ho.below (Nat.le_refl _) (by simp)
  exact ⟨_, rfl, _, _, _, [], _, [], hW', trodAll_mk1 (shut_bool Try.underlying4 _), (trodAll_cons_mk (shut_int Try.underlying3 w0) (trodAll_cons_mk (Below.trod laidOut (by kernel_rfl) (of_decide_eq_true (by kernel_rfl)) k1 bel lt1) (trodAll_cons_mk (Below.trod laidOut (by kernel_rfl) (of_decide_eq_true (by kernel_rfl)) k2 bel lt2) trodAll_mk0))), rfl, bel.frame _, fun h => by cases h⟩
theorem over : Rows.physClonesRow.holds Try.pinned (OpenSpec.ofChange Rows.physClonesSpec) :=
  OpenClaim.holds_of_wide 4 Try.f4 rfl rfl rfl rfl rfl rfl rfl ⟨rfl, rfl, rfl, rfl, rfl⟩ rfl rfl rfl rfl rfl (by kernel_rfl) Try.func4 (by kernel_rfl)
    (of_decide_eq_true (by kernel_rfl)) (by unfold Func.isWrapper; first | (rw [if_pos (by decide +kernel)]; kernel_rfl) | (rw [if_neg (by decide +kernel)]; exact ⟨rfl, rfl⟩))
    (fun os started H enc _ => lifted os started H enc)
end physClones
/-- The statement. -/
theorem physClones_holds : Rows.PhysClonesSaid := physClones.over
#print axioms physClones_holds
end Go.Proofs.Ytpnpcmclpmldmaa
