/-
  StageBreaks: no valid word stands in an entry right behind another valid one: it is made nought first, and the TLB is dropped; the log is all that is put into tables: for every input true, and the input reads as it did; no condition.
-/
import Derived.Test.YtiiggmfindfkfaaGreatStOpen
import Derived.Test.YtiiggmfindfkfaaGreatStBrk
namespace Go.Proofs.YtiiggmfindfkfaaGreat
open Go.ChangeShapes Go.WideShapes Go.ChangeAt Go.RowKit Go.Deep Nt
namespace stageBreaks
open St
open Ph (Only)
open Ph En Wk
set_option maxRecDepth 100000 in
set_option maxHeartbeats 16000000 in
theorem walk (n away : Int) (a2 : Option Addr) (n2 c2 : Nat) (y2 : Nat → Cq) (w : World) (hx2 : SCalls w.heap.size w a2 n2 y2) (hl2 : n2 ≤ c2 ∧ c2 ≤ maxLen) :
    Calls Tryz.prog 4 #[.int .i64 n, .int .i64 away, .slice a2 n2 c2] w fun e w' => e = .returned (.bool true) ∧ Below w.heap.size w w' := by
  have HX2 := Lib.hid hx2
  have hm2 : n2 ≤ maxLen := by omega
  unfold maxLen at hm2
  clear hx2 hl2
  go_enter Tryz.func4, Tryz.ntmps4
  go_wp2_with fail
  have UB := Lib.hid (Below.refl w.heap.size w)
  refine (alive_any w).mono ?_
  rintro e u1 ⟨rfl, b1⟩
  have U1 := Lib.hid (UB.out.trans (b1.mono UB.out.size))
  clear b1 UB
  go_wp2_with fail
  by_cases hg : gr n away n2
  · refine (great_yes n away a2 n2 c2 u1 hg).mono ?_
    rintro e w' ⟨rfl, rfl⟩
    clear hg
    go_wp2_with fail
    go_ret
    exact ⟨rfl, U1.out⟩
  have hN : 1 ≤ n ∧ n ≤ 300 ∧ 0 ≤ away ∧ away < n ∧ n2 ≤ 24 := by unfold gr at hg; omega
  obtain ⟨N, rfl⟩ := Int.eq_ofNat_of_zero_le (show 0 ≤ n by omega)
  obtain ⟨aw, rfl⟩ := Int.eq_ofNat_of_zero_le (show 0 ≤ away by omega)
  have haw : aw < N := by omega
  have hN3 : N ≤ 300 := by omega
  have h24 : n2 ≤ 24 := by omega
  clear hg hN
  refine (great_no N aw a2 n2 c2 u1 h24 haw hN3).mono ?_
  rintro e w' ⟨rfl, rfl⟩
  go_wp2_with fail
  refine (begin_any N aw u1 (by omega) haw).mono ?_
  rintro e u2 ⟨g, L, v, rfl, D, hb, hn, hvm, hroom⟩
  have D0 := Lib.hid D
  have U2 := Lib.hid (U1.out.trans (hb.mono U1.out.size))
  have HL := Lib.hid (And.intro hn (And.intro hvm hroom))
  have R0 := Lib.hid (show Rep L.n (beg N aw 8) (fun _ => Fst.no) by rw [hn]; exact beg_rep (by omega) haw)
  have I0 := Lib.hid (show Inv L.n (N - aw) (beg N aw 8).root (beg N aw 8).os (fun _ => Fst.no) by rw [hn]; exact inv_beg haw 8)
  have z1 := Lib.hid U1.out.size
  have T0 := Lib.hid (show Tw (beg N aw 8).ps from tw_new 8)
  clear D hb hn hvm hroom U1
  generalize beg N aw 8 = x0 at *
  go_wp2_with fail
  go_loopw [8] (fun q wr => ∃ (i : Nat) (v' : Value) (x : Pl) (A : Nat → Fst), q = .int .i64 i ∧ i ≤ n2 ∧ Wd u1.heap.size g L wr v' x ∧ Rep L.n x A ∧ Tw x.ps ∧ Below w.heap.size w wr) (fun q _ => n2 - (intOf q).toNat)
  case atStart => exact ⟨0, v, x0, _, rfl, Nat.zero_le _, D0.out, R0.out, T0.out, U2.out⟩
  case round =>
    obtain ⟨i, v', x, A, rfl, hi, hD, hR, hT, hU⟩ := hrel
    have D1 := Lib.hid hD
    have R1 := Lib.hid hR
    have T1 := Lib.hid hT
    have U3 := Lib.hid hU
    clear hD hR hT hU D0 U2 T0 R0 I0
    by_cases hlt : i < n2
    · have j0 := D1.out.c.1
      go_wp2_with fail
      refine (Ph.clone_any L.m L.F L.n L.c x.z wr D1.out.st.mem (by have := HL.out.1; omega)).mono ?_
      rintro e q1 ⟨m', F', c', rfl, hM, hO, hm', hF'⟩
      have bO := hO.below (B := wr.heap.size) (Nat.le_refl _) (by simp)
      have OM := Lib.hid (D1.out.offs hm')
      have OF := Lib.hid (D1.out.offs hF')
      have LM := Lib.hid (And.intro hM.lt hM.row.lt)
      have GM := Lib.hid (And.intro hm' (And.intro hF' U3.out.size))
      have M2 := Lib.hid hM
      have D2 := Lib.hid (D1.out.below bO)
      have S2 := Lib.hid D1.out.st
      have U4 := Lib.hid (U3.out.trans (bO.mono U3.out.size))
      have j1 := D2.out.c.2.1
      clear hM hO bO hm' hF' D1 U3 j0
      go_wp2_with fail
      refine (Fr.list_any L.t L.tF 1 x.os q1 D2.out.st.tab (D2.out.st.lts _ (by simp [Loc.all])) (D2.out.st.lts _ (by simp [Loc.all]))).mono ?_
      rintro e q2 ⟨va, rfl, hs, hb⟩
      obtain ⟨lo, hlo⟩ : ∃ lo, lo = Fr.which 1 x.os := ⟨_, rfl⟩
      rw [← hlo] at hs
      have LO := Lib.hid hlo
      have lo3 : lo.length ≤ 1024 := by rw [hlo]; exact Nat.le_trans (Fr.which_len 1 x.os) D2.out.st.tab.len
      have V3 := Lib.hid (Fr.Seen.mono hs (Nat.succ_le_of_lt LM.out.2))
      have SZ := Lib.hid (show wr.heap.size ≤ F' + 1 from by have := GM.out.2.1; omega)
      have D3 := Lib.hid (D2.out.below hb)
      have M3 := Lib.hid (M2.out.kept (Only.of hb []) (by simp) (by simp))
      have U5 := Lib.hid (U4.out.trans (hb.mono U4.out.size))
      have j2 := D3.out.c.2.2.1
      clear hs hb hlo D2 M2 U4 j1
      go_wp2_with fail
      refine (Tl.fill_any L.p L.pm L.room x.next x.ps s7 q2 D3.out.st.tlb (by unfold Tl.W64; decide) (by unfold Tl.W64; decide)).mono ?_
      rintro e q3 ⟨rfl, hT, hO⟩
      have TW := Lib.hid (twins (by rw [D3.out.st.tlb.len]; exact D3.out.st.tlb.nlt) (by rw [D3.out.st.tlb.len, HL.out.2.2]; omega) T1.out)
      rw [D3.out.st.tlb.len] at TW
      obtain ⟨ps1, hps1⟩ : ∃ ps1, ps1 = Tl.fillP x.next x.ps s7 := ⟨_, rfl⟩
      obtain ⟨nx1, hnx1⟩ : ∃ nx1, nx1 = Tl.fillN L.room x.next x.ps s7 := ⟨_, rfl⟩
      rw [← hps1, ← hnx1] at hT TW
      have D4 := Lib.hid (D3.out.tlb hT hO (by simp))
      have bo := D3.out.belT hO (by simp)
      have U6 := Lib.hid (U5.out.trans (bo.mono z1.out))
      have M4 := Lib.hid (M3.out.kept hO (by simp only [List.mem_cons, List.not_mem_nil, or_false, not_or]; exact ⟨fun e => OM.out.1 (by rw [e]; simp [Loc.all]), fun e => OM.out.1 (by rw [e]; simp [Loc.all])⟩) (by simp only [List.mem_cons, List.not_mem_nil, or_false, not_or]; exact ⟨fun e => OF.out.1 (by rw [e]; simp [Loc.all]), fun e => OF.out.1 (by rw [e]; simp [Loc.all])⟩))
      have LP := Lib.hid (show L.p < F' + 1 ∧ L.pm < F' + 1 from ⟨Nat.lt_of_lt_of_le (S2.out.lts L.p (by simp [Loc.all])) SZ.out, Nat.lt_of_lt_of_le (S2.out.lts L.pm (by simp [Loc.all])) SZ.out⟩)
      have V4 := Lib.hid (V3.out.kept hO (by simp only [List.mem_cons, List.not_mem_nil, or_false]; rintro y (rfl | rfl); exact LP.out.1; exact LP.out.2))
      have R2 := Lib.hid ((R1.out.psd ps1).nxt nx1)
      have j2 := D4.out.c.2.2.1
      clear hT hO hps1 hnx1 bo D3 M3 V3 U5 R1 T1
      go_wp2_with fail
      refine (Tl.fill_any L.p L.pm L.room nx1 ps1 s8 q3 D4.out.st.tlb (by unfold Tl.W64; decide) (by unfold Tl.W64; decide)).mono ?_
      rintro e q4 ⟨rfl, hT, hO⟩
      obtain ⟨ps2, hps2⟩ : ∃ ps2, ps2 = Tl.fillP nx1 ps1 s8 := ⟨_, rfl⟩
      obtain ⟨nx2, hnx2⟩ : ∃ nx2, nx2 = Tl.fillN L.room nx1 ps1 s8 := ⟨_, rfl⟩
      rw [← hps2] at TW
      rw [← hps2, ← hnx2] at hT
      have D5 := Lib.hid (D4.out.tlb hT hO (by simp))
      have bo := D4.out.belT hO (by simp)
      have U7 := Lib.hid (U6.out.trans (bo.mono z1.out))
      have M5 := Lib.hid (M4.out.kept hO (by simp only [List.mem_cons, List.not_mem_nil, or_false, not_or]; exact ⟨fun e => OM.out.1 (by rw [e]; simp [Loc.all]), fun e => OM.out.1 (by rw [e]; simp [Loc.all])⟩) (by simp only [List.mem_cons, List.not_mem_nil, or_false, not_or]; exact ⟨fun e => OF.out.1 (by rw [e]; simp [Loc.all]), fun e => OF.out.1 (by rw [e]; simp [Loc.all])⟩))
      have V5 := Lib.hid (V4.out.kept hO (by simp only [List.mem_cons, List.not_mem_nil, or_false]; rintro y (rfl | rfl); exact LP.out.1; exact LP.out.2))
      have R3 := Lib.hid ((R2.out.psd ps2).nxt nx2)
      have LO := Lib.hid (show lo = Fr.which 1 x.os from LO.out)
      obtain ⟨b, off, rfl, hbl, hcl⟩ := HX2.out.at U7.out hlt
      obtain ⟨k0, k1, k2, k3, k4⟩ := hcl
      have j3 := D5.out.c.2.2.2
      have D6 := Lib.hid (D5.out.drewN 1)
      have M6 := Lib.hid (M5.out.kept (Only.drewN [] q4 1) (by simp) (by simp))
      have V6 := Lib.hid (V5.out.kept (Only.drewN [] q4 1) (by simp))
      have U8 := Lib.hid (U7.out.drew)
      change Hid (Wd _ _ _ q4.drew _ _) at D6
      change Hid (Mem q4.drew _ _ _ _ _) at M6
      change Hid (Fr.Seen _ q4.drew _ _) at V6
      clear hT hO hps2 hnx2 bo D4 M4 V4 U6 R2 D5 M5 V5 U7 j2 hbl
      go_wp2_with fail
      refine wp_region_still_tail 8 (by kernel_rfl) (by kernel_rfl) ?_
      simp only [List.take_succ_cons, List.take_zero, List.drop_succ_cons, List.drop_zero]
      change wpStill _ _ q4.drew (fun a' => wpList _ _ _ _ a' q4.drew) _ _
      repeat still_step
      refine wpStill_nil ?_
      clear k0 k1 k2 k3 k4 j3
      generalize q4.drew = q5 at *
      go_wp2_with fail
      refine (doL_any (y2 i) q5 D6.out.st (fun _ => R3.out)).mono ?_
      rintro e q6 ⟨rfl, v5, hS, hP⟩
      obtain ⟨gk, g6, tk, gv, hd⟩ := stepR_good (n := L.n) (vm := L.vm) R3.out (y2 i)
      have hln := stepR_len (n := L.n) (vm := L.vm) R3.out (y2 i)
      have D7 := Lib.hid (D6.out.hop hS hP)
      have bo := D6.out.bel hP
      have U9 := Lib.hid (U8.out.trans (bo.mono z1.out))
      have M7 := Lib.hid (mem_hop M6.out S2.out GM.out.1 GM.out.2.1 hP)
      have V7 := Lib.hid (seen_hop V6.out S2.out SZ.out hP)
      have OF7 := Lib.hid (OF.out.hop (by have := M6.out.row.lt; exact this) hP)
      have CH := Lib.hid hd.frm
      have TK := Lib.hid (fun z => tkn_did hd (by exact R3.out.noLog) z)
      have GK := Lib.hid gk
      have R7 := Lib.hid g6
      generalize stepR L.n L.vm _ A (y2 i) = r at *
      obtain ⟨rk, xr, Ar⟩ := r
      simp only at D7 R7 hln
      change Hid (From L.n L.vm (filO x.z tk) ps2 xr) at CH
      change Hid (∀ z, tkn z (Fr.which 1 x.os) (Fr.which 1 xr.os) = filO z tk) at TK
      change Hid (rk ≠ 0 → xr = _ ∧ Ar = A) at GK
      have GK2 := Lib.hid (show rk ≠ 0 → xr.log = [] ∧ xr.z = x.z from fun h => by have := (GK.out h).1; rw [this]; exact ⟨rfl, rfl⟩)
      clear hS hP bo gk g6 hd D6 U8 M6 V6 R3 GK OF S2
      have j3 := D7.out.c.2.2.2
      go_wp2_with fail
      refine (log_any q6 D7.out.st (by omega)).mono ?_
      rintro e q7 ⟨ul, rfl, hd, hb⟩
      obtain ⟨la, lc, rfl⟩ := deeds_form hd
      have SL := Lib.hid ((deeds_row hd).mono (Nat.succ_le_of_lt M7.out.row.lt))
      have D8 := Lib.hid (D7.out.below hb)
      have M8 := Lib.hid (M7.out.kept (Only.of hb []) (by simp) (by simp))
      have V8 := Lib.hid (V7.out.kept (Only.of hb []) (by simp))
      have U10 := Lib.hid (U9.out.trans (hb.mono U9.out.size))
      clear hd hb D7 M7 V7 U9 j3
      have WAY : ∃ q8 : World, q8 = q7 := ⟨q7, rfl⟩
      clear WAY
      by_cases hk0 : rk = 0
      · subst hk0
        have j1 := D8.out.c.2.1
        go_wp2_with fail
        have D9 := Lib.hid D8.out
        have M9 := Lib.hid M8.out
        have V9 := Lib.hid V8.out
        have SL9 := Lib.hid SL.out
        have U11 := Lib.hid U10.out
        clear D8 M8 V8 SL U10 GK2
        generalize q7 = q8 at *
        obtain ⟨rk, hrk⟩ : ∃ rk : Int, rk = 0 := ⟨0, rfl⟩
        clear hrk
        refine (Fr.list_any L.t L.tF 1 xr.os q8 D9.out.st.tab (D9.out.st.lts _ (by simp [Loc.all])) (D9.out.st.lts _ (by simp [Loc.all]))).mono ?_
        rintro e r1 ⟨vb, rfl, hs, hb⟩
        obtain ⟨ln, hlnn⟩ : ∃ ln, ln = Fr.which 1 xr.os := ⟨_, rfl⟩
        rw [← hlnn] at hs
        have LN := Lib.hid hlnn
        have ln3 : ln.length ≤ 1024 := by rw [hlnn]; exact Nat.le_trans (Fr.which_len 1 xr.os) D9.out.st.tab.len
        have ltn := fun t (ht : t ∈ ln) => which_lt (o := 1) (os := xr.os) (t := t) (by rw [← hlnn]; exact ht)
        have W1 := Lib.hid (Fr.Seen.mono hs (Nat.succ_le_of_lt M9.out.row.lt))
        have E1 := Lib.hid (D9.out.below hb)
        have N1 := Lib.hid (M9.out.kept (Only.of hb []) (by simp) (by simp))
        have X1 := Lib.hid (V9.out.kept (Only.of hb []) (by simp))
        have SL1 := Lib.hid (SL9.out.kept (Only.of hb []) (by simp))
        have U12 := Lib.hid (U11.out.trans (hb.mono U11.out.size))
        have CT := Lib.hid (taken_any m' F' L.n c' x.z lo ln va vb r1 N1.out X1.out W1.out (fun t ht => by have := ltn t ht; rw [← R7.out.len]; exact this) lo3 ln3)
        have EK := Lib.hid (show tkn x.z lo ln = filO x.z tk by rw [LO.out, LN.out]; exact TK.out x.z)
        clear hs hb hlnn ltn D9 M9 V9 SL9 U11 LN lo3 ln3 TK j1
        go_wp2_with fail
        refine CT.out.mono ?_
        rw [EK.out]
        rintro e r2 ⟨rfl, hM, hO⟩
        have OS := Lib.hid (show ∀ k ∈ [F'], Off L g v5 k from by simp only [List.mem_cons, List.not_mem_nil, or_false]; rintro k rfl; exact OF7.out)
        have E2 := Lib.hid (E1.out.side hO OS.out)
        have N2 := Lib.hid hM
        have SL2 := Lib.hid (SL1.out.kept hO (by simp))
        have FB := Lib.hid (show w.heap.size ≤ F' from Nat.le_trans GM.out.2.2 GM.out.2.1)
        have U13 := Lib.hid (U12.out.trans (hO.below U12.out.size (by simpa using FB.out)))
        clear hM hO E1 N1 X1 W1 SL1 U12 CT EK
        go_wp2_with fail
        refine (replay_any m' F' L.n c' (filO x.z tk) xr.log _ r2 N2.out SL2.out CH.out.ch (by omega)).mono ?_
        rw [← CH.out.z]
        rintro e r3 ⟨rfl, hM, hO⟩
        have E3 := Lib.hid (E2.out.side hO OS.out)
        have N3 := Lib.hid hM
        have SL3 := Lib.hid (SL2.out.kept hO (by simp))
        have U14 := Lib.hid (U13.out.trans (hO.below U13.out.size (by simpa using FB.out)))
        have j0 := E3.out.c.1
        clear hM hO E2 N2 SL2 U13
        go_wp2_with fail
        refine (Ph.differ_any m' F' L.n c' L.m L.F L.c xr.z xr.z r3 N3.out E3.out.st.mem).mono ?_
        rw [dl_same]
        rintro e r4 ⟨pd', cd', rfl, hRd, hO⟩
        have bO := hO.below (B := r3.heap.size) (Nat.le_refl _) (by simp)
        have E4 := Lib.hid (E3.out.below bO)
        have SL4 := Lib.hid (SL3.out.kept (Only.of bO []) (by simp))
        have U15 := Lib.hid (U14.out.trans (bO.mono U14.out.size))
        clear hRd hO bO E3 N3 SL3 U14 j0
        simp only [List.length_nil]
        go_wp2_with fail
        go_loop [13, 14] (fun f q => ∃ j : Nat, q = .int .i64 j ∧ j ≤ xr.log.length ∧ f = .bool (drN xr.log j)) (fun _ q => xr.log.length - (intOf q).toNat)
        case atStart => exact ⟨0, rfl, Nat.zero_le _, by rw [drN_zero]⟩
        case round =>
          obtain ⟨j, rfl, hj, rfl⟩ := hrel
          by_cases hjl : j < xr.log.length
          · obtain ⟨d, hd⟩ : ∃ d, xr.log[j]? = some d := ⟨_, List.getElem?_eq_getElem hjl⟩
            obtain ⟨ga, gc, hge, hgr⟩ := SL4.out
            injection hge with hge _ _
            subst hge
            obtain ⟨gb, rfl, hgB, hglt, hgc⟩ := hgr (by omega)
            have kd := (hgc j d hd).1
            have DN := Lib.hid (drN_next hd)
            have hjl' : (j : Int) < (xr.log.length : Int) := by omega
            have DK := Lib.hid (isDrop_kind d)
            clear hgr hgc hgB hd
            cases hq : drN xr.log j with
            | true =>
              rw [hq] at DN
              have DN := Lib.hid DN.out
              clear hq
              go_wp2_with fail
              go_round
              case rel => exact ⟨j + 1, by go_num, by omega, by rw [DN.out]; rfl⟩
              case measure => simp only [intOf, Int.toNat_natCast]; omega
            | false =>
              rw [hq] at DN
              have DN := Lib.hid DN.out
              clear hq
              go_wp2_with fail
              go_round
              case rel => exact ⟨j + 1, by go_num, by omega, by rw [DN.out, DK.out, Bool.false_or]⟩
              case measure => simp only [intOf, Int.toNat_natCast]; omega
          · obtain rfl : j = xr.log.length := by omega
            rw [drN_all]
            obtain ⟨k7, k8, hk7, hk8⟩ := TW.out
            obtain ⟨f7, f8, tw'⟩ := twins_end hk7 hk8 (show xr.ps = _ by have := CH.out.ps; rw [HL.out.2.1] at this; exact this)
            have F7 := Lib.hid f7
            have F8 := Lib.hid f8
            have T9 := Lib.hid tw'
            clear hk7 hk8 f7 f8 tw'
            obtain ⟨db, hdb⟩ : ∃ db, db = xr.log.any Deed.isDrop := ⟨_, rfl⟩
            rw [← hdb] at F7 ⊢
            clear hdb
            have j2 := E4.out.c.2.2.1
            go_wp2_with fail
            refine (Tl.find_any L.p L.pm L.room xr.next xr.ps 7 1 r4 E4.out.st.tlb (by unfold Tl.W64; decide) (by unfold Tl.W64; decide)).mono ?_
            rw [F7.out]
            generalize ((Tl.findP 7 1 0 xr.ps).getD Tl.zeroH).2 = sl7
            rintro e r5 ⟨rfl, b5⟩
            have E5 := Lib.hid (E4.out.below b5)
            have U16 := Lib.hid (U15.out.trans (b5.mono U15.out.size))
            clear b5 E4 U15 j2
            obtain ⟨s0, s1, s2, s3, s4⟩ := sl7
            have E6 := Lib.hid (E5.out.alloc (.cells #[.int .i64 s0, .int .i64 s1, .int .i64 s2, .bool s3, .bool s4] 46))
            have U17 := Lib.hid (U16.out.alloc U16.out.size (.cells #[.int .i64 s0, .int .i64 s1, .int .i64 s2, .bool s3, .bool s4] 46))
            have j2 := E6.out.c.2.2.1
            clear E5 U16
            go_wp2_with fail
            generalize r5.alloc (.cells #[.int .i64 s0, .int .i64 s1, .int .i64 s2, .bool s3, .bool s4] 46) = r6 at *
            refine (Tl.find_any L.p L.pm L.room xr.next xr.ps 8 1 r6 E6.out.st.tlb (by unfold Tl.W64; decide) (by unfold Tl.W64; decide)).mono ?_
            rw [F8.out]
            generalize ((Tl.findP 8 1 0 xr.ps).getD Tl.zeroH).2 = sl8
            rintro e r7 ⟨rfl, b7⟩
            have E7 := Lib.hid (E6.out.below b7)
            have U18 := Lib.hid (U17.out.trans (b7.mono U17.out.size))
            clear b7 E6 U17 j2
            obtain ⟨q0, q1', q2', q3', q4'⟩ := sl8
            have E8 := Lib.hid (E7.out.alloc (.cells #[.int .i64 q0, .int .i64 q1', .int .i64 q2', .bool q3', .bool q4'] 46))
            have U19 := Lib.hid (U18.out.alloc U18.out.size (.cells #[.int .i64 q0, .int .i64 q1', .int .i64 q2', .bool q3', .bool q4'] 46))
            clear E7 U18
            have db2 : (!db == db) = false := by cases db <;> rfl
            go_wp2_with fail
            generalize r7.alloc (.cells #[.int .i64 q0, .int .i64 q1', .int .i64 q2', .bool q3', .bool q4'] 46) = r8 at *
            go_roundw
            case rel => exact ⟨i + 1, v5, xr, Ar, by go_num, by omega, E8.out, R7.out, T9.out, U19.out⟩
            case measure => simp only [intOf, Int.toNat_natCast]; omega
      · obtain ⟨el, ez⟩ := GK2.out hk0
        have dk : (rk != 0) = true := by simpa using hk0
        have EL := Lib.hid (show xr.log.length = 0 by rw [el]; rfl)
        have EZ := Lib.hid ez
        have j0 := D8.out.c.1
        have l0 : (xr.log.length : Int) = 0 := by rw [el]; rfl
        clear el ez GK2 hk0
        go_wp2_with fail
        refine (Ph.differ_any L.m L.F L.n L.c m' F' c' xr.z x.z q7 D8.out.st.mem M8.out).mono ?_
        rw [EZ.out, dl_same]
        rintro e q8 ⟨pd, cd, rfl, hRd, hO⟩
        have bO := hO.below (B := q7.heap.size) (Nat.le_refl _) (by simp)
        have D9 := Lib.hid (D8.out.below bO)
        have M9 := Lib.hid (M8.out.kept (Only.of bO []) (by simp) (by simp))
        have V9 := Lib.hid (V8.out.kept (Only.of bO []) (by simp))
        have SL9 := Lib.hid (SL.out.kept (Only.of bO []) (by simp))
        have U11 := Lib.hid (U10.out.trans (bO.mono U10.out.size))
        clear hRd hO bO D8 M8 V8 SL U10 EZ EL j0 l0
        simp only [List.length_nil]
        have j1 := D9.out.c.2.1
        go_wp2_with fail
        clear dk
        refine (Fr.list_any L.t L.tF 1 xr.os q8 D9.out.st.tab (D9.out.st.lts _ (by simp [Loc.all])) (D9.out.st.lts _ (by simp [Loc.all]))).mono ?_
        rintro e r1 ⟨vb, rfl, hs, hb⟩
        obtain ⟨ln, hlnn⟩ : ∃ ln, ln = Fr.which 1 xr.os := ⟨_, rfl⟩
        rw [← hlnn] at hs
        have LN := Lib.hid hlnn
        have ln3 : ln.length ≤ 1024 := by rw [hlnn]; exact Nat.le_trans (Fr.which_len 1 xr.os) D9.out.st.tab.len
        have ltn := fun t (ht : t ∈ ln) => which_lt (o := 1) (os := xr.os) (t := t) (by rw [← hlnn]; exact ht)
        have W1 := Lib.hid (Fr.Seen.mono hs (Nat.succ_le_of_lt M9.out.row.lt))
        have E1 := Lib.hid (D9.out.below hb)
        have N1 := Lib.hid (M9.out.kept (Only.of hb []) (by simp) (by simp))
        have X1 := Lib.hid (V9.out.kept (Only.of hb []) (by simp))
        have SL1 := Lib.hid (SL9.out.kept (Only.of hb []) (by simp))
        have U12 := Lib.hid (U11.out.trans (hb.mono U11.out.size))
        have CT := Lib.hid (taken_any m' F' L.n c' x.z lo ln va vb r1 N1.out X1.out W1.out (fun t ht => by have := ltn t ht; rw [← R7.out.len]; exact this) lo3 ln3)
        have EK := Lib.hid (show tkn x.z lo ln = filO x.z tk by rw [LO.out, LN.out]; exact TK.out x.z)
        clear hs hb hlnn ltn D9 M9 V9 SL9 U11 LN lo3 ln3 TK j1
        go_wp2_with fail
        refine CT.out.mono ?_
        rw [EK.out]
        rintro e r2 ⟨rfl, hM, hO⟩
        have OS := Lib.hid (show ∀ k ∈ [F'], Off L g v5 k from by simp only [List.mem_cons, List.not_mem_nil, or_false]; rintro k rfl; exact OF7.out)
        have E2 := Lib.hid (E1.out.side hO OS.out)
        have N2 := Lib.hid hM
        have SL2 := Lib.hid (SL1.out.kept hO (by simp))
        have FB := Lib.hid (show w.heap.size ≤ F' from Nat.le_trans GM.out.2.2 GM.out.2.1)
        have U13 := Lib.hid (U12.out.trans (hO.below U12.out.size (by simpa using FB.out)))
        clear hM hO E1 N1 X1 W1 SL1 U12 CT EK
        go_wp2_with fail
        refine (replay_any m' F' L.n c' (filO x.z tk) xr.log _ r2 N2.out SL2.out CH.out.ch (by omega)).mono ?_
        rw [← CH.out.z]
        rintro e r3 ⟨rfl, hM, hO⟩
        have E3 := Lib.hid (E2.out.side hO OS.out)
        have N3 := Lib.hid hM
        have SL3 := Lib.hid (SL2.out.kept hO (by simp))
        have U14 := Lib.hid (U13.out.trans (hO.below U13.out.size (by simpa using FB.out)))
        have j0 := E3.out.c.1
        clear hM hO E2 N2 SL2 U13
        go_wp2_with fail
        refine (Ph.differ_any m' F' L.n c' L.m L.F L.c xr.z xr.z r3 N3.out E3.out.st.mem).mono ?_
        rw [dl_same]
        rintro e r4 ⟨pd', cd', rfl, hRd, hO⟩
        have bO := hO.below (B := r3.heap.size) (Nat.le_refl _) (by simp)
        have E4 := Lib.hid (E3.out.below bO)
        have SL4 := Lib.hid (SL3.out.kept (Only.of bO []) (by simp))
        have U15 := Lib.hid (U14.out.trans (bO.mono U14.out.size))
        clear hRd hO bO E3 N3 SL3 U14 j0
        simp only [List.length_nil]
        go_wp2_with fail
        go_loop [13, 14] (fun f q => ∃ j : Nat, q = .int .i64 j ∧ j ≤ xr.log.length ∧ f = .bool (drN xr.log j)) (fun _ q => xr.log.length - (intOf q).toNat)
        case atStart => exact ⟨0, rfl, Nat.zero_le _, by rw [drN_zero]⟩
        case round =>
          obtain ⟨j, rfl, hj, rfl⟩ := hrel
          by_cases hjl : j < xr.log.length
          · obtain ⟨d, hd⟩ : ∃ d, xr.log[j]? = some d := ⟨_, List.getElem?_eq_getElem hjl⟩
            obtain ⟨ga, gc, hge, hgr⟩ := SL4.out
            injection hge with hge _ _
            subst hge
            obtain ⟨gb, rfl, hgB, hglt, hgc⟩ := hgr (by omega)
            have kd := (hgc j d hd).1
            have DN := Lib.hid (drN_next hd)
            have hjl' : (j : Int) < (xr.log.length : Int) := by omega
            have DK := Lib.hid (isDrop_kind d)
            clear hgr hgc hgB hd
            cases hq : drN xr.log j with
            | true =>
              rw [hq] at DN
              have DN := Lib.hid DN.out
              clear hq
              go_wp2_with fail
              go_round
              case rel => exact ⟨j + 1, by go_num, by omega, by rw [DN.out]; rfl⟩
              case measure => simp only [intOf, Int.toNat_natCast]; omega
            | false =>
              rw [hq] at DN
              have DN := Lib.hid DN.out
              clear hq
              go_wp2_with fail
              go_round
              case rel => exact ⟨j + 1, by go_num, by omega, by rw [DN.out, DK.out, Bool.false_or]⟩
              case measure => simp only [intOf, Int.toNat_natCast]; omega
          · obtain rfl : j = xr.log.length := by omega
            rw [drN_all]
            obtain ⟨k7, k8, hk7, hk8⟩ := TW.out
            obtain ⟨f7, f8, tw'⟩ := twins_end hk7 hk8 (show xr.ps = _ by have := CH.out.ps; rw [HL.out.2.1] at this; exact this)
            have F7 := Lib.hid f7
            have F8 := Lib.hid f8
            have T9 := Lib.hid tw'
            clear hk7 hk8 f7 f8 tw'
            obtain ⟨db, hdb⟩ : ∃ db, db = xr.log.any Deed.isDrop := ⟨_, rfl⟩
            rw [← hdb] at F7 ⊢
            clear hdb
            have j2 := E4.out.c.2.2.1
            go_wp2_with fail
            refine (Tl.find_any L.p L.pm L.room xr.next xr.ps 7 1 r4 E4.out.st.tlb (by unfold Tl.W64; decide) (by unfold Tl.W64; decide)).mono ?_
            rw [F7.out]
            generalize ((Tl.findP 7 1 0 xr.ps).getD Tl.zeroH).2 = sl7
            rintro e r5 ⟨rfl, b5⟩
            have E5 := Lib.hid (E4.out.below b5)
            have U16 := Lib.hid (U15.out.trans (b5.mono U15.out.size))
            clear b5 E4 U15 j2
            obtain ⟨s0, s1, s2, s3, s4⟩ := sl7
            have E6 := Lib.hid (E5.out.alloc (.cells #[.int .i64 s0, .int .i64 s1, .int .i64 s2, .bool s3, .bool s4] 46))
            have U17 := Lib.hid (U16.out.alloc U16.out.size (.cells #[.int .i64 s0, .int .i64 s1, .int .i64 s2, .bool s3, .bool s4] 46))
            have j2 := E6.out.c.2.2.1
            clear E5 U16
            go_wp2_with fail
            generalize r5.alloc (.cells #[.int .i64 s0, .int .i64 s1, .int .i64 s2, .bool s3, .bool s4] 46) = r6 at *
            refine (Tl.find_any L.p L.pm L.room xr.next xr.ps 8 1 r6 E6.out.st.tlb (by unfold Tl.W64; decide) (by unfold Tl.W64; decide)).mono ?_
            rw [F8.out]
            generalize ((Tl.findP 8 1 0 xr.ps).getD Tl.zeroH).2 = sl8
            rintro e r7 ⟨rfl, b7⟩
            have E7 := Lib.hid (E6.out.below b7)
            have U18 := Lib.hid (U17.out.trans (b7.mono U17.out.size))
            clear b7 E6 U17 j2
            obtain ⟨q0, q1', q2', q3', q4'⟩ := sl8
            have E8 := Lib.hid (E7.out.alloc (.cells #[.int .i64 q0, .int .i64 q1', .int .i64 q2', .bool q3', .bool q4'] 46))
            have U19 := Lib.hid (U18.out.alloc U18.out.size (.cells #[.int .i64 q0, .int .i64 q1', .int .i64 q2', .bool q3', .bool q4'] 46))
            clear E7 U18
            have db2 : (!db == db) = false := by cases db <;> rfl
            go_wp2_with fail
            generalize r7.alloc (.cells #[.int .i64 q0, .int .i64 q1', .int .i64 q2', .bool q3', .bool q4'] 46) = r8 at *
            go_roundw
            case rel => exact ⟨i + 1, v5, xr, Ar, by go_num, by omega, E8.out, R7.out, T9.out, U19.out⟩
            case measure => simp only [intOf, Int.toNat_natCast]; omega
    · obtain rfl : i = n2 := by omega
      go_wp2_with fail
      go_ret
      exact ⟨rfl, U3.out⟩
set_option maxRecDepth 100000 in
theorem lifted (os : Os) (started : os.Started) (H : Type) (enc : TypeId × Value → H) :
    ReturnsInHanded {} Tryz.checked os 4 .any (Rows.stageBreaksSpec.pre6 enc Tryz.prog Tryz.f4 Rows.stageBreaksRow.domain false) (Rows.stageBreaksSpec.post enc Tryz.prog Tryz.f4 false true false false) := by
  refine returnsInHanded_of_change_sized (C := Tryz.checked) own started (by kernel_rfl) Tryz.func4
    (ChangeSpec.witness6 (enc := enc) (C := Tryz.checked) false ⟨#[], #[.int .i64 0, .int .i64 0, .slice none 0 0], []⟩ 8 (by kernel_rfl) (by kernel_rfl) (by kernel_rfl) (by kernel_rfl)) ?_
  intro W base args ds gs before hval0 hW hcnd hZ0 _
  have hval : ∀ (j : Nat) t v, Tryz.f4.params[j]? = some t → args[j]? = some v → Value.okWide Tryz.prog W .any base t v := hval0
  have hZ : ∀ n ∈ DataW.weightsEach Tryz.prog (Tryz.f4.params.toList ++ []) (ds ++ gs), n ≤ reachBytes := fun n hn => of_decide_eq_true (List.all_eq_true.1 hZ0 n hn)
  have hW' := hW
  obtain ⟨p, q, hA0, hV, rfl, hfz, hnd⟩ := hW
  have hA : DataW.TrodAll enc Tryz.prog W 0 (fun _ => true) true Tryz.f4.params.toList args.toList ds p := hA0
  rw [Tryz.params4] at hA hval hZ
  obtain ⟨v0, vs0, d0, ds0, p0, q0, hargs, rfl, rfl, h0, r0⟩ := trodAll_cons hA
  obtain ⟨v1, vs1, d1, ds1, p1, q1, rfl, rfl, rfl, h1, r1⟩ := trodAll_cons r0
  obtain ⟨v2, vs2, d2, ds2, p2, q2, rfl, rfl, rfl, h2, r2⟩ := trodAll_cons r1
  obtain ⟨rfl, rfl, rfl⟩ := trodAll_nil r2
  obtain rfl : args = #[v0, v1, v2] := by cases args; simp_all
  obtain ⟨rfl, rfl⟩ := trodVars_none hV
  obtain ⟨x0, rfl, rfl, rfl, w0⟩ := open_int Tryz.underlying3 (hval 0 3 v0 rfl rfl) h0
  obtain ⟨x1, rfl, rfl, rfl, w1⟩ := open_int Tryz.underlying3 (hval 1 3 v1 rfl rfl) h1
  have k2 := h2
  have hz2 : ∀ n ∈ d2.weights Tryz.prog 22, n ≤ reachBytes := fun n hn => hZ n (by simp only [List.append_nil, DataW.weightsEach, List.mem_append]; exact Or.inr (Or.inr (hn)))
  obtain ⟨a2, n2, c2, y2, rfl, m2, lt2, z2⟩ := scalls_open (hval 2 22 v2 rfl rfl) h2 hz2
  clear hA0 hval0 hZ0
  refine (walk x0 x1 a2 n2 c2 y2 W z2 m2).mono fun e W' ⟨he, ho⟩ => ?_
  subst he
  have bel : Below W.heap.size W W' := ho
  exact ⟨_, rfl, _, _, _, [], _, [], hW', trodAll_mk1 (shut_bool Tryz.underlying4 _), (trodAll_cons_mk (shut_int Tryz.underlying3 w0) (trodAll_cons_mk (shut_int Tryz.underlying3 w1) (trodAll_cons_mk (Below.trod laidOut (by kernel_rfl) (of_decide_eq_true (by kernel_rfl)) k2 bel lt2) trodAll_mk0))), rfl, bel.frame _, fun h => by cases h⟩
theorem over : Rows.stageBreaksRow.holds Tryz.pinned (OpenSpec.ofChange Rows.stageBreaksSpec) :=
  OpenClaim.holds_of_wide 4 Tryz.f4 rfl rfl rfl rfl rfl rfl rfl ⟨rfl, rfl, rfl, rfl, rfl⟩ rfl rfl rfl rfl rfl (by kernel_rfl) Tryz.func4 (by kernel_rfl)
    (of_decide_eq_true (by kernel_rfl)) (by unfold Func.isWrapper; first | (rw [if_pos (by decide +kernel)]; kernel_rfl) | (rw [if_neg (by decide +kernel)]; exact ⟨rfl, rfl⟩))
    (fun os started H enc _ => lifted os started H enc)
end stageBreaks
/-- The statement. -/
theorem stageBreaks_holds : Rows.StageBreaksSaid := stageBreaks.over
#print axioms stageBreaks_holds
end Go.Proofs.YtiiggmfindfkfaaGreat
