/-
  StageWalks: a page that is mapped is walked to its frame, with its rights; behind Unmap it faults, and the number of tables is as it was: for every input true, and the input reads as it did; no condition.
-/
import Derived.Test.YtiiggmfindfkfaaStOpen
import Derived.Test.YtiiggmfindfkfaaStBack
namespace Go.Proofs.Ytiiggmfindfkfaa
open Go.ChangeShapes Go.WideShapes Go.ChangeAt Go.RowKit Go.Deep Nt
namespace St
theorem below6 {B b : Nat} {a w : World} (h : Below B a w) (hb : B ≤ b) (v0 v1 v2 v3 v4 v5 : Value) :
    Below B a ((((((w.setCell ⟨b, 0, none⟩ v0).setCell ⟨b, 1, none⟩ v1).setCell ⟨b, 2, none⟩ v2).setCell ⟨b, 3, none⟩ v3).setCell ⟨b, 4, none⟩ v4).setCell ⟨b, 5, none⟩ v5) :=
  (((((h.setCell hb _).setCell hb _).setCell hb _).setCell hb _).setCell hb _).setCell hb _
theorem lay6 {b : Nat} {w : World} {t : TypeId} {u0 u1 u2 u3 u4 u5 : Value} (h : Tl.Lay w b t [u0, u1, u2, u3, u4, u5]) (v0 v1 v2 v3 v4 v5 : Value) :
    Tl.Lay ((((((w.setCell ⟨b, 0, none⟩ v0).setCell ⟨b, 1, none⟩ v1).setCell ⟨b, 2, none⟩ v2).setCell ⟨b, 3, none⟩ v3).setCell ⟨b, 4, none⟩ v4).setCell ⟨b, 5, none⟩ v5) b t [v0, v1, v2, v3, v4, v5] :=
  (((((h.set 0 v0).set 1 v1).set 2 v2).set 3 v3).set 4 v4).set 5 v5
open Ph En Wk
theorem walk_hit (m F n c : Nat) (z : Nat → Int) (root a f r Fr : Int) (W X B : Bool) (w : World) (hM : Mem w m F n c z) (h0 : 0 ≤ a) (h1 : a < 4294967296) (hW : walkS n z root a 0 = ⟨f, r, Fr, W, X, B⟩) :
    Calls Try.prog 26 #[.pointer (some ⟨m, 0, none⟩), .int .i64 root, .int .u32 a, .int .i64 0] w fun e w' => e = .returned (.agg #[.int .i64 f, .int .i64 r, .int .i64 Fr, .bool W, .bool X, .bool B]) ∧ Below w.heap.size w w' := by
  have h := walk_any m F n c z root a 0 w hM h0 h1
  rw [hW] at h
  exact h
end St
namespace stageWalks
open St
open Ph (Only)
open Ph En Wk
set_option maxRecDepth 100000 in
set_option maxHeartbeats 16000000 in
theorem walk (n away : Int) (a2 : Option Addr) (n2 c2 : Nat) (y2 : Nat → Cq) (c : Cq) (w : World) (hx2 : SCalls w.heap.size w a2 n2 y2) (hl2 : n2 ≤ c2 ∧ c2 ≤ maxLen) :
    Calls Try.prog 5 #[.int .i64 n, .int .i64 away, .slice a2 n2 c2, callV c] w fun e w' => e = .returned (.bool true) ∧ Below w.heap.size w w' := by
  have HX2 := Lib.hid hx2
  have hm2 : n2 ≤ maxLen := by omega
  unfold maxLen at hm2
  clear hx2 hl2
  go_enter Try.func5, Try.ntmps5
  go_wp2_with fail
  have UB := Lib.hid ((Below.refl w.heap.size w).alloc (Nat.le_refl _) (.cells #[.int .i64 c.what, .int .i64 c.page, .int .i64 c.frame, .bool c.w, .bool c.e] 38))
  have YB := Lib.hid (Tl.Lay.new w 38 [.int .i64 c.what, .int .i64 c.page, .int .i64 c.frame, .bool c.w, .bool c.e])
  generalize w.alloc (.cells #[.int .i64 c.what, .int .i64 c.page, .int .i64 c.frame, .bool c.w, .bool c.e] 38) = u at *
  refine (alive_any u).mono ?_
  rintro e u1 ⟨rfl, b1⟩
  have U1 := Lib.hid (UB.out.trans (b1.mono UB.out.size))
  have Y1 := Lib.hid (YB.out.kept (Only.of b1 []) (by simp))
  clear YB
  clear b1 UB
  go_wp2_with fail
  by_cases hg : gr n away n2
  · refine (great_yes n away a2 n2 c2 u1 hg).mono ?_
    rintro e w' ⟨rfl, rfl⟩
    clear hg
    go_wp2_with fail
    go_ret
    exact ⟨rfl, U1.out⟩
  have hN : 1 ≤ n ∧ n ≤ 300 ∧ 0 ≤ away ∧ away < n ∧ n2 ≤ 24 := by unfold gr at hg; omega
  obtain ⟨N, rfl⟩ := Int.eq_ofNat_of_zero_le (show 0 ≤ n by omega)
  obtain ⟨aw, rfl⟩ := Int.eq_ofNat_of_zero_le (show 0 ≤ away by omega)
  have haw : aw < N := by omega
  have hN3 : N ≤ 300 := by omega
  have h24 : n2 ≤ 24 := by omega
  clear hg hN
  refine (great_no N aw a2 n2 c2 u1 h24 haw hN3).mono ?_
  rintro e w' ⟨rfl, rfl⟩
  go_wp2_with fail
  refine (begin_any N aw u1 (by omega) haw).mono ?_
  rintro e u2 ⟨g, L, v, rfl, D, hb, hn, hvm, hroom⟩
  have D0 := Lib.hid D
  have U2 := Lib.hid (U1.out.trans (hb.mono U1.out.size))
  have HL := Lib.hid (And.intro hn (And.intro hvm hroom))
  have R0 := Lib.hid (show Rep L.n (beg N aw 8) (fun _ => Fst.no) by rw [hn]; exact beg_rep (by omega) haw)
  have I0 := Lib.hid (show Inv L.n (N - aw) (beg N aw 8).root (beg N aw 8).os (fun _ => Fst.no) by rw [hn]; exact inv_beg haw 8)
  have z1 := Lib.hid U1.out.size
  have Y2 := Lib.hid (Y1.out.kept (Only.of hb []) (by simp))
  have YL := Lib.hid Y1.out.lt
  clear Y1
  clear D hb hn hvm hroom U1
  generalize beg N aw 8 = x0 at *
  go_wp2_with fail
  go_loopw [10] (fun q wr => ∃ (i : Nat) (v' : Value), q = .int .i64 i ∧ i ≤ n2 ∧ Wd u1.heap.size g L wr v' (runsP L.n L.vm y2 i (x0, fun _ => Fst.no)).1 ∧ Below w.heap.size w wr ∧ Tl.Lay wr w.heap.size 38 [.int .i64 c.what, .int .i64 c.page, .int .i64 c.frame, .bool c.w, .bool c.e]) (fun q _ => n2 - (intOf q).toNat)
  case atStart => exact ⟨0, v, rfl, Nat.zero_le _, D0.out, U2.out, Y2.out⟩
  case round =>
    obtain ⟨i, v', rfl, hi, hD, hU, hY⟩ := hrel
    have D1 := Lib.hid hD
    have U3 := Lib.hid hU
    have Y3 := Lib.hid hY
    clear hD hU hY D0 U2 Y2
    have RI := Lib.hid (runs_rep (vm := L.vm) y2 R0.out i)
    by_cases hlt : i < n2
    · obtain ⟨b, off, rfl, hbl, hcl⟩ := HX2.out.at U3.out hlt
      have C2 := Lib.hid (D1.out.drewN 1)
      have U4 := Lib.hid (U3.out.drew)
      have HXX := Lib.hid hbl
      have Y4 := Lib.hid (Y3.out.kept (Only.drewN [] wr 1) (by simp))
      change Hid (Tl.Lay wr.drew _ _ _) at Y4
      obtain ⟨k0, k1, k2, k3, k4⟩ := hcl
      have j3 := D1.out.c.2.2.2
      change Hid (Wd u1.heap.size g L wr.drew v' _) at C2
      clear D1 U3 Y3
      go_wp2_with fail
      refine wp_region_still_tail 8 (by kernel_rfl) (by kernel_rfl) ?_
      simp only [List.take_succ_cons, List.take_zero, List.drop_succ_cons, List.drop_zero]
      change wpStill _ _ wr.drew (fun a' => wpList _ _ _ _ a' wr.drew) _ _
      repeat still_step
      refine wpStill_nil ?_
      clear k0 k1 k2 k3 k4 j3
      generalize wr.drew = u5 at *
      go_wp2_with fail
      refine (doL_any (y2 i) u5 C2.out.st (fun _ => RI.out)).mono ?_
      rintro e w6 ⟨rfl, v6, hS, hP⟩
      have C3 := Lib.hid (C2.out.hop hS hP)
      have U6 := Lib.hid (U4.out.trans ((C2.out.bel hP).mono z1.out))
      have Y5 := Lib.hid (lay_bel (C2.out.bel hP) YL.out Y4.out)
      clear hS hP C2 U4 Y4
      go_wp2_with fail
      go_roundw
      case rel => exact ⟨i + 1, v6, by go_num, by omega, C3.out, U6.out, Y5.out⟩
      case measure => simp only [intOf, Int.toNat_natCast]; omega
    · obtain rfl : i = n2 := by omega
      have NBI := Lib.hid (runs_nb (vm := L.vm) y2 R0.out nb_no i)
      clear I0 HX2
      generalize runsP L.n L.vm y2 i (x0, fun _ => Fst.no) = sx at *
      obtain ⟨x, A⟩ := sx
      simp only at D1 RI NBI
      have j3 := D1.out.c.2.2.2
      clear R0
      go_wp2_with fail
      refine (ntab_any wr D1.out.st RI.out).mono ?_
      rintro e u6 ⟨rfl, b6⟩
      have C2 := Lib.hid (D1.out.below b6)
      have U4 := Lib.hid (U3.out.trans (b6.mono U3.out.size))
      have Y4 := Lib.hid (Y3.out.kept (Only.of b6 []) (by simp))
      have C3 := Lib.hid (C2.out.drewN 1)
      have U5 := Lib.hid U4.out.drew
      have Y5 := Lib.hid (Y4.out.kept (Only.drewN [] u6 1) (by simp))
      change Hid (Tl.Lay u6.drew _ _ _) at Y5
      change Hid (Wd u1.heap.size g L u6.drew v' _) at C3
      clear b6 D1 U3 Y3 j3
      have j3 := C2.out.c.2.2.2
      have t1 := Y4.out.cell 1
      have t2 := Y4.out.cell 2
      have t3 := Y4.out.cell 3
      have t4 := Y4.out.cell 4
      simp only [List.getElem?_cons_zero, List.getElem?_cons_succ] at t1 t2 t3 t4
      clear C2 U4 Y4
      go_wp2_with fail
      refine wp_region_still_tail 12 (by kernel_rfl) (by kernel_rfl) ?_
      simp only [List.take_succ_cons, List.take_zero, List.drop_succ_cons, List.drop_zero]
      change wpStill _ _ u6.drew (fun a' => wpList _ _ _ _ a' u6.drew) _ _
      repeat still_step
      refine wpStill_nil ?_
      clear t1 t2 t3 t4 j3
      generalize u6.drew = u7 at *
      obtain ⟨r, hr⟩ : ∃ r, r = mapP L.n L.vm x.noLog A c.page c.frame c.w c.e := ⟨_, rfl⟩
      have HG := Lib.hid (map_good (vm := L.vm) RI.out.noLog rfl c.page c.frame c.w c.e)
      have eg : gon x (mapP L.n L.vm x.noLog A c.page c.frame c.w c.e) = r := by rw [hr]; unfold gon; rw [RI.out.live]; rfl
      have HBK := Lib.hid (fun h => map_back (vm := L.vm) RI.out.noLog rfl NBI.out (p := c.page) (f := c.frame) (w := c.w) (e := c.e) h)
      have CM := map_call c.page c.frame c.w c.e u7 C3.out.st (fun _ => RI.out)
      rw [eg] at CM
      rw [← hr] at HG HBK
      go_wp2_with fail
      refine CM.mono ?_
      rintro e u8 ⟨rfl, v8, hS, hP⟩
      have D4 := Lib.hid (C3.out.hop hS hP)
      have bo := C3.out.bel hP
      have U6 := Lib.hid (U5.out.trans (bo.mono z1.out))
      have Y6 := Lib.hid (lay_bel bo YL.out Y5.out)
      have HRR := Lib.hid hr
      clear hS hP bo C3 U5 Y5 CM eg hr
      by_cases hk : r.k = 0
      case neg =>
        obtain ⟨h1, h2, _⟩ := HG.out
        obtain ⟨_, hA⟩ := h1 hk
        obtain ⟨kk, hkk⟩ : ∃ kk, kk = r.k := ⟨_, rfl⟩
        rw [← hkk] at hk ⊢
        have dk : (kk != 0) = true := by simpa using hk
        have j3 := D4.out.c.2.2.2
        have TA := Lib.hid (show tabs r.A = tabs A by rw [hA])
        have RR := Lib.hid h2
        clear hk hkk h1 h2 hA HG HBK HRR
        go_wp2_with fail
        have CT := ntab_any u8 D4.out.st RR.out
        rw [TA.out] at CT
        refine CT.mono ?_
        rintro e u9 ⟨rfl, b9⟩
        have U7 := Lib.hid (U6.out.trans (b9.mono U6.out.size))
        clear CT b9
        go_wp2_with fail
        go_ret
        exact ⟨rfl, U7.out⟩
      obtain ⟨pk, pg, ePk, hpk, eFr, hpg, hT1, hUn⟩ := HBK.out hk
      obtain ⟨_, h2, _⟩ := HG.out
      rw [hk]
      have PG := Lib.hid ePk
      have PF := Lib.hid eFr
      have RR := Lib.hid h2
      obtain ⟨f1, r1, hf1, hw1⟩ := walk_rep h2 pk hpk
      rw [hT1] at hw1
      have HW1 := Lib.hid (show walkS L.n r.x.z r.x.root ((pk : Int) * 256) 0 = ⟨0, r1, pg, c.w, c.e, false⟩ from hw1)
      have HT1 := Lib.hid hT1
      have HUn := Lib.hid hUn
      clear hw1 hf1 hT1 hUn h2 ePk eFr hk HG HBK HRR
      have z8 : (pk : Int) < 4096 := by omega
      go_wp2_with fail
      have S6 := Lib.hid (D4.out.drewN 1)
      have V9 := Lib.hid (U6.out.drew)
      have Z9 := Lib.hid (Y6.out.kept (Only.drewN [] _ 1) (by simp))
      change Hid (Wd u1.heap.size g L (World.drew _) _ _) at S6
      change Hid (Tl.Lay (World.drew _) _ _ _) at Z9
      have t1 := Z9.out.cell 1
      simp only [List.getElem?_cons_zero, List.getElem?_cons_succ] at t1
      rw [PG.out] at t1
      clear D4 U6 Y6
      refine wp_region_held_drew (S := fun w' => w'.cell? ⟨g, 0, none⟩ = some (.pointer (some ⟨L.m, 0, none⟩)) ∧ w'.cell? ⟨g, 3, none⟩ = some (.pointer (some ⟨L.s, 0, none⟩)) ∧ w'.cell? ⟨w.heap.size, 1, none⟩ = some (.int .i64 (pk : Int))) (by kernel_rfl) ⟨S6.out.c.1, S6.out.c.2.2.2, t1⟩ (fun hHeld => ?_)
      clear t1
      generalize World.drew _ = q at *
      refine wpAnyH_take (i := 0) (oi := ⟨some 66, _, _, _, _, _⟩) (v := (.pointer (some ⟨g, 0, none⟩))) rfl (by kernel_rfl) (by kernel_rfl) (by kernel_rfl) (fun _ _ _ h => h) (y_run (by kernel_rfl) (fun _ => by kernel_rfl)) hHeld ?_
      try simp only [Act.put, List.setIfInBounds_toArray, List.set_cons_zero, List.set_cons_succ]
      refine wpAnyH_take (i := 1) (oi := ⟨some 67, _, _, _, _, _⟩) (v := (.pointer (some ⟨g, 0, none⟩))) rfl (by kernel_rfl) (by kernel_rfl) (by kernel_rfl) (fun _ _ _ h => h) (y_run (by kernel_rfl) (fun _ => by kernel_rfl)) hHeld ?_
      try simp only [Act.put, List.setIfInBounds_toArray, List.set_cons_zero, List.set_cons_succ]
      refine wpAnyH_take (i := 2) (oi := ⟨some 68, _, _, _, _, _⟩) (v := (.pointer (some ⟨g, 0, none⟩))) rfl (by kernel_rfl) (by kernel_rfl) (by kernel_rfl) (fun _ _ _ h => h) (y_run (by kernel_rfl) (fun _ => by kernel_rfl)) hHeld ?_
      try simp only [Act.put, List.setIfInBounds_toArray, List.set_cons_zero, List.set_cons_succ]
      refine wpAnyH_take (i := 3) (oi := ⟨some 69, _, _, _, _, _⟩) (v := (.pointer (some ⟨L.m, 0, none⟩))) rfl (by kernel_rfl) (by kernel_rfl) (by kernel_rfl) (fun _ _ _ h => h) (y_mp (g) 0 (some ⟨L.m, 0, none⟩) (.tmp 68) (by kernel_rfl) (fun _ h => h.1) rfl rfl) hHeld ?_
      try simp only [Act.put, List.setIfInBounds_toArray, List.set_cons_zero, List.set_cons_succ]
      refine wpAnyH_take (i := 4) (oi := ⟨some 70, _, _, _, _, _⟩) (v := (.pointer (some ⟨g, 0, none⟩))) rfl (by kernel_rfl) (by kernel_rfl) (by kernel_rfl) (fun _ _ _ h => h) (y_run (by kernel_rfl) (fun _ => by kernel_rfl)) hHeld ?_
      try simp only [Act.put, List.setIfInBounds_toArray, List.set_cons_zero, List.set_cons_succ]
      refine wpAnyH_take (i := 5) (oi := ⟨some 71, _, _, _, _, _⟩) (v := (.pointer (some ⟨g, 0, none⟩))) rfl (by kernel_rfl) (by kernel_rfl) (by kernel_rfl) (fun _ _ _ h => h) (y_run (by kernel_rfl) (fun _ => by kernel_rfl)) hHeld ?_
      try simp only [Act.put, List.setIfInBounds_toArray, List.set_cons_zero, List.set_cons_succ]
      refine wpAnyH_take (i := 6) (oi := ⟨some 72, _, _, _, _, _⟩) (v := (.pointer (some ⟨g, 3, none⟩))) rfl (by kernel_rfl) (by kernel_rfl) (by kernel_rfl) (fun _ _ _ h => h) (y_run (by kernel_rfl) (fun _ => by kernel_rfl)) hHeld ?_
      try simp only [Act.put, List.setIfInBounds_toArray, List.set_cons_zero, List.set_cons_succ]
      refine wpAnyH_take (i := 7) (oi := ⟨some 73, _, _, _, _, _⟩) (v := (.pointer (some ⟨L.s, 0, none⟩))) rfl (by kernel_rfl) (by kernel_rfl) (by kernel_rfl) (fun _ _ _ h => h) (y_sp (g) 3 (some ⟨L.s, 0, none⟩) (.tmp 72) (by kernel_rfl) (fun _ h => h.2.1) rfl rfl) hHeld ?_
      try simp only [Act.put, List.setIfInBounds_toArray, List.set_cons_zero, List.set_cons_succ]
      refine wpAnyH_take (i := 9) (oi := ⟨some 75, _, _, _, _, _⟩) (v := (.pointer (some ⟨w.heap.size, 1, none⟩))) rfl (by kernel_rfl) (by kernel_rfl) (by kernel_rfl) (fun _ _ _ h => h) (y_run (by kernel_rfl) (fun _ => by kernel_rfl)) hHeld ?_
      try simp only [Act.put, List.setIfInBounds_toArray, List.set_cons_zero, List.set_cons_succ]
      refine wpAnyH_take (i := 10) (oi := ⟨some 76, _, _, _, _, _⟩) (v := (.int .i64 (pk : Int))) rfl (by kernel_rfl) (by kernel_rfl) (by kernel_rfl) (fun _ _ _ h => h) (y_int (w.heap.size) 1 (pk) (.tmp 75) (by kernel_rfl) (fun _ h => h.2.2) rfl rfl) hHeld ?_
      try simp only [Act.put, List.setIfInBounds_toArray, List.set_cons_zero, List.set_cons_succ]
      refine wpAnyH_take (i := 11) (oi := ⟨some 77, _, _, _, _, _⟩) (v := (.int .u32 (pk : Int))) rfl (by kernel_rfl) (by kernel_rfl) (by kernel_rfl) (fun _ _ _ h => h) (y_run (by kernel_rfl) (fun _ => by go_simp; exact IntWalk.u32_in _ (by omega))) hHeld ?_
      try simp only [Act.put, List.setIfInBounds_toArray, List.set_cons_zero, List.set_cons_succ]
      refine wpAnyH_take (i := 12) (oi := ⟨some 78, _, _, _, _, _⟩) (v := (.int .u32 ((pk : Int) * 256))) rfl (by kernel_rfl) (by kernel_rfl) (by kernel_rfl) (fun _ _ _ h => h) (y_run (by kernel_rfl) (fun _ => by go_simp; exact IntWalk.u32_in _ (by omega))) hHeld ?_
      try simp only [Act.put, List.setIfInBounds_toArray, List.set_cons_zero, List.set_cons_succ]
      refine wpAnyH_ready (rs := [8, 14]) (by kernel_rfl) (by simp) ?_
      refine AllReadyH.cons (o := ⟨some 74, .call _, _, _, _, _⟩) rfl (fun K hK => ?_) (AllReadyH.cons (o := ⟨some 12, .alloc _, _, _, _, _⟩) rfl (fun K hK => ?_) AllReadyH.nil)
      focus
        go_simp
        refine (root_any _ S6.out.st).mono ?_
        rintro e q' ⟨rfl, rfl⟩
        refine hK.out _ _ hHeld (fun hHeld => ?_)
        clear hK K
        try simp only [Act.put, List.setIfInBounds_toArray, List.set_cons_zero, List.set_cons_succ]
        refine wpAnyH_ready (rs := [13, 14]) (by kernel_rfl) (by simp) ?_
        refine AllReadyH.cons (o := ⟨some 79, .call _, _, _, _, _⟩) rfl (fun K hK => ?_) (AllReadyH.cons (o := ⟨some 12, .alloc _, _, _, _, _⟩) rfl (fun K hK => ?_) AllReadyH.nil)
      focus
        go_simp
        refine (walk_hit L.m L.F L.n L.c _ _ _ _ _ _ _ _ _ _ S6.out.st.mem (by omega) (by omega) HW1.out).mono ?_
        rintro e q2 ⟨rfl, b2⟩
        have B2 := Lib.hid ((Below.refl q.heap.size q).trans (b2.mono (Below.refl q.heap.size q).size))
        refine hK.out _ _ ⟨(S6.out.below B2.out).c.1, (S6.out.below B2.out).c.2.2.2, by rw [(Z9.out.kept (Only.of B2.out []) (by simp)).cell 1]; simp only [List.getElem?_cons_zero, List.getElem?_cons_succ]; rw [PG.out]⟩ (fun hHeld => ?_)
        clear hK K
        try simp only [Act.put, List.setIfInBounds_toArray, List.set_cons_zero, List.set_cons_succ]
        refine wpAnyH_ready (rs := [14]) (by kernel_rfl) (by simp) ?_
        refine AllReadyH.cons (o := ⟨some 12, .alloc _, _, _, _, _⟩) rfl (fun K hK => ?_) AllReadyH.nil
        go_simp
        have Y14 := Lib.hid (Tl.Lay.new q2 62 [.int .i64 0, .int .i64 0, .int .i64 0, .bool false, .bool false, .bool false])
        have B3 := Lib.hid (B2.out.alloc B2.out.size (.cells #[.int .i64 0, .int .i64 0, .int .i64 0, .bool false, .bool false, .bool false] 62))
        refine hK.out _ _ ⟨(S6.out.below B3.out).c.1, (S6.out.below B3.out).c.2.2.2, by rw [(Z9.out.kept (Only.of B3.out []) (by simp)).cell 1]; simp only [List.getElem?_cons_zero, List.getElem?_cons_succ]; rw [PG.out]⟩ (fun hHeld => ?_)
        clear hK K
        try simp only [Act.put, List.setIfInBounds_toArray, List.set_cons_zero, List.set_cons_succ]
        obtain ⟨bh, hbh⟩ : ∃ b, b = q2.heap.size := ⟨_, rfl⟩
        have N14 := Lib.hid (show q.heap.size ≤ bh by rw [hbh]; exact B2.out.size)
        rw [← hbh] at Y14 ⊢
        clear hbh
        clear B2 b2
        generalize q2.alloc (.cells #[.int .i64 0, .int .i64 0, .int .i64 0, .bool false, .bool false, .bool false] 62) = q3 at *
        have yl := Y14.out.lt
        have y0 := Y14.out.cell 0
        have y1 := Y14.out.cell 1
        have y2' := Y14.out.cell 2
        have y3 := Y14.out.cell 3
        have y4 := Y14.out.cell 4
        have y5 := Y14.out.cell 5
        have g0 := Y14.out.free 0
        have g1 := Y14.out.free 1
        have g2 := Y14.out.free 2
        have g3 := Y14.out.free 3
        have g4 := Y14.out.free 4
        have g5 := Y14.out.free 5
        simp only [List.getElem?_cons_zero, List.getElem?_cons_succ] at y0 y1 y2' y3 y4 y5
        have B4 := Lib.hid (below6 B3.out N14.out (.int .i64 0) (.int .i64 r1) (.int .i64 (pg : Int)) (.bool c.w) (.bool c.e) (.bool false))
        have H4 := Lib.hid (lay6 Y14.out (.int .i64 0) (.int .i64 r1) (.int .i64 (pg : Int)) (.bool c.w) (.bool c.e) (.bool false))
        refine wpAnyH_ready (rs := [15]) (by kernel_rfl) (by simp) ?_
        refine AllReadyH.cons (o := ⟨none, .store _ _ _, _, _, _, _⟩) rfl (fun K hK => ?_) AllReadyH.nil
        go_simp
        refine hK.out _ _ ⟨(S6.out.below B4.out).c.1, (S6.out.below B4.out).c.2.2.2, by rw [(Z9.out.kept (Only.of B4.out []) (by simp)).cell 1]; simp only [List.getElem?_cons_zero, List.getElem?_cons_succ]; rw [PG.out]⟩ (fun hHeld => ?_)
        clear hK K yl y0 y1 y2' y3 y4 y5 g0 g1 g2 g3 g4 g5 Y14 N14 B3
        try simp only [Act.put, List.setIfInBounds_toArray, List.set_cons_zero, List.set_cons_succ]
        refine wpAnyH_done (by kernel_rfl) ?_ _
        have D9 := Lib.hid (S6.out.below B4.out)
        have U9 := Lib.hid (V9.out.trans (B4.out.mono V9.out.size))
        have Y9 := Lib.hid (Z9.out.kept (Only.of B4.out []) (by simp))
        have H9 := Lib.hid (show Tl.Lay _ _ 62 [.int .i64 0, .int .i64 r1, .int .i64 (pg : Int), .bool c.w, .bool c.e, .bool false] from H4.out)
        clear hHeld B4 S6 V9 Z9 H4
        generalize ((((((q3.setCell ⟨bh, 0, none⟩ (.int .i64 0)).setCell ⟨bh, 1, none⟩ (.int .i64 r1)).setCell ⟨bh, 2, none⟩ (.int .i64 (pg : Int))).setCell ⟨bh, 3, none⟩ (.bool c.w)).setCell ⟨bh, 4, none⟩ (.bool c.e)).setCell ⟨bh, 5, none⟩ (.bool false)) = q9 at *
      rotate_left
      focus
        go_simp
        have Y14 := Lib.hid (Tl.Lay.new q 62 [.int .i64 0, .int .i64 0, .int .i64 0, .bool false, .bool false, .bool false])
        have B3 := Lib.hid ((Below.refl q.heap.size q).alloc (Below.refl q.heap.size q).size (.cells #[.int .i64 0, .int .i64 0, .int .i64 0, .bool false, .bool false, .bool false] 62))
        refine hK.out _ _ ⟨(S6.out.below B3.out).c.1, (S6.out.below B3.out).c.2.2.2, by rw [(Z9.out.kept (Only.of B3.out []) (by simp)).cell 1]; simp only [List.getElem?_cons_zero, List.getElem?_cons_succ]; rw [PG.out]⟩ (fun hHeld => ?_)
        clear hK K
        try simp only [Act.put, List.setIfInBounds_toArray, List.set_cons_zero, List.set_cons_succ]
        obtain ⟨bh, hbh⟩ : ∃ b, b = q.heap.size := ⟨_, rfl⟩
        have N14 := Lib.hid (show q.heap.size ≤ bh by rw [hbh]; exact (Below.refl q.heap.size q).size)
        rw [← hbh] at Y14 ⊢
        clear hbh
        have Y13 := Y14
        have B1' := B3
        clear Y14 B3
        refine wpAnyH_ready (rs := [13]) (by kernel_rfl) (by simp) ?_
        refine AllReadyH.cons (o := ⟨some 79, .call _, _, _, _, _⟩) rfl (fun K hK => ?_) AllReadyH.nil
        go_simp
        refine (walk_hit L.m L.F L.n L.c _ _ _ _ _ _ _ _ _ _ (S6.out.below B1'.out).st.mem (by omega) (by omega) HW1.out).mono ?_
        rintro e q3 ⟨rfl, b2⟩
        have B2 := Lib.hid (B1'.out.trans (b2.mono B1'.out.size))
        refine hK.out _ _ ⟨(S6.out.below B2.out).c.1, (S6.out.below B2.out).c.2.2.2, by rw [(Z9.out.kept (Only.of B2.out []) (by simp)).cell 1]; simp only [List.getElem?_cons_zero, List.getElem?_cons_succ]; rw [PG.out]⟩ (fun hHeld => ?_)
        clear hK K
        try simp only [Act.put, List.setIfInBounds_toArray, List.set_cons_zero, List.set_cons_succ]
        have Y14 := Lib.hid (Y13.out.kept (Only.of b2 []) (by simp))
        have B3 := B2
        clear B2 b2 Y13 B1'
        have yl := Y14.out.lt
        have y0 := Y14.out.cell 0
        have y1 := Y14.out.cell 1
        have y2' := Y14.out.cell 2
        have y3 := Y14.out.cell 3
        have y4 := Y14.out.cell 4
        have y5 := Y14.out.cell 5
        have g0 := Y14.out.free 0
        have g1 := Y14.out.free 1
        have g2 := Y14.out.free 2
        have g3 := Y14.out.free 3
        have g4 := Y14.out.free 4
        have g5 := Y14.out.free 5
        simp only [List.getElem?_cons_zero, List.getElem?_cons_succ] at y0 y1 y2' y3 y4 y5
        have B4 := Lib.hid (below6 B3.out N14.out (.int .i64 0) (.int .i64 r1) (.int .i64 (pg : Int)) (.bool c.w) (.bool c.e) (.bool false))
        have H4 := Lib.hid (lay6 Y14.out (.int .i64 0) (.int .i64 r1) (.int .i64 (pg : Int)) (.bool c.w) (.bool c.e) (.bool false))
        refine wpAnyH_ready (rs := [15]) (by kernel_rfl) (by simp) ?_
        refine AllReadyH.cons (o := ⟨none, .store _ _ _, _, _, _, _⟩) rfl (fun K hK => ?_) AllReadyH.nil
        go_simp
        refine hK.out _ _ ⟨(S6.out.below B4.out).c.1, (S6.out.below B4.out).c.2.2.2, by rw [(Z9.out.kept (Only.of B4.out []) (by simp)).cell 1]; simp only [List.getElem?_cons_zero, List.getElem?_cons_succ]; rw [PG.out]⟩ (fun hHeld => ?_)
        clear hK K yl y0 y1 y2' y3 y4 y5 g0 g1 g2 g3 g4 g5 Y14 N14 B3
        try simp only [Act.put, List.setIfInBounds_toArray, List.set_cons_zero, List.set_cons_succ]
        refine wpAnyH_done (by kernel_rfl) ?_ _
        have D9 := Lib.hid (S6.out.below B4.out)
        have U9 := Lib.hid (V9.out.trans (B4.out.mono V9.out.size))
        have Y9 := Lib.hid (Z9.out.kept (Only.of B4.out []) (by simp))
        have H9 := Lib.hid (show Tl.Lay _ _ 62 [.int .i64 0, .int .i64 r1, .int .i64 (pg : Int), .bool c.w, .bool c.e, .bool false] from H4.out)
        clear hHeld B4 S6 V9 Z9 H4
        generalize ((((((q3.setCell ⟨bh, 0, none⟩ (.int .i64 0)).setCell ⟨bh, 1, none⟩ (.int .i64 r1)).setCell ⟨bh, 2, none⟩ (.int .i64 (pg : Int))).setCell ⟨bh, 3, none⟩ (.bool c.w)).setCell ⟨bh, 4, none⟩ (.bool c.e)).setCell ⟨bh, 5, none⟩ (.bool false)) = q9 at *
      rotate_left
      focus
        go_simp
        have Y14 := Lib.hid (Tl.Lay.new q 62 [.int .i64 0, .int .i64 0, .int .i64 0, .bool false, .bool false, .bool false])
        have B3 := Lib.hid ((Below.refl q.heap.size q).alloc (Below.refl q.heap.size q).size (.cells #[.int .i64 0, .int .i64 0, .int .i64 0, .bool false, .bool false, .bool false] 62))
        refine hK.out _ _ ⟨(S6.out.below B3.out).c.1, (S6.out.below B3.out).c.2.2.2, by rw [(Z9.out.kept (Only.of B3.out []) (by simp)).cell 1]; simp only [List.getElem?_cons_zero, List.getElem?_cons_succ]; rw [PG.out]⟩ (fun hHeld => ?_)
        clear hK K
        try simp only [Act.put, List.setIfInBounds_toArray, List.set_cons_zero, List.set_cons_succ]
        obtain ⟨bh, hbh⟩ : ∃ b, b = q.heap.size := ⟨_, rfl⟩
        have N14 := Lib.hid (show q.heap.size ≤ bh by rw [hbh]; exact (Below.refl q.heap.size q).size)
        rw [← hbh] at Y14 ⊢
        clear hbh
        have Y13 := Y14
        have B1' := B3
        clear Y14 B3
        refine wpAnyH_ready (rs := [8]) (by kernel_rfl) (by simp) ?_
        refine AllReadyH.cons (o := ⟨some 74, .call _, _, _, _, _⟩) rfl (fun K hK => ?_) AllReadyH.nil
        go_simp
        refine (root_any _ (S6.out.below B1'.out).st).mono ?_
        rintro e q' ⟨rfl, rfl⟩
        refine hK.out _ _ hHeld (fun hHeld => ?_)
        clear hK K
        try simp only [Act.put, List.setIfInBounds_toArray, List.set_cons_zero, List.set_cons_succ]
        refine wpAnyH_ready (rs := [13]) (by kernel_rfl) (by simp) ?_
        refine AllReadyH.cons (o := ⟨some 79, .call _, _, _, _, _⟩) rfl (fun K hK => ?_) AllReadyH.nil
        go_simp
        refine (walk_hit L.m L.F L.n L.c _ _ _ _ _ _ _ _ _ _ (S6.out.below B1'.out).st.mem (by omega) (by omega) HW1.out).mono ?_
        rintro e q3 ⟨rfl, b2⟩
        have B2 := Lib.hid (B1'.out.trans (b2.mono B1'.out.size))
        refine hK.out _ _ ⟨(S6.out.below B2.out).c.1, (S6.out.below B2.out).c.2.2.2, by rw [(Z9.out.kept (Only.of B2.out []) (by simp)).cell 1]; simp only [List.getElem?_cons_zero, List.getElem?_cons_succ]; rw [PG.out]⟩ (fun hHeld => ?_)
        clear hK K
        try simp only [Act.put, List.setIfInBounds_toArray, List.set_cons_zero, List.set_cons_succ]
        have Y14 := Lib.hid (Y13.out.kept (Only.of b2 []) (by simp))
        have B3 := B2
        clear B2 b2 Y13 B1'
        have yl := Y14.out.lt
        have y0 := Y14.out.cell 0
        have y1 := Y14.out.cell 1
        have y2' := Y14.out.cell 2
        have y3 := Y14.out.cell 3
        have y4 := Y14.out.cell 4
        have y5 := Y14.out.cell 5
        have g0 := Y14.out.free 0
        have g1 := Y14.out.free 1
        have g2 := Y14.out.free 2
        have g3 := Y14.out.free 3
        have g4 := Y14.out.free 4
        have g5 := Y14.out.free 5
        simp only [List.getElem?_cons_zero, List.getElem?_cons_succ] at y0 y1 y2' y3 y4 y5
        have B4 := Lib.hid (below6 B3.out N14.out (.int .i64 0) (.int .i64 r1) (.int .i64 (pg : Int)) (.bool c.w) (.bool c.e) (.bool false))
        have H4 := Lib.hid (lay6 Y14.out (.int .i64 0) (.int .i64 r1) (.int .i64 (pg : Int)) (.bool c.w) (.bool c.e) (.bool false))
        refine wpAnyH_ready (rs := [15]) (by kernel_rfl) (by simp) ?_
        refine AllReadyH.cons (o := ⟨none, .store _ _ _, _, _, _, _⟩) rfl (fun K hK => ?_) AllReadyH.nil
        go_simp
        refine hK.out _ _ ⟨(S6.out.below B4.out).c.1, (S6.out.below B4.out).c.2.2.2, by rw [(Z9.out.kept (Only.of B4.out []) (by simp)).cell 1]; simp only [List.getElem?_cons_zero, List.getElem?_cons_succ]; rw [PG.out]⟩ (fun hHeld => ?_)
        clear hK K yl y0 y1 y2' y3 y4 y5 g0 g1 g2 g3 g4 g5 Y14 N14 B3
        try simp only [Act.put, List.setIfInBounds_toArray, List.set_cons_zero, List.set_cons_succ]
        refine wpAnyH_done (by kernel_rfl) ?_ _
        have D9 := Lib.hid (S6.out.below B4.out)
        have U9 := Lib.hid (V9.out.trans (B4.out.mono V9.out.size))
        have Y9 := Lib.hid (Z9.out.kept (Only.of B4.out []) (by simp))
        have H9 := Lib.hid (show Tl.Lay _ _ 62 [.int .i64 0, .int .i64 r1, .int .i64 (pg : Int), .bool c.w, .bool c.e, .bool false] from H4.out)
        clear hHeld B4 S6 V9 Z9 H4
        generalize ((((((q3.setCell ⟨bh, 0, none⟩ (.int .i64 0)).setCell ⟨bh, 1, none⟩ (.int .i64 r1)).setCell ⟨bh, 2, none⟩ (.int .i64 (pg : Int))).setCell ⟨bh, 3, none⟩ (.bool c.w)).setCell ⟨bh, 4, none⟩ (.bool c.e)).setCell ⟨bh, 5, none⟩ (.bool false)) = q9 at *
      all_goals
        have S7 := Lib.hid (D9.out.drewN 1)
        have U7 := Lib.hid U9.out.drew
        have Y7 := Lib.hid (Y9.out.kept (Only.drewN [] q9 1) (by simp))
        change Hid (Tl.Lay q9.drew _ _ _) at Y7
        change Hid (Wd u1.heap.size g L q9.drew v8 _) at S7
        have i0 := H9.out.cell 0
        have i2 := H9.out.cell 2
        have i3 := H9.out.cell 3
        have i4 := H9.out.cell 4
        have i5 := H9.out.cell 5
        have t1 := Y9.out.cell 1
        have t2 := Y9.out.cell 2
        have t3 := Y9.out.cell 3
        have t4 := Y9.out.cell 4
        have j3 := D9.out.c.2.2.2
        simp only [List.getElem?_cons_zero, List.getElem?_cons_succ] at i0 i2 i3 i4 i5 t1 t2 t3 t4
        rw [PF.out] at t2
        have EB : ∀ b : Bool, (b != b) = false := fun b => by cases b <;> rfl
        clear D9 U9 Y9 H9
        go_wp2_with fail
        clear i0 i2 i3 i4 i5 EB
        refine wp_region_still_tail 6 (by kernel_rfl) (by kernel_rfl) ?_
        simp only [List.take_succ_cons, List.take_zero, List.drop_succ_cons, List.drop_zero]
        change wpStill _ _ q9.drew (fun a' => wpList _ _ _ _ a' q9.drew) _ _
        repeat still_step
        refine wpStill_nil ?_
        clear t1 t2 t3 t4 j3
        generalize q9.drew = q10 at *
        obtain ⟨y, hy⟩ : ∃ y, y = unmP L.n L.vm r.x.noLog r.A c.page := ⟨_, rfl⟩
        have eg : gon r.x (unmP L.n L.vm r.x.noLog r.A c.page) = y := by rw [hy]; unfold gon; rw [RR.out.live]; rfl
        have CU := unmap_call c.page q10 S7.out.st (fun _ => RR.out)
        obtain ⟨k1, k2, k3⟩ := HUn.out r.x.noLog
        obtain ⟨_, m2, _⟩ := unm_good (vm := L.vm) RR.out.noLog rfl c.page
        rw [eg] at CU
        rw [← hy] at k1 k2 k3 m2
        rw [k1] at CU
        obtain ⟨f2, r2, hf2, hw2⟩ := walk_rep m2 pk hpk
        rw [k2] at hw2
        have HW2 := Lib.hid (show walkS L.n y.x.z y.x.root ((pk : Int) * 256) 0 = ⟨f2, r2, 0, false, false, false⟩ from hw2)
        have R5 := Lib.hid m2
        have K3 := Lib.hid k3
        have df := Lib.hid (show (f2 != 0) = true by simpa using hf2)
        clear k1 k2 k3 m2 hw2 hf2 hy eg
        go_wp2_with fail
        refine CU.mono ?_
        rintro e q11 ⟨rfl, v11, hS, hP⟩
        have D9 := Lib.hid (S7.out.hop hS hP)
        have bo := S7.out.bel hP
        have U9 := Lib.hid (U7.out.trans (bo.mono z1.out))
        have Y9 := Lib.hid (lay_bel bo YL.out Y7.out)
        clear hS hP bo S7 U7 Y7 CU HW1 HT1 HUn RR
        go_wp2_with fail
        have S6 := Lib.hid (D9.out.drewN 1)
        have V9 := Lib.hid (U9.out.drew)
        have Z9 := Lib.hid (Y9.out.kept (Only.drewN [] _ 1) (by simp))
        change Hid (Wd u1.heap.size g L (World.drew _) _ _) at S6
        change Hid (Tl.Lay (World.drew _) _ _ _) at Z9
        have t1 := Z9.out.cell 1
        simp only [List.getElem?_cons_zero, List.getElem?_cons_succ] at t1
        rw [PG.out] at t1
        clear D9 U9 Y9
        refine wp_region_held_drew (S := fun w' => w'.cell? ⟨g, 0, none⟩ = some (.pointer (some ⟨L.m, 0, none⟩)) ∧ w'.cell? ⟨g, 3, none⟩ = some (.pointer (some ⟨L.s, 0, none⟩)) ∧ w'.cell? ⟨w.heap.size, 1, none⟩ = some (.int .i64 (pk : Int))) (by kernel_rfl) ⟨S6.out.c.1, S6.out.c.2.2.2, t1⟩ (fun hHeld => ?_)
        clear t1
        generalize World.drew _ = q at *
        refine wpAnyH_take (i := 0) (oi := ⟨some 116, _, _, _, _, _⟩) (v := (.pointer (some ⟨g, 0, none⟩))) rfl (by kernel_rfl) (by kernel_rfl) (by kernel_rfl) (fun _ _ _ h => h) (y_run (by kernel_rfl) (fun _ => by kernel_rfl)) hHeld ?_
        try simp only [Act.put, List.setIfInBounds_toArray, List.set_cons_zero, List.set_cons_succ]
        refine wpAnyH_take (i := 1) (oi := ⟨some 117, _, _, _, _, _⟩) (v := (.pointer (some ⟨g, 0, none⟩))) rfl (by kernel_rfl) (by kernel_rfl) (by kernel_rfl) (fun _ _ _ h => h) (y_run (by kernel_rfl) (fun _ => by kernel_rfl)) hHeld ?_
        try simp only [Act.put, List.setIfInBounds_toArray, List.set_cons_zero, List.set_cons_succ]
        refine wpAnyH_take (i := 2) (oi := ⟨some 118, _, _, _, _, _⟩) (v := (.pointer (some ⟨g, 0, none⟩))) rfl (by kernel_rfl) (by kernel_rfl) (by kernel_rfl) (fun _ _ _ h => h) (y_run (by kernel_rfl) (fun _ => by kernel_rfl)) hHeld ?_
        try simp only [Act.put, List.setIfInBounds_toArray, List.set_cons_zero, List.set_cons_succ]
        refine wpAnyH_take (i := 3) (oi := ⟨some 119, _, _, _, _, _⟩) (v := (.pointer (some ⟨L.m, 0, none⟩))) rfl (by kernel_rfl) (by kernel_rfl) (by kernel_rfl) (fun _ _ _ h => h) (y_mp (g) 0 (some ⟨L.m, 0, none⟩) (.tmp 118) (by kernel_rfl) (fun _ h => h.1) rfl rfl) hHeld ?_
        try simp only [Act.put, List.setIfInBounds_toArray, List.set_cons_zero, List.set_cons_succ]
        refine wpAnyH_take (i := 4) (oi := ⟨some 120, _, _, _, _, _⟩) (v := (.pointer (some ⟨g, 0, none⟩))) rfl (by kernel_rfl) (by kernel_rfl) (by kernel_rfl) (fun _ _ _ h => h) (y_run (by kernel_rfl) (fun _ => by kernel_rfl)) hHeld ?_
        try simp only [Act.put, List.setIfInBounds_toArray, List.set_cons_zero, List.set_cons_succ]
        refine wpAnyH_take (i := 5) (oi := ⟨some 121, _, _, _, _, _⟩) (v := (.pointer (some ⟨g, 0, none⟩))) rfl (by kernel_rfl) (by kernel_rfl) (by kernel_rfl) (fun _ _ _ h => h) (y_run (by kernel_rfl) (fun _ => by kernel_rfl)) hHeld ?_
        try simp only [Act.put, List.setIfInBounds_toArray, List.set_cons_zero, List.set_cons_succ]
        refine wpAnyH_take (i := 6) (oi := ⟨some 122, _, _, _, _, _⟩) (v := (.pointer (some ⟨g, 3, none⟩))) rfl (by kernel_rfl) (by kernel_rfl) (by kernel_rfl) (fun _ _ _ h => h) (y_run (by kernel_rfl) (fun _ => by kernel_rfl)) hHeld ?_
        try simp only [Act.put, List.setIfInBounds_toArray, List.set_cons_zero, List.set_cons_succ]
        refine wpAnyH_take (i := 7) (oi := ⟨some 123, _, _, _, _, _⟩) (v := (.pointer (some ⟨L.s, 0, none⟩))) rfl (by kernel_rfl) (by kernel_rfl) (by kernel_rfl) (fun _ _ _ h => h) (y_sp (g) 3 (some ⟨L.s, 0, none⟩) (.tmp 122) (by kernel_rfl) (fun _ h => h.2.1) rfl rfl) hHeld ?_
        try simp only [Act.put, List.setIfInBounds_toArray, List.set_cons_zero, List.set_cons_succ]
        refine wpAnyH_take (i := 9) (oi := ⟨some 125, _, _, _, _, _⟩) (v := (.pointer (some ⟨w.heap.size, 1, none⟩))) rfl (by kernel_rfl) (by kernel_rfl) (by kernel_rfl) (fun _ _ _ h => h) (y_run (by kernel_rfl) (fun _ => by kernel_rfl)) hHeld ?_
        try simp only [Act.put, List.setIfInBounds_toArray, List.set_cons_zero, List.set_cons_succ]
        refine wpAnyH_take (i := 10) (oi := ⟨some 126, _, _, _, _, _⟩) (v := (.int .i64 (pk : Int))) rfl (by kernel_rfl) (by kernel_rfl) (by kernel_rfl) (fun _ _ _ h => h) (y_int (w.heap.size) 1 (pk) (.tmp 125) (by kernel_rfl) (fun _ h => h.2.2) rfl rfl) hHeld ?_
        try simp only [Act.put, List.setIfInBounds_toArray, List.set_cons_zero, List.set_cons_succ]
        refine wpAnyH_take (i := 11) (oi := ⟨some 127, _, _, _, _, _⟩) (v := (.int .u32 (pk : Int))) rfl (by kernel_rfl) (by kernel_rfl) (by kernel_rfl) (fun _ _ _ h => h) (y_run (by kernel_rfl) (fun _ => by go_simp; exact IntWalk.u32_in _ (by omega))) hHeld ?_
        try simp only [Act.put, List.setIfInBounds_toArray, List.set_cons_zero, List.set_cons_succ]
        refine wpAnyH_take (i := 12) (oi := ⟨some 128, _, _, _, _, _⟩) (v := (.int .u32 ((pk : Int) * 256))) rfl (by kernel_rfl) (by kernel_rfl) (by kernel_rfl) (fun _ _ _ h => h) (y_run (by kernel_rfl) (fun _ => by go_simp; exact IntWalk.u32_in _ (by omega))) hHeld ?_
        try simp only [Act.put, List.setIfInBounds_toArray, List.set_cons_zero, List.set_cons_succ]
        refine wpAnyH_ready (rs := [8, 14]) (by kernel_rfl) (by simp) ?_
        refine AllReadyH.cons (o := ⟨some 124, .call _, _, _, _, _⟩) rfl (fun K hK => ?_) (AllReadyH.cons (o := ⟨some 13, .alloc _, _, _, _, _⟩) rfl (fun K hK => ?_) AllReadyH.nil)
        focus
          go_simp
          refine (root_any _ S6.out.st).mono ?_
          rintro e q' ⟨rfl, rfl⟩
          refine hK.out _ _ hHeld (fun hHeld => ?_)
          clear hK K
          try simp only [Act.put, List.setIfInBounds_toArray, List.set_cons_zero, List.set_cons_succ]
          refine wpAnyH_ready (rs := [13, 14]) (by kernel_rfl) (by simp) ?_
          refine AllReadyH.cons (o := ⟨some 129, .call _, _, _, _, _⟩) rfl (fun K hK => ?_) (AllReadyH.cons (o := ⟨some 13, .alloc _, _, _, _, _⟩) rfl (fun K hK => ?_) AllReadyH.nil)
        focus
          go_simp
          refine (walk_hit L.m L.F L.n L.c _ _ _ _ _ _ _ _ _ _ S6.out.st.mem (by omega) (by omega) HW2.out).mono ?_
          rintro e q2 ⟨rfl, b2⟩
          have B2 := Lib.hid ((Below.refl q.heap.size q).trans (b2.mono (Below.refl q.heap.size q).size))
          refine hK.out _ _ ⟨(S6.out.below B2.out).c.1, (S6.out.below B2.out).c.2.2.2, by rw [(Z9.out.kept (Only.of B2.out []) (by simp)).cell 1]; simp only [List.getElem?_cons_zero, List.getElem?_cons_succ]; rw [PG.out]⟩ (fun hHeld => ?_)
          clear hK K
          try simp only [Act.put, List.setIfInBounds_toArray, List.set_cons_zero, List.set_cons_succ]
          refine wpAnyH_ready (rs := [14]) (by kernel_rfl) (by simp) ?_
          refine AllReadyH.cons (o := ⟨some 13, .alloc _, _, _, _, _⟩) rfl (fun K hK => ?_) AllReadyH.nil
          go_simp
          have Y14 := Lib.hid (Tl.Lay.new q2 62 [.int .i64 0, .int .i64 0, .int .i64 0, .bool false, .bool false, .bool false])
          have B3 := Lib.hid (B2.out.alloc B2.out.size (.cells #[.int .i64 0, .int .i64 0, .int .i64 0, .bool false, .bool false, .bool false] 62))
          refine hK.out _ _ ⟨(S6.out.below B3.out).c.1, (S6.out.below B3.out).c.2.2.2, by rw [(Z9.out.kept (Only.of B3.out []) (by simp)).cell 1]; simp only [List.getElem?_cons_zero, List.getElem?_cons_succ]; rw [PG.out]⟩ (fun hHeld => ?_)
          clear hK K
          try simp only [Act.put, List.setIfInBounds_toArray, List.set_cons_zero, List.set_cons_succ]
          obtain ⟨bh, hbh⟩ : ∃ b, b = q2.heap.size := ⟨_, rfl⟩
          have N14 := Lib.hid (show q.heap.size ≤ bh by rw [hbh]; exact B2.out.size)
          rw [← hbh] at Y14 ⊢
          clear hbh
          clear B2 b2
          generalize q2.alloc (.cells #[.int .i64 0, .int .i64 0, .int .i64 0, .bool false, .bool false, .bool false] 62) = q3 at *
          have yl := Y14.out.lt
          have y0 := Y14.out.cell 0
          have y1 := Y14.out.cell 1
          have y2' := Y14.out.cell 2
          have y3 := Y14.out.cell 3
          have y4 := Y14.out.cell 4
          have y5 := Y14.out.cell 5
          have g0 := Y14.out.free 0
          have g1 := Y14.out.free 1
          have g2 := Y14.out.free 2
          have g3 := Y14.out.free 3
          have g4 := Y14.out.free 4
          have g5 := Y14.out.free 5
          simp only [List.getElem?_cons_zero, List.getElem?_cons_succ] at y0 y1 y2' y3 y4 y5
          have B4 := Lib.hid (below6 B3.out N14.out (.int .i64 f2) (.int .i64 r2) (.int .i64 0) (.bool false) (.bool false) (.bool false))
          have H4 := Lib.hid (lay6 Y14.out (.int .i64 f2) (.int .i64 r2) (.int .i64 0) (.bool false) (.bool false) (.bool false))
          refine wpAnyH_ready (rs := [15]) (by kernel_rfl) (by simp) ?_
          refine AllReadyH.cons (o := ⟨none, .store _ _ _, _, _, _, _⟩) rfl (fun K hK => ?_) AllReadyH.nil
          go_simp
          refine hK.out _ _ ⟨(S6.out.below B4.out).c.1, (S6.out.below B4.out).c.2.2.2, by rw [(Z9.out.kept (Only.of B4.out []) (by simp)).cell 1]; simp only [List.getElem?_cons_zero, List.getElem?_cons_succ]; rw [PG.out]⟩ (fun hHeld => ?_)
          clear hK K yl y0 y1 y2' y3 y4 y5 g0 g1 g2 g3 g4 g5 Y14 N14 B3
          try simp only [Act.put, List.setIfInBounds_toArray, List.set_cons_zero, List.set_cons_succ]
          refine wpAnyH_done (by kernel_rfl) ?_ _
          have D9 := Lib.hid (S6.out.below B4.out)
          have U9 := Lib.hid (V9.out.trans (B4.out.mono V9.out.size))
          have Y9 := Lib.hid (Z9.out.kept (Only.of B4.out []) (by simp))
          have H9 := Lib.hid (show Tl.Lay _ _ 62 [.int .i64 f2, .int .i64 r2, .int .i64 0, .bool false, .bool false, .bool false] from H4.out)
          clear hHeld B4 S6 V9 Z9 H4
          generalize ((((((q3.setCell ⟨bh, 0, none⟩ (.int .i64 f2)).setCell ⟨bh, 1, none⟩ (.int .i64 r2)).setCell ⟨bh, 2, none⟩ (.int .i64 0)).setCell ⟨bh, 3, none⟩ (.bool false)).setCell ⟨bh, 4, none⟩ (.bool false)).setCell ⟨bh, 5, none⟩ (.bool false)) = q9 at *
        rotate_left
        focus
          go_simp
          have Y14 := Lib.hid (Tl.Lay.new q 62 [.int .i64 0, .int .i64 0, .int .i64 0, .bool false, .bool false, .bool false])
          have B3 := Lib.hid ((Below.refl q.heap.size q).alloc (Below.refl q.heap.size q).size (.cells #[.int .i64 0, .int .i64 0, .int .i64 0, .bool false, .bool false, .bool false] 62))
          refine hK.out _ _ ⟨(S6.out.below B3.out).c.1, (S6.out.below B3.out).c.2.2.2, by rw [(Z9.out.kept (Only.of B3.out []) (by simp)).cell 1]; simp only [List.getElem?_cons_zero, List.getElem?_cons_succ]; rw [PG.out]⟩ (fun hHeld => ?_)
          clear hK K
          try simp only [Act.put, List.setIfInBounds_toArray, List.set_cons_zero, List.set_cons_succ]
          obtain ⟨bh, hbh⟩ : ∃ b, b = q.heap.size := ⟨_, rfl⟩
          have N14 := Lib.hid (show q.heap.size ≤ bh by rw [hbh]; exact (Below.refl q.heap.size q).size)
          rw [← hbh] at Y14 ⊢
          clear hbh
          have Y13 := Y14
          have B1' := B3
          clear Y14 B3
          refine wpAnyH_ready (rs := [13]) (by kernel_rfl) (by simp) ?_
          refine AllReadyH.cons (o := ⟨some 129, .call _, _, _, _, _⟩) rfl (fun K hK => ?_) AllReadyH.nil
          go_simp
          refine (walk_hit L.m L.F L.n L.c _ _ _ _ _ _ _ _ _ _ (S6.out.below B1'.out).st.mem (by omega) (by omega) HW2.out).mono ?_
          rintro e q3 ⟨rfl, b2⟩
          have B2 := Lib.hid (B1'.out.trans (b2.mono B1'.out.size))
          refine hK.out _ _ ⟨(S6.out.below B2.out).c.1, (S6.out.below B2.out).c.2.2.2, by rw [(Z9.out.kept (Only.of B2.out []) (by simp)).cell 1]; simp only [List.getElem?_cons_zero, List.getElem?_cons_succ]; rw [PG.out]⟩ (fun hHeld => ?_)
          clear hK K
          try simp only [Act.put, List.setIfInBounds_toArray, List.set_cons_zero, List.set_cons_succ]
          have Y14 := Lib.hid (Y13.out.kept (Only.of b2 []) (by simp))
          have B3 := B2
          clear B2 b2 Y13 B1'
          have yl := Y14.out.lt
          have y0 := Y14.out.cell 0
          have y1 := Y14.out.cell 1
          have y2' := Y14.out.cell 2
          have y3 := Y14.out.cell 3
          have y4 := Y14.out.cell 4
          have y5 := Y14.out.cell 5
          have g0 := Y14.out.free 0
          have g1 := Y14.out.free 1
          have g2 := Y14.out.free 2
          have g3 := Y14.out.free 3
          have g4 := Y14.out.free 4
          have g5 := Y14.out.free 5
          simp only [List.getElem?_cons_zero, List.getElem?_cons_succ] at y0 y1 y2' y3 y4 y5
          have B4 := Lib.hid (below6 B3.out N14.out (.int .i64 f2) (.int .i64 r2) (.int .i64 0) (.bool false) (.bool false) (.bool false))
          have H4 := Lib.hid (lay6 Y14.out (.int .i64 f2) (.int .i64 r2) (.int .i64 0) (.bool false) (.bool false) (.bool false))
          refine wpAnyH_ready (rs := [15]) (by kernel_rfl) (by simp) ?_
          refine AllReadyH.cons (o := ⟨none, .store _ _ _, _, _, _, _⟩) rfl (fun K hK => ?_) AllReadyH.nil
          go_simp
          refine hK.out _ _ ⟨(S6.out.below B4.out).c.1, (S6.out.below B4.out).c.2.2.2, by rw [(Z9.out.kept (Only.of B4.out []) (by simp)).cell 1]; simp only [List.getElem?_cons_zero, List.getElem?_cons_succ]; rw [PG.out]⟩ (fun hHeld => ?_)
          clear hK K yl y0 y1 y2' y3 y4 y5 g0 g1 g2 g3 g4 g5 Y14 N14 B3
          try simp only [Act.put, List.setIfInBounds_toArray, List.set_cons_zero, List.set_cons_succ]
          refine wpAnyH_done (by kernel_rfl) ?_ _
          have D9 := Lib.hid (S6.out.below B4.out)
          have U9 := Lib.hid (V9.out.trans (B4.out.mono V9.out.size))
          have Y9 := Lib.hid (Z9.out.kept (Only.of B4.out []) (by simp))
          have H9 := Lib.hid (show Tl.Lay _ _ 62 [.int .i64 f2, .int .i64 r2, .int .i64 0, .bool false, .bool false, .bool false] from H4.out)
          clear hHeld B4 S6 V9 Z9 H4
          generalize ((((((q3.setCell ⟨bh, 0, none⟩ (.int .i64 f2)).setCell ⟨bh, 1, none⟩ (.int .i64 r2)).setCell ⟨bh, 2, none⟩ (.int .i64 0)).setCell ⟨bh, 3, none⟩ (.bool false)).setCell ⟨bh, 4, none⟩ (.bool false)).setCell ⟨bh, 5, none⟩ (.bool false)) = q9 at *
        rotate_left
        focus
          go_simp
          have Y14 := Lib.hid (Tl.Lay.new q 62 [.int .i64 0, .int .i64 0, .int .i64 0, .bool false, .bool false, .bool false])
          have B3 := Lib.hid ((Below.refl q.heap.size q).alloc (Below.refl q.heap.size q).size (.cells #[.int .i64 0, .int .i64 0, .int .i64 0, .bool false, .bool false, .bool false] 62))
          refine hK.out _ _ ⟨(S6.out.below B3.out).c.1, (S6.out.below B3.out).c.2.2.2, by rw [(Z9.out.kept (Only.of B3.out []) (by simp)).cell 1]; simp only [List.getElem?_cons_zero, List.getElem?_cons_succ]; rw [PG.out]⟩ (fun hHeld => ?_)
          clear hK K
          try simp only [Act.put, List.setIfInBounds_toArray, List.set_cons_zero, List.set_cons_succ]
          obtain ⟨bh, hbh⟩ : ∃ b, b = q.heap.size := ⟨_, rfl⟩
          have N14 := Lib.hid (show q.heap.size ≤ bh by rw [hbh]; exact (Below.refl q.heap.size q).size)
          rw [← hbh] at Y14 ⊢
          clear hbh
          have Y13 := Y14
          have B1' := B3
          clear Y14 B3
          refine wpAnyH_ready (rs := [8]) (by kernel_rfl) (by simp) ?_
          refine AllReadyH.cons (o := ⟨some 124, .call _, _, _, _, _⟩) rfl (fun K hK => ?_) AllReadyH.nil
          go_simp
          refine (root_any _ (S6.out.below B1'.out).st).mono ?_
          rintro e q' ⟨rfl, rfl⟩
          refine hK.out _ _ hHeld (fun hHeld => ?_)
          clear hK K
          try simp only [Act.put, List.setIfInBounds_toArray, List.set_cons_zero, List.set_cons_succ]
          refine wpAnyH_ready (rs := [13]) (by kernel_rfl) (by simp) ?_
          refine AllReadyH.cons (o := ⟨some 129, .call _, _, _, _, _⟩) rfl (fun K hK => ?_) AllReadyH.nil
          go_simp
          refine (walk_hit L.m L.F L.n L.c _ _ _ _ _ _ _ _ _ _ (S6.out.below B1'.out).st.mem (by omega) (by omega) HW2.out).mono ?_
          rintro e q3 ⟨rfl, b2⟩
          have B2 := Lib.hid (B1'.out.trans (b2.mono B1'.out.size))
          refine hK.out _ _ ⟨(S6.out.below B2.out).c.1, (S6.out.below B2.out).c.2.2.2, by rw [(Z9.out.kept (Only.of B2.out []) (by simp)).cell 1]; simp only [List.getElem?_cons_zero, List.getElem?_cons_succ]; rw [PG.out]⟩ (fun hHeld => ?_)
          clear hK K
          try simp only [Act.put, List.setIfInBounds_toArray, List.set_cons_zero, List.set_cons_succ]
          have Y14 := Lib.hid (Y13.out.kept (Only.of b2 []) (by simp))
          have B3 := B2
          clear B2 b2 Y13 B1'
          have yl := Y14.out.lt
          have y0 := Y14.out.cell 0
          have y1 := Y14.out.cell 1
          have y2' := Y14.out.cell 2
          have y3 := Y14.out.cell 3
          have y4 := Y14.out.cell 4
          have y5 := Y14.out.cell 5
          have g0 := Y14.out.free 0
          have g1 := Y14.out.free 1
          have g2 := Y14.out.free 2
          have g3 := Y14.out.free 3
          have g4 := Y14.out.free 4
          have g5 := Y14.out.free 5
          simp only [List.getElem?_cons_zero, List.getElem?_cons_succ] at y0 y1 y2' y3 y4 y5
          have B4 := Lib.hid (below6 B3.out N14.out (.int .i64 f2) (.int .i64 r2) (.int .i64 0) (.bool false) (.bool false) (.bool false))
          have H4 := Lib.hid (lay6 Y14.out (.int .i64 f2) (.int .i64 r2) (.int .i64 0) (.bool false) (.bool false) (.bool false))
          refine wpAnyH_ready (rs := [15]) (by kernel_rfl) (by simp) ?_
          refine AllReadyH.cons (o := ⟨none, .store _ _ _, _, _, _, _⟩) rfl (fun K hK => ?_) AllReadyH.nil
          go_simp
          refine hK.out _ _ ⟨(S6.out.below B4.out).c.1, (S6.out.below B4.out).c.2.2.2, by rw [(Z9.out.kept (Only.of B4.out []) (by simp)).cell 1]; simp only [List.getElem?_cons_zero, List.getElem?_cons_succ]; rw [PG.out]⟩ (fun hHeld => ?_)
          clear hK K yl y0 y1 y2' y3 y4 y5 g0 g1 g2 g3 g4 g5 Y14 N14 B3
          try simp only [Act.put, List.setIfInBounds_toArray, List.set_cons_zero, List.set_cons_succ]
          refine wpAnyH_done (by kernel_rfl) ?_ _
          have D9 := Lib.hid (S6.out.below B4.out)
          have U9 := Lib.hid (V9.out.trans (B4.out.mono V9.out.size))
          have Y9 := Lib.hid (Z9.out.kept (Only.of B4.out []) (by simp))
          have H9 := Lib.hid (show Tl.Lay _ _ 62 [.int .i64 f2, .int .i64 r2, .int .i64 0, .bool false, .bool false, .bool false] from H4.out)
          clear hHeld B4 S6 V9 Z9 H4
          generalize ((((((q3.setCell ⟨bh, 0, none⟩ (.int .i64 f2)).setCell ⟨bh, 1, none⟩ (.int .i64 r2)).setCell ⟨bh, 2, none⟩ (.int .i64 0)).setCell ⟨bh, 3, none⟩ (.bool false)).setCell ⟨bh, 4, none⟩ (.bool false)).setCell ⟨bh, 5, none⟩ (.bool false)) = q9 at *
        all_goals
          have i0 := H9.out.cell 0
          have j3 := D9.out.c.2.2.2
          simp only [List.getElem?_cons_zero] at i0
          have dd := df.out
          clear Y9 H9
          go_wp2_with fail
          have CT := ntab_any q9 D9.out.st R5.out
          rw [K3.out] at CT
          refine CT.mono ?_
          rintro e q12 ⟨rfl, b9⟩
          have U12 := Lib.hid (U9.out.trans (b9.mono U9.out.size))
          clear CT b9 i0 j3
          go_wp2_with fail
          go_ret
          exact ⟨rfl, U12.out⟩
set_option maxRecDepth 100000 in
theorem lifted (os : Os) (started : os.Started) (H : Type) (enc : TypeId × Value → H) :
    ReturnsInHanded {} Try.checked os 5 .any (Rows.stageWalksSpec.pre6 enc Try.prog Try.f5 Rows.stageWalksRow.domain false) (Rows.stageWalksSpec.post enc Try.prog Try.f5 false true false false) := by
  refine returnsInHanded_of_change_sized (C := Try.checked) own started (by kernel_rfl) Try.func5
    (ChangeSpec.witness6 (enc := enc) (C := Try.checked) false ⟨#[], #[.int .i64 0, .int .i64 0, .slice none 0 0, .agg #[.int .i64 0, .int .i64 0, .int .i64 0, .bool false, .bool false]], []⟩ 8 (by kernel_rfl) (by kernel_rfl) (by kernel_rfl) (by kernel_rfl)) ?_
  intro W base args ds gs before hval0 hW hcnd hZ0 _
  have hval : ∀ (j : Nat) t v, Try.f5.params[j]? = some t → args[j]? = some v → Value.okWide Try.prog W .any base t v := hval0
  have hZ : ∀ n ∈ DataW.weightsEach Try.prog (Try.f5.params.toList ++ []) (ds ++ gs), n ≤ reachBytes := fun n hn => of_decide_eq_true (List.all_eq_true.1 hZ0 n hn)
  have hW' := hW
  obtain ⟨p, q, hA0, hV, rfl, hfz, hnd⟩ := hW
  have hA : DataW.TrodAll enc Try.prog W 0 (fun _ => true) true Try.f5.params.toList args.toList ds p := hA0
  rw [Try.params5] at hA hval hZ
  obtain ⟨v0, vs0, d0, ds0, p0, q0, hargs, rfl, rfl, h0, r0⟩ := trodAll_cons hA
  obtain ⟨v1, vs1, d1, ds1, p1, q1, rfl, rfl, rfl, h1, r1⟩ := trodAll_cons r0
  obtain ⟨v2, vs2, d2, ds2, p2, q2, rfl, rfl, rfl, h2, r2⟩ := trodAll_cons r1
  obtain ⟨v3, vs3, d3, ds3, p3, q3, rfl, rfl, rfl, h3, r3⟩ := trodAll_cons r2
  obtain ⟨rfl, rfl, rfl⟩ := trodAll_nil r3
  obtain rfl : args = #[v0, v1, v2, v3] := by cases args; simp_all
  obtain ⟨rfl, rfl⟩ := trodVars_none hV
  obtain ⟨x0, rfl, rfl, rfl, w0⟩ := open_int Try.underlying3 (hval 0 3 v0 rfl rfl) h0
  obtain ⟨x1, rfl, rfl, rfl, w1⟩ := open_int Try.underlying3 (hval 1 3 v1 rfl rfl) h1
  have k2 := h2
  have hz2 : ∀ n ∈ d2.weights Try.prog 22, n ≤ reachBytes := fun n hn => hZ n (by simp only [List.append_nil, DataW.weightsEach, List.mem_append]; exact Or.inr (Or.inr (Or.inl hn)))
  obtain ⟨a2, n2, c2, y2, rfl, m2, lt2, z2⟩ := scalls_open (hval 2 22 v2 rfl rfl) h2 hz2
  have k3 := h3
  obtain ⟨cq3, rfl, pe3⟩ := scall_open (hval 3 38 v3 rfl rfl) h3
  clear hA0 hval0 hZ0
  refine (walk x0 x1 a2 n2 c2 y2 cq3 W z2 m2).mono fun e W' ⟨he, ho⟩ => ?_
  subst he
  have bel : Below W.heap.size W W' := ho
  exact ⟨_, rfl, _, _, _, [], _, [], hW', trodAll_mk1 (shut_bool Try.underlying4 _), (trodAll_cons_mk (shut_int Try.underlying3 w0) (trodAll_cons_mk (shut_int Try.underlying3 w1) (trodAll_cons_mk (Below.trod laidOut (by kernel_rfl) (of_decide_eq_true (by kernel_rfl)) k2 bel lt2) (trodAll_cons_mk (Below.trod laidOut (by kernel_rfl) (of_decide_eq_true (by kernel_rfl)) k3 bel (by simp [pe3])) trodAll_mk0)))), rfl, bel.frame _, fun h => by cases h⟩
theorem over : Rows.stageWalksRow.holds Try.pinned (OpenSpec.ofChange Rows.stageWalksSpec) :=
  OpenClaim.holds_of_wide 5 Try.f5 rfl rfl rfl rfl rfl rfl rfl ⟨rfl, rfl, rfl, rfl, rfl⟩ rfl rfl rfl rfl rfl (by kernel_rfl) Try.func5 (by kernel_rfl)
    (of_decide_eq_true (by kernel_rfl)) (by unfold Func.isWrapper; first | (rw [if_pos (by decide +kernel)]; kernel_rfl) | (rw [if_neg (by decide +kernel)]; exact ⟨rfl, rfl⟩))
    (fun os started H enc _ => lifted os started H enc)
end stageWalks
/-- The statement. -/
theorem stageWalks_holds : Rows.StageWalksSaid := stageWalks.over
#print axioms stageWalks_holds
end Go.Proofs.Ytiiggmfindfkfaa
