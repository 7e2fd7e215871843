/-
  StageGone: a space that is destroyed gives all its tables back, has no pages, and is changed no more: for every input true, and the input reads as it did; no condition.
-/
import Derived.Test.YtiiggmfindfkfaaStOpen
import Derived.Test.YtiiggmfindfkfaaStInv
namespace Go.Proofs.Ytiiggmfindfkfaa
open Go.ChangeShapes Go.WideShapes Go.ChangeAt Go.RowKit Go.Deep Nt
namespace stageGone
open St
open Ph (Only)
open Ph En Wk
set_option maxRecDepth 100000 in
set_option maxHeartbeats 16000000 in
theorem walk (n away : Int) (a2 : Option Addr) (n2 c2 : Nat) (y2 : Nat → Cq) (c : Cq) (w : World) (hx2 : SCalls w.heap.size w a2 n2 y2) (hl2 : n2 ≤ c2 ∧ c2 ≤ maxLen) :
    Calls Try.prog 4 #[.int .i64 n, .int .i64 away, .slice a2 n2 c2, callV c] w fun e w' => e = .returned (.bool true) ∧ Below w.heap.size w w' := by
  have HX2 := Lib.hid hx2
  have hm2 : n2 ≤ maxLen := by omega
  unfold maxLen at hm2
  clear hx2 hl2
  go_enter Try.func4, Try.ntmps4
  go_wp2_with fail
  have UB := Lib.hid ((Below.refl w.heap.size w).alloc (Nat.le_refl _) (.cells #[.int .i64 c.what, .int .i64 c.page, .int .i64 c.frame, .bool c.w, .bool c.e] 38))
  have YB := Lib.hid (Tl.Lay.new w 38 [.int .i64 c.what, .int .i64 c.page, .int .i64 c.frame, .bool c.w, .bool c.e])
  generalize w.alloc (.cells #[.int .i64 c.what, .int .i64 c.page, .int .i64 c.frame, .bool c.w, .bool c.e] 38) = u at *
  refine (alive_any u).mono ?_
  rintro e u1 ⟨rfl, b1⟩
  have U1 := Lib.hid (UB.out.trans (b1.mono UB.out.size))
  have Y1 := Lib.hid (YB.out.kept (Only.of b1 []) (by simp))
  clear YB
  clear b1 UB
  go_wp2_with fail
  by_cases hg : gr n away n2
  · refine (great_yes n away a2 n2 c2 u1 hg).mono ?_
    rintro e w' ⟨rfl, rfl⟩
    clear hg
    go_wp2_with fail
    go_ret
    exact ⟨rfl, U1.out⟩
  have hN : 1 ≤ n ∧ n ≤ 300 ∧ 0 ≤ away ∧ away < n ∧ n2 ≤ 24 := by unfold gr at hg; omega
  obtain ⟨N, rfl⟩ := Int.eq_ofNat_of_zero_le (show 0 ≤ n by omega)
  obtain ⟨aw, rfl⟩ := Int.eq_ofNat_of_zero_le (show 0 ≤ away by omega)
  have haw : aw < N := by omega
  have hN3 : N ≤ 300 := by omega
  have h24 : n2 ≤ 24 := by omega
  clear hg hN
  refine (great_no N aw a2 n2 c2 u1 h24 haw hN3).mono ?_
  rintro e w' ⟨rfl, rfl⟩
  go_wp2_with fail
  refine (begin_any N aw u1 (by omega) haw).mono ?_
  rintro e u2 ⟨g, L, v, rfl, D, hb, hn, hvm, hroom⟩
  have D0 := Lib.hid D
  have U2 := Lib.hid (U1.out.trans (hb.mono U1.out.size))
  have HL := Lib.hid (And.intro hn (And.intro hvm hroom))
  have R0 := Lib.hid (show Rep L.n (beg N aw 8) (fun _ => Fst.no) by rw [hn]; exact beg_rep (by omega) haw)
  have I0 := Lib.hid (show Inv L.n (N - aw) (beg N aw 8).root (beg N aw 8).os (fun _ => Fst.no) by rw [hn]; exact inv_beg haw 8)
  have z1 := Lib.hid U1.out.size
  have Y2 := Lib.hid (Y1.out.kept (Only.of hb []) (by simp))
  have YL := Lib.hid Y1.out.lt
  clear Y1
  clear D hb hn hvm hroom U1
  generalize beg N aw 8 = x0 at *
  go_wp2_with fail
  go_loopw [10] (fun q wr => ∃ (i : Nat) (v' : Value), q = .int .i64 i ∧ i ≤ n2 ∧ Wd u1.heap.size g L wr v' (runsP L.n L.vm y2 i (x0, fun _ => Fst.no)).1 ∧ Below w.heap.size w wr ∧ Tl.Lay wr w.heap.size 38 [.int .i64 c.what, .int .i64 c.page, .int .i64 c.frame, .bool c.w, .bool c.e]) (fun q _ => n2 - (intOf q).toNat)
  case atStart => exact ⟨0, v, rfl, Nat.zero_le _, D0.out, U2.out, Y2.out⟩
  case round =>
    obtain ⟨i, v', rfl, hi, hD, hU, hY⟩ := hrel
    have D1 := Lib.hid hD
    have U3 := Lib.hid hU
    have Y3 := Lib.hid hY
    clear hD hU hY D0 U2 Y2
    have RI := Lib.hid (runs_rep (vm := L.vm) y2 R0.out i)
    by_cases hlt : i < n2
    · obtain ⟨b, off, rfl, hbl, hcl⟩ := HX2.out.at U3.out hlt
      have C2 := Lib.hid (D1.out.drewN 1)
      have U4 := Lib.hid (U3.out.drew)
      have HXX := Lib.hid hbl
      have Y4 := Lib.hid (Y3.out.kept (Only.drewN [] wr 1) (by simp))
      change Hid (Tl.Lay wr.drew _ _ _) at Y4
      obtain ⟨k0, k1, k2, k3, k4⟩ := hcl
      have j3 := D1.out.c.2.2.2
      change Hid (Wd u1.heap.size g L wr.drew v' _) at C2
      clear D1 U3 Y3
      go_wp2_with fail
      refine wp_region_still_tail 8 (by kernel_rfl) (by kernel_rfl) ?_
      simp only [List.take_succ_cons, List.take_zero, List.drop_succ_cons, List.drop_zero]
      change wpStill _ _ wr.drew (fun a' => wpList _ _ _ _ a' wr.drew) _ _
      repeat still_step
      refine wpStill_nil ?_
      clear k0 k1 k2 k3 k4 j3
      generalize wr.drew = u5 at *
      go_wp2_with fail
      refine (doL_any (y2 i) u5 C2.out.st (fun _ => RI.out)).mono ?_
      rintro e w6 ⟨rfl, v6, hS, hP⟩
      have C3 := Lib.hid (C2.out.hop hS hP)
      have U6 := Lib.hid (U4.out.trans ((C2.out.bel hP).mono z1.out))
      have Y5 := Lib.hid (lay_bel (C2.out.bel hP) YL.out Y4.out)
      clear hS hP C2 U4 Y4
      go_wp2_with fail
      go_roundw
      case rel => exact ⟨i + 1, v6, by go_num, by omega, C3.out, U6.out, Y5.out⟩
      case measure => simp only [intOf, Int.toNat_natCast]; omega
    · obtain rfl : i = n2 := by omega
      have II := Lib.hid (runs_inv (vm := L.vm) y2 R0.out I0.out i)
      clear I0 HX2
      generalize runsP L.n L.vm y2 i (x0, fun _ => Fst.no) = sx at *
      obtain ⟨x, A⟩ := sx
      have ei := II.out.2
      have E1 := Lib.hid (show Fr.giveL x.os (allT x A) = own0 N (N - aw) by
        have := II.out.1.gone
        rw [← ei, HL.out.1] at this
        exact this)
      clear II ei R0
      simp only at D1 RI
      have j2 := D1.out.c.2.2.1
      go_wp2_with fail
      refine (Tl.fill_any L.p L.pm L.room x.next x.ps (7, 9, 0, false, false) wr D1.out.st.tlb (by unfold Tl.W64; decide) (by unfold Tl.W64; decide)).mono ?_
      rintro e u6 ⟨rfl, hT, hO⟩
      obtain ⟨ps1, hps1⟩ : ∃ ps1, ps1 = Tl.fillP x.next x.ps (7, 9, 0, false, false) := ⟨_, rfl⟩
      obtain ⟨nx1, hnx1⟩ : ∃ nx1, nx1 = Tl.fillN L.room x.next x.ps (7, 9, 0, false, false) := ⟨_, rfl⟩
      rw [← hps1, ← hnx1] at hT
      have D2 := Lib.hid (D1.out.tlb hT hO (by simp))
      have bo := D1.out.belT hO (by simp)
      have U4 := Lib.hid (U3.out.trans (bo.mono z1.out))
      have Y4 := Lib.hid (lay_bel bo YL.out Y3.out)
      have R2 := Lib.hid ((RI.out.psd ps1).nxt nx1)
      have j3 := D2.out.c.2.2.2
      clear hT hO hps1 hnx1 bo D1 U3 Y3 j2 RI
      go_wp2_with fail
      refine (destroy_any u6 D2.out.st (fun _ => R2.out)).mono ?_
      rintro e u7 ⟨rfl, v7, hS, hP⟩
      have e7 : desP L.vm { x with ps := ps1, next := nx1 } A = dead L.vm { x with ps := ps1, next := nx1, log := [] } A := by
        have := R2.out.live
        unfold desP
        rw [if_neg (by rw [this]; simp)]
        rfl
      rw [e7] at hS
      have D3 := Lib.hid (D2.out.hop hS hP)
      have bo := D2.out.bel hP
      have U5 := Lib.hid (U4.out.trans (bo.mono z1.out))
      have Y5 := Lib.hid (lay_bel bo YL.out Y4.out)
      have P3 := Lib.hid (show (dead L.vm { x with ps := ps1, next := nx1, log := [] } A).gone = true ∧ (dead L.vm { x with ps := ps1, next := nx1, log := [] } A).log = [] ∧ (dead L.vm { x with ps := ps1, next := nx1, log := [] } A).os = own0 N (N - aw) ∧ (dead L.vm { x with ps := ps1, next := nx1, log := [] } A).ps = ps1.map (offV L.vm) from ⟨rfl, rfl, E1.out, rfl⟩)
      generalize dead L.vm { x with ps := ps1, next := nx1, log := [] } A = x3 at *
      clear hS hP e7 bo D2 U4 Y4 R2 j3 E1
      have C3 := Lib.hid (D3.out.drewN 1)
      have U6 := Lib.hid U5.out.drew
      have Y6 := Lib.hid (Y5.out.kept (Only.drewN [] u7 1) (by simp))
      change Hid (Tl.Lay u7.drew _ _ _) at Y6
      change Hid (Wd u1.heap.size g L u7.drew v7 _) at C3
      have j3 := D3.out.c.2.2.2
      have t0 := Y5.out.cell 0
      have t1 := Y5.out.cell 1
      have t2 := Y5.out.cell 2
      have t3 := Y5.out.cell 3
      have t4 := Y5.out.cell 4
      simp only [List.getElem?_cons_zero, List.getElem?_cons_succ] at t0 t1 t2 t3 t4
      clear D3 U5 Y5
      go_wp2_with fail
      refine wp_region_still_tail 5 (by kernel_rfl) (by kernel_rfl) ?_
      simp only [List.take_succ_cons, List.take_zero, List.drop_succ_cons, List.drop_zero]
      change wpStill _ _ u7.drew (fun a' => wpList _ _ _ _ a' u7.drew) _ _
      repeat still_step
      refine wpStill_nil ?_
      clear t0 t1 t2 t3 t4 j3
      generalize u7.drew = u8 at *
      go_wp2_with fail
      refine (doL_any (A := A) c u8 C3.out.st (fun h => by rw [P3.out.1] at h; cases h)).mono ?_
      have e8 : stepR L.n L.vm x3 A c = ⟨20, x3.noLog, (opP L.n L.vm x3.noLog A c).A⟩ := by unfold stepR gon; rw [if_pos P3.out.1]
      rw [e8]
      rintro e u9 ⟨rfl, v9, hS, hP⟩
      have D4 := Lib.hid (C3.out.hop hS hP)
      have bo := C3.out.bel hP
      have U7 := Lib.hid (U6.out.trans (bo.mono z1.out))
      have Y7 := Lib.hid (lay_bel bo YL.out Y6.out)
      have j3 := D4.out.c.2.2.2
      simp only at D4
      have P4 := Lib.hid (show x3.noLog.gone = true ∧ x3.noLog.log = [] ∧ x3.noLog.os = own0 N (N - aw) ∧ x3.noLog.ps = ps1.map (offV L.vm) from ⟨P3.out.1, rfl, P3.out.2.2.1, P3.out.2.2.2⟩)
      clear hS hP e8 bo C3 U6 Y6 P3
      generalize x3.noLog = x4 at *
      go_wp2_with fail
      refine (destroy_any (A := A) u9 D4.out.st (fun h => by rw [P4.out.1] at h; cases h)).mono ?_
      have e9 : desP L.vm x4 A = x4.noLog := by unfold desP; rw [if_pos P4.out.1]
      rw [e9]
      rintro e u10 ⟨rfl, v10, hS, hP⟩
      have D5 := Lib.hid (D4.out.hop hS hP)
      have bo := D4.out.bel hP
      have U8 := Lib.hid (U7.out.trans (bo.mono z1.out))
      have Y8 := Lib.hid (lay_bel bo YL.out Y7.out)
      have P5 := Lib.hid (show x4.noLog.gone = true ∧ x4.noLog.log = [] ∧ x4.noLog.os = own0 N (N - aw) ∧ x4.noLog.ps = ps1.map (offV L.vm) from ⟨P4.out.1, rfl, P4.out.2.2.1, P4.out.2.2.2⟩)
      have j2 := D5.out.c.2.2.1
      clear hS hP e9 bo D4 U7 Y7 P4 j3
      generalize x4.noLog = x5 at *
      go_wp2_with fail
      have CF : Calls Try.prog 20 #[.pointer (some ⟨L.p, 0, none⟩), .int .i64 7, .int .i64 9] u10 fun e w' => e = .returned (.tuple #[.agg #[.int .i64 0, .int .i64 0, .int .i64 0, .bool false, .bool false], .bool false]) ∧ Below u10.heap.size u10 w' := by
        have CF := Tl.find_any L.p L.pm L.room x5.next x5.ps 7 9 u10 D5.out.st.tlb (by unfold Tl.W64; decide) (by unfold Tl.W64; decide)
        rw [show Tl.findP 7 9 0 x5.ps = none by rw [P5.out.2.2.2, HL.out.2.1]; exact find_off 7 9 _ 0] at CF
        exact CF
      refine CF.mono ?_
      rintro e u11 ⟨rfl, b11⟩
      have D6 := Lib.hid ((D5.out.below b11).alloc (.cells #[.int .i64 0, .int .i64 0, .int .i64 0, .bool false, .bool false] 49))
      have U9 := Lib.hid ((U8.out.trans (b11.mono U8.out.size)).alloc (Nat.le_trans U8.out.size b11.size) (.cells #[.int .i64 0, .int .i64 0, .int .i64 0, .bool false, .bool false] 49))
      have Y9 := Lib.hid ((Y8.out.kept (Only.of b11 []) (by simp)).alloc (.cells #[.int .i64 0, .int .i64 0, .int .i64 0, .bool false, .bool false] 49))
      clear b11 CF D5 U8 Y8 j2
      go_wp2_with fail
      have S6 := Lib.hid (D6.out.drewN 1)
      have V9 := Lib.hid (U9.out.drew)
      have Z9 := Lib.hid (Y9.out.kept (Only.drewN [] _ 1) (by simp))
      change Hid (Wd u1.heap.size g L (World.drew _) v10 x5) at S6
      change Hid (Tl.Lay (World.drew _) _ _ _) at Z9
      have t1 := Z9.out.cell 1
      simp only [List.getElem?_cons_zero, List.getElem?_cons_succ] at t1
      clear D6 U9 Y9
      refine wp_region_held_drew (S := fun w' => w'.cell? ⟨g, 3, none⟩ = some (.pointer (some ⟨L.s, 0, none⟩)) ∧ w'.cell? ⟨w.heap.size, 1, none⟩ = some (.int .i64 c.page)) (by kernel_rfl) ⟨S6.out.c.2.2.2, t1⟩ (fun hHeld => ?_)
      clear t1
      generalize World.drew _ = q at *
      refine wpAnyH_take (i := 0) (v := (.pointer (some ⟨g, 0, none⟩))) rfl (by kernel_rfl) (by kernel_rfl) (by kernel_rfl) (fun _ _ _ h => h) (y_run (by kernel_rfl) (fun _ => by kernel_rfl)) hHeld ?_
      try simp only [Act.put, List.setIfInBounds_toArray]
      refine wpAnyH_take (i := 1) (v := (.pointer (some ⟨g, 0, none⟩))) rfl (by kernel_rfl) (by kernel_rfl) (by kernel_rfl) (fun _ _ _ h => h) (y_run (by kernel_rfl) (fun _ => by kernel_rfl)) hHeld ?_
      try simp only [Act.put]
      refine wpAnyH_take (i := 2) (v := (.pointer (some ⟨g, 3, none⟩))) rfl (by kernel_rfl) (by kernel_rfl) (by kernel_rfl) (fun _ _ _ h => h) (y_run (by kernel_rfl) (fun _ => by kernel_rfl)) hHeld ?_
      try simp only [Act.put]
      refine wpAnyH_take (i := 3) (v := (.pointer (some ⟨L.s, 0, none⟩))) rfl (by kernel_rfl) (by kernel_rfl) (by kernel_rfl) (fun _ _ _ h => h) (y_sp (g) 3 (some ⟨L.s, 0, none⟩) (.tmp 75) (by kernel_rfl) (fun _ h => h.1) rfl rfl) hHeld ?_
      try simp only [Act.put]
      refine wpAnyH_take (i := 4) (v := (.pointer (some ⟨w.heap.size, 1, none⟩))) rfl (by kernel_rfl) (by kernel_rfl) (by kernel_rfl) (fun _ _ _ h => h) (y_run (by kernel_rfl) (fun _ => by kernel_rfl)) hHeld ?_
      try simp only [Act.put]
      refine wpAnyH_take (i := 5) (v := (.int .i64 c.page)) rfl (by kernel_rfl) (by kernel_rfl) (by kernel_rfl) (fun _ _ _ h => h) (y_int (w.heap.size) 1 (c.page) (.tmp 77) (by kernel_rfl) (fun _ h => h.2) rfl rfl) hHeld ?_
      try simp only [Act.put]
      refine wpAnyH_ready (rs := [6, 10]) (by kernel_rfl) (by simp) ?_
      refine AllReadyH.cons (o := ⟨some 79, .call _, _, _, _, _⟩) rfl (fun K hK => ?_) (AllReadyH.cons (o := ⟨some 14, .alloc _, _, _, _, _⟩) rfl (fun K hK => ?_) AllReadyH.nil)
      · go_simp
        refine (look_gone c.page q S6.out.st P5.out.1).mono ?_
        rintro e q1 ⟨rfl, b1⟩
        refine hK.out _ _ ⟨(S6.out.below b1).c.2.2.2, (Z9.out.kept (Only.of b1 []) (by simp)).cell 1⟩ (fun hHeld => ?_)
        clear hK K
        try simp only [Act.put, List.setIfInBounds_toArray, List.set_cons_zero, List.set_cons_succ]
        refine wpAnyH_take (i := 7) (v := (.tuple #[.agg #[.bool false, .bool false, .bool false, .bool false, .int .i64 0], .bool false])) rfl (by kernel_rfl) (by kernel_rfl) (by kernel_rfl) (fun _ _ _ h => h) (y_run (by kernel_rfl) (fun _ => by kernel_rfl)) hHeld ?_
        try simp only [Act.put, List.setIfInBounds_toArray]
        refine wpAnyH_take (i := 8) (v := (.agg #[.bool false, .bool false, .bool false, .bool false, .int .i64 0])) rfl (by kernel_rfl) (by kernel_rfl) (by kernel_rfl) (fun _ _ _ h => h) (y_run (by kernel_rfl) (fun _ => by kernel_rfl)) hHeld ?_
        try simp only [Act.put]
        refine wpAnyH_take (i := 9) (v := (.bool false)) rfl (by kernel_rfl) (by kernel_rfl) (by kernel_rfl) (fun _ _ _ h => h) (y_run (by kernel_rfl) (fun _ => by kernel_rfl)) hHeld ?_
        try simp only [Act.put]
        refine wpAnyH_ready (rs := [10]) (by kernel_rfl) (by simp) ?_
        refine AllReadyH.cons (o := ⟨some 14, .alloc _, _, _, _, _⟩) rfl (fun K hK => ?_) AllReadyH.nil
        go_simp
        have B2 := b1.alloc b1.size (.cells #[.bool false, .bool false, .bool false, .bool false, .int .i64 0] 53)
        have Y14 := Lib.hid (Tl.Lay.new q1 53 [.bool false, .bool false, .bool false, .bool false, .int .i64 0])
        have N14 := Lib.hid b1.size
        have B3 := Lib.hid B2
        refine hK.out _ _ ⟨(S6.out.below B2).c.2.2.2, (Z9.out.kept (Only.of B2 []) (by simp)).cell 1⟩ (fun hHeld => ?_)
        clear hK K b1 B2
        generalize q1.heap.size = b14 at *
        generalize q1.alloc (.cells #[.bool false, .bool false, .bool false, .bool false, .int .i64 0] 53) = q2 at *
        try simp only [Act.put, List.setIfInBounds_toArray, List.set_cons_zero, List.set_cons_succ]
        have yl := Y14.out.lt
        have y0 := Y14.out.cell 0
        have y1 := Y14.out.cell 1
        have y2' := Y14.out.cell 2
        have y3 := Y14.out.cell 3
        have y4 := Y14.out.cell 4
        have g0 := Y14.out.free 0
        have g1 := Y14.out.free 1
        have g2 := Y14.out.free 2
        have g3 := Y14.out.free 3
        have g4 := Y14.out.free 4
        simp only [List.getElem?_cons_zero, List.getElem?_cons_succ] at y0 y1 y2' y3 y4
        have B4 := Lib.hid (below5 B3.out N14.out (.bool false) (.bool false) (.bool false) (.bool false) (.int .i64 0))
        refine wpAnyH_ready (rs := [11]) (by kernel_rfl) (by simp) ?_
        refine AllReadyH.cons (o := ⟨none, .store _ _ _, _, _, _, _⟩) rfl (fun K hK => ?_) AllReadyH.nil
        go_simp
        refine hK.out _ _ ⟨(S6.out.below B4.out).c.2.2.2, (Z9.out.kept (Only.of B4.out []) (by simp)).cell 1⟩ (fun hHeld => ?_)
        clear hK K yl y0 y1 y2' y3 y4 g0 g1 g2 g3 g4 Y14 N14 B3
        try simp only [Act.put, List.setIfInBounds_toArray, List.set_cons_zero, List.set_cons_succ]
        refine wpAnyH_take (i := 12) (oi := ⟨some 15, .assign (.tmp 81), _, _, _, _⟩) (v := (.bool false)) rfl (by kernel_rfl) (by kernel_rfl) (by kernel_rfl) (fun _ _ _ h => h) (y_run (by kernel_rfl) (fun _ => by kernel_rfl)) hHeld ?_
        try simp only [Act.put, List.setIfInBounds_toArray, List.set_cons_zero, List.set_cons_succ]
        refine wpAnyH_done (by kernel_rfl) ?_ _
        have D7 := Lib.hid (S6.out.below B4.out)
        have U10 := Lib.hid (V9.out.trans (B4.out.mono V9.out.size))
        clear hHeld B4 S6 V9 Z9
        generalize (((((q2.setCell ⟨b14, 0, none⟩ (.bool false)).setCell ⟨b14, 1, none⟩ (.bool false)).setCell ⟨b14, 2, none⟩ (.bool false)).setCell ⟨b14, 3, none⟩ (.bool false)).setCell ⟨b14, 4, none⟩ (.int .i64 0)) = q9 at *
        have c1 := D7.out.c.2.1
        go_wp2_with fail
        have CF := Fr.count_any L.t L.tF 1 _ q9 D7.out.st.tab
        rw [P5.out.2.2.1, own0_w1] at CF
        refine CF.mono ?_
        rintro e q' ⟨rfl, rfl⟩
        clear CF
        go_wp2_with fail
        have CF := Fr.count_any L.t L.tF 0 _ q9 D7.out.st.tab
        rw [P5.out.2.2.1, own0_w0 (by omega), show ((N - aw : Nat) : Int) = (N : Int) - aw by omega] at CF
        refine CF.mono ?_
        rintro e q' ⟨rfl, rfl⟩
        clear CF c1
        have j3 := D7.out.c.2.2.2
        go_wp2_with fail
        refine (pages_gone q9 D7.out.st P5.out.1).mono ?_
        rintro e q' ⟨rfl, rfl⟩
        go_wp2_with fail
        refine (log_any q9 D7.out.st (by rw [P5.out.2.1]; simp)).mono ?_
        rintro e q10 ⟨ul, rfl, hd, hb⟩
        rw [P5.out.2.1] at hd
        obtain ⟨la, lc, rfl⟩ := deeds_form hd
        have D8 := Lib.hid (D7.out.below hb)
        have U11 := Lib.hid (U10.out.trans (hb.mono U10.out.size))
        clear hd hb D7 U10 j3
        have j3 := D8.out.c.2.2.2
        simp only [List.length_nil]
        go_wp2_with fail
        refine (ntab_gone q10 D8.out.st P5.out.1).mono ?_
        rintro e q' ⟨rfl, rfl⟩
        clear j3
        go_wp2_with fail
        go_ret
        exact ⟨rfl, U11.out⟩
      · go_simp
        have B2 := (Below.refl q.heap.size q).alloc (Nat.le_refl _) (.cells #[.bool false, .bool false, .bool false, .bool false, .int .i64 0] 53)
        have Y13 := Lib.hid (Tl.Lay.new q 53 [.bool false, .bool false, .bool false, .bool false, .int .i64 0])
        have N14 := Lib.hid (Nat.le_refl q.heap.size)
        have B1' := Lib.hid B2
        refine hK.out _ _ ⟨(S6.out.below B2).c.2.2.2, (Z9.out.kept (Only.of B2 []) (by simp)).cell 1⟩ (fun hHeld => ?_)
        clear hK K B2
        try simp only [Act.put, List.setIfInBounds_toArray, List.set_cons_zero, List.set_cons_succ]
        refine wpAnyH_ready (rs := [6]) (by kernel_rfl) (by simp) ?_
        refine AllReadyH.cons (o := ⟨some 79, .call _, _, _, _, _⟩) rfl (fun K hK => ?_) AllReadyH.nil
        go_simp
        refine (look_gone c.page _ (S6.out.below B1'.out).st P5.out.1).mono ?_
        rintro e q2 ⟨rfl, b1⟩
        have B3 := Lib.hid (B1'.out.trans (b1.mono B1'.out.size))
        have Y14 := Lib.hid (Y13.out.kept (Only.of b1 []) (by simp))
        refine hK.out _ _ ⟨(S6.out.below B3.out).c.2.2.2, (Z9.out.kept (Only.of B3.out []) (by simp)).cell 1⟩ (fun hHeld => ?_)
        clear hK K b1 Y13 B1'
        try simp only [Act.put, List.setIfInBounds_toArray, List.set_cons_zero, List.set_cons_succ]
        refine wpAnyH_take (i := 7) (v := (.tuple #[.agg #[.bool false, .bool false, .bool false, .bool false, .int .i64 0], .bool false])) rfl (by kernel_rfl) (by kernel_rfl) (by kernel_rfl) (fun _ _ _ h => h) (y_run (by kernel_rfl) (fun _ => by kernel_rfl)) hHeld ?_
        try simp only [Act.put, List.setIfInBounds_toArray]
        refine wpAnyH_take (i := 8) (v := (.agg #[.bool false, .bool false, .bool false, .bool false, .int .i64 0])) rfl (by kernel_rfl) (by kernel_rfl) (by kernel_rfl) (fun _ _ _ h => h) (y_run (by kernel_rfl) (fun _ => by kernel_rfl)) hHeld ?_
        try simp only [Act.put]
        refine wpAnyH_take (i := 9) (v := (.bool false)) rfl (by kernel_rfl) (by kernel_rfl) (by kernel_rfl) (fun _ _ _ h => h) (y_run (by kernel_rfl) (fun _ => by kernel_rfl)) hHeld ?_
        try simp only [Act.put]
        have yl := Y14.out.lt
        have y0 := Y14.out.cell 0
        have y1 := Y14.out.cell 1
        have y2' := Y14.out.cell 2
        have y3 := Y14.out.cell 3
        have y4 := Y14.out.cell 4
        have g0 := Y14.out.free 0
        have g1 := Y14.out.free 1
        have g2 := Y14.out.free 2
        have g3 := Y14.out.free 3
        have g4 := Y14.out.free 4
        simp only [List.getElem?_cons_zero, List.getElem?_cons_succ] at y0 y1 y2' y3 y4
        have B4 := Lib.hid (below5 B3.out N14.out (.bool false) (.bool false) (.bool false) (.bool false) (.int .i64 0))
        refine wpAnyH_ready (rs := [11]) (by kernel_rfl) (by simp) ?_
        refine AllReadyH.cons (o := ⟨none, .store _ _ _, _, _, _, _⟩) rfl (fun K hK => ?_) AllReadyH.nil
        go_simp
        refine hK.out _ _ ⟨(S6.out.below B4.out).c.2.2.2, (Z9.out.kept (Only.of B4.out []) (by simp)).cell 1⟩ (fun hHeld => ?_)
        clear hK K yl y0 y1 y2' y3 y4 g0 g1 g2 g3 g4 Y14 N14 B3
        try simp only [Act.put, List.setIfInBounds_toArray, List.set_cons_zero, List.set_cons_succ]
        refine wpAnyH_take (i := 12) (oi := ⟨some 15, .assign (.tmp 81), _, _, _, _⟩) (v := (.bool false)) rfl (by kernel_rfl) (by kernel_rfl) (by kernel_rfl) (fun _ _ _ h => h) (y_run (by kernel_rfl) (fun _ => by kernel_rfl)) hHeld ?_
        try simp only [Act.put, List.setIfInBounds_toArray, List.set_cons_zero, List.set_cons_succ]
        refine wpAnyH_done (by kernel_rfl) ?_ _
        have D7 := Lib.hid (S6.out.below B4.out)
        have U10 := Lib.hid (V9.out.trans (B4.out.mono V9.out.size))
        clear hHeld B4 S6 V9 Z9
        generalize (((((q2.setCell ⟨q.heap.size, 0, none⟩ (.bool false)).setCell ⟨q.heap.size, 1, none⟩ (.bool false)).setCell ⟨q.heap.size, 2, none⟩ (.bool false)).setCell ⟨q.heap.size, 3, none⟩ (.bool false)).setCell ⟨q.heap.size, 4, none⟩ (.int .i64 0)) = q9 at *
        have c1 := D7.out.c.2.1
        go_wp2_with fail
        have CF := Fr.count_any L.t L.tF 1 _ q9 D7.out.st.tab
        rw [P5.out.2.2.1, own0_w1] at CF
        refine CF.mono ?_
        rintro e q' ⟨rfl, rfl⟩
        clear CF
        go_wp2_with fail
        have CF := Fr.count_any L.t L.tF 0 _ q9 D7.out.st.tab
        rw [P5.out.2.2.1, own0_w0 (by omega), show ((N - aw : Nat) : Int) = (N : Int) - aw by omega] at CF
        refine CF.mono ?_
        rintro e q' ⟨rfl, rfl⟩
        clear CF c1
        have j3 := D7.out.c.2.2.2
        go_wp2_with fail
        refine (pages_gone q9 D7.out.st P5.out.1).mono ?_
        rintro e q' ⟨rfl, rfl⟩
        go_wp2_with fail
        refine (log_any q9 D7.out.st (by rw [P5.out.2.1]; simp)).mono ?_
        rintro e q10 ⟨ul, rfl, hd, hb⟩
        rw [P5.out.2.1] at hd
        obtain ⟨la, lc, rfl⟩ := deeds_form hd
        have D8 := Lib.hid (D7.out.below hb)
        have U11 := Lib.hid (U10.out.trans (hb.mono U10.out.size))
        clear hd hb D7 U10 j3
        have j3 := D8.out.c.2.2.2
        simp only [List.length_nil]
        go_wp2_with fail
        refine (ntab_gone q10 D8.out.st P5.out.1).mono ?_
        rintro e q' ⟨rfl, rfl⟩
        clear j3
        go_wp2_with fail
        go_ret
        exact ⟨rfl, U11.out⟩
set_option maxRecDepth 100000 in
theorem lifted (os : Os) (started : os.Started) (H : Type) (enc : TypeId × Value → H) :
    ReturnsInHanded {} Try.checked os 4 .any (Rows.stageGoneSpec.pre6 enc Try.prog Try.f4 Rows.stageGoneRow.domain false) (Rows.stageGoneSpec.post enc Try.prog Try.f4 false true false false) := by
  refine returnsInHanded_of_change_sized (C := Try.checked) own started (by kernel_rfl) Try.func4
    (ChangeSpec.witness6 (enc := enc) (C := Try.checked) false ⟨#[], #[.int .i64 0, .int .i64 0, .slice none 0 0, .agg #[.int .i64 0, .int .i64 0, .int .i64 0, .bool false, .bool false]], []⟩ 8 (by kernel_rfl) (by kernel_rfl) (by kernel_rfl) (by kernel_rfl)) ?_
  intro W base args ds gs before hval0 hW hcnd hZ0 _
  have hval : ∀ (j : Nat) t v, Try.f4.params[j]? = some t → args[j]? = some v → Value.okWide Try.prog W .any base t v := hval0
  have hZ : ∀ n ∈ DataW.weightsEach Try.prog (Try.f4.params.toList ++ []) (ds ++ gs), n ≤ reachBytes := fun n hn => of_decide_eq_true (List.all_eq_true.1 hZ0 n hn)
  have hW' := hW
  obtain ⟨p, q, hA0, hV, rfl, hfz, hnd⟩ := hW
  have hA : DataW.TrodAll enc Try.prog W 0 (fun _ => true) true Try.f4.params.toList args.toList ds p := hA0
  rw [Try.params4] at hA hval hZ
  obtain ⟨v0, vs0, d0, ds0, p0, q0, hargs, rfl, rfl, h0, r0⟩ := trodAll_cons hA
  obtain ⟨v1, vs1, d1, ds1, p1, q1, rfl, rfl, rfl, h1, r1⟩ := trodAll_cons r0
  obtain ⟨v2, vs2, d2, ds2, p2, q2, rfl, rfl, rfl, h2, r2⟩ := trodAll_cons r1
  obtain ⟨v3, vs3, d3, ds3, p3, q3, rfl, rfl, rfl, h3, r3⟩ := trodAll_cons r2
  obtain ⟨rfl, rfl, rfl⟩ := trodAll_nil r3
  obtain rfl : args = #[v0, v1, v2, v3] := by cases args; simp_all
  obtain ⟨rfl, rfl⟩ := trodVars_none hV
  obtain ⟨x0, rfl, rfl, rfl, w0⟩ := open_int Try.underlying3 (hval 0 3 v0 rfl rfl) h0
  obtain ⟨x1, rfl, rfl, rfl, w1⟩ := open_int Try.underlying3 (hval 1 3 v1 rfl rfl) h1
  have k2 := h2
  have hz2 : ∀ n ∈ d2.weights Try.prog 22, n ≤ reachBytes := fun n hn => hZ n (by simp only [List.append_nil, DataW.weightsEach, List.mem_append]; exact Or.inr (Or.inr (Or.inl hn)))
  obtain ⟨a2, n2, c2, y2, rfl, m2, lt2, z2⟩ := scalls_open (hval 2 22 v2 rfl rfl) h2 hz2
  have k3 := h3
  obtain ⟨cq3, rfl, pe3⟩ := scall_open (hval 3 38 v3 rfl rfl) h3
  clear hA0 hval0 hZ0
  refine (walk x0 x1 a2 n2 c2 y2 cq3 W z2 m2).mono fun e W' ⟨he, ho⟩ => ?_
  subst he
  have bel : Below W.heap.size W W' := ho
  exact ⟨_, rfl, _, _, _, [], _, [], hW', trodAll_mk1 (shut_bool Try.underlying4 _), (trodAll_cons_mk (shut_int Try.underlying3 w0) (trodAll_cons_mk (shut_int Try.underlying3 w1) (trodAll_cons_mk (Below.trod laidOut (by kernel_rfl) (of_decide_eq_true (by kernel_rfl)) k2 bel lt2) (trodAll_cons_mk (Below.trod laidOut (by kernel_rfl) (of_decide_eq_true (by kernel_rfl)) k3 bel (by simp [pe3])) trodAll_mk0)))), rfl, bel.frame _, fun h => by cases h⟩
theorem over : Rows.stageGoneRow.holds Try.pinned (OpenSpec.ofChange Rows.stageGoneSpec) :=
  OpenClaim.holds_of_wide 4 Try.f4 rfl rfl rfl rfl rfl rfl rfl ⟨rfl, rfl, rfl, rfl, rfl⟩ rfl rfl rfl rfl rfl (by kernel_rfl) Try.func4 (by kernel_rfl)
    (of_decide_eq_true (by kernel_rfl)) (by unfold Func.isWrapper; first | (rw [if_pos (by decide +kernel)]; kernel_rfl) | (rw [if_neg (by decide +kernel)]; exact ⟨rfl, rfl⟩))
    (fun os started H enc _ => lifted os started H enc)
end stageGone
/-- The statement. -/
theorem stageGone_holds : Rows.StageGoneSaid := stageGone.over
#print axioms stageGone_holds
end Go.Proofs.Ytiiggmfindfkfaa
