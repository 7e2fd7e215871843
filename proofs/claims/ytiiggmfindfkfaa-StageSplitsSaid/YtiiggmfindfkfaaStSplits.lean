/-
  StageSplits: a block that is broken up, and merged again, tells the same pages as ahead of it; a right that is changed changes that page alone: for every input true, and the input reads as it did; no condition.
-/
import Derived.Test.YtiiggmfindfkfaaStOpen
import Derived.Test.YtiiggmfindfkfaaStSpl
namespace Go.Proofs.Ytiiggmfindfkfaa
open Go.ChangeShapes Go.WideShapes Go.ChangeAt Go.RowKit Go.Deep Nt
namespace stageSplits
open St
open Ph (Only)
open Ph En Wk
set_option maxRecDepth 100000 in
set_option maxHeartbeats 16000000 in
theorem walk (n away : Int) (a2 : Option Addr) (n2 c2 : Nat) (y2 : Nat → Cq) (fi pg : Int) (w : World) (hx2 : SCalls w.heap.size w a2 n2 y2) (hl2 : n2 ≤ c2 ∧ c2 ≤ maxLen) :
    Calls Try.prog 6 #[.int .i64 n, .int .i64 away, .slice a2 n2 c2, .int .i64 fi, .int .i64 pg] w fun e w' => e = .returned (.bool true) ∧ Below w.heap.size w w' := by
  have HX2 := Lib.hid hx2
  have hm2 : n2 ≤ maxLen := by omega
  unfold maxLen at hm2
  clear hx2 hl2
  go_enter Try.func6, Try.ntmps6
  go_wp2_with fail
  have UB := Lib.hid (Below.refl w.heap.size w)
  refine (alive_any w).mono ?_
  rintro e u1 ⟨rfl, b1⟩
  have U1 := Lib.hid (UB.out.trans (b1.mono UB.out.size))
  clear b1 UB
  go_wp2_with fail
  by_cases hg : gr n away n2
  · refine (great_yes n away a2 n2 c2 u1 hg).mono ?_
    rintro e w' ⟨rfl, rfl⟩
    clear hg
    go_wp2_with fail
    go_ret
    exact ⟨rfl, U1.out⟩
  have hN : 1 ≤ n ∧ n ≤ 300 ∧ 0 ≤ away ∧ away < n ∧ n2 ≤ 24 := by unfold gr at hg; omega
  obtain ⟨N, rfl⟩ := Int.eq_ofNat_of_zero_le (show 0 ≤ n by omega)
  obtain ⟨aw, rfl⟩ := Int.eq_ofNat_of_zero_le (show 0 ≤ away by omega)
  have haw : aw < N := by omega
  have hN3 : N ≤ 300 := by omega
  have h24 : n2 ≤ 24 := by omega
  clear hg hN
  refine (great_no N aw a2 n2 c2 u1 h24 haw hN3).mono ?_
  rintro e w' ⟨rfl, rfl⟩
  go_wp2_with fail
  refine (begin_any N aw u1 (by omega) haw).mono ?_
  rintro e u2 ⟨g, L, v, rfl, D, hb, hn, hvm, hroom⟩
  have D0 := Lib.hid D
  have U2 := Lib.hid (U1.out.trans (hb.mono U1.out.size))
  have HL := Lib.hid (And.intro hn (And.intro hvm hroom))
  have R0 := Lib.hid (show Rep L.n (beg N aw 8) (fun _ => Fst.no) by rw [hn]; exact beg_rep (by omega) haw)
  have I0 := Lib.hid (show Inv L.n (N - aw) (beg N aw 8).root (beg N aw 8).os (fun _ => Fst.no) by rw [hn]; exact inv_beg haw 8)
  have z1 := Lib.hid U1.out.size
  clear D hb hn hvm hroom U1
  generalize beg N aw 8 = x0 at *
  go_wp2_with fail
  go_loopw [12] (fun q wr => ∃ (i : Nat) (v' : Value), q = .int .i64 i ∧ i ≤ n2 ∧ Wd u1.heap.size g L wr v' (runsP L.n L.vm y2 i (x0, fun _ => Fst.no)).1 ∧ Below w.heap.size w wr) (fun q _ => n2 - (intOf q).toNat)
  case atStart => exact ⟨0, v, rfl, Nat.zero_le _, D0.out, U2.out⟩
  case round =>
    obtain ⟨i, v', rfl, hi, hD, hU⟩ := hrel
    have D1 := Lib.hid hD
    have U3 := Lib.hid hU
    clear hD hU D0 U2
    have RI := Lib.hid (runs_rep (vm := L.vm) y2 R0.out i)
    by_cases hlt : i < n2
    · obtain ⟨b, off, rfl, hbl, hcl⟩ := HX2.out.at U3.out hlt
      have C2 := Lib.hid (D1.out.drewN 1)
      have U4 := Lib.hid (U3.out.drew)
      have HXX := Lib.hid hbl
      obtain ⟨k0, k1, k2, k3, k4⟩ := hcl
      have j3 := D1.out.c.2.2.2
      change Hid (Wd u1.heap.size g L wr.drew v' _) at C2
      clear D1 U3
      go_wp2_with fail
      refine wp_region_still_tail 8 (by kernel_rfl) (by kernel_rfl) ?_
      simp only [List.take_succ_cons, List.take_zero, List.drop_succ_cons, List.drop_zero]
      change wpStill _ _ wr.drew (fun a' => wpList _ _ _ _ a' wr.drew) _ _
      repeat still_step
      refine wpStill_nil ?_
      clear k0 k1 k2 k3 k4 j3
      generalize wr.drew = u5 at *
      go_wp2_with fail
      refine (doL_any (y2 i) u5 C2.out.st (fun _ => RI.out)).mono ?_
      rintro e w6 ⟨rfl, v6, hS, hP⟩
      have C3 := Lib.hid (C2.out.hop hS hP)
      have U6 := Lib.hid (U4.out.trans ((C2.out.bel hP).mono z1.out))
      clear hS hP C2 U4
      go_wp2_with fail
      go_roundw
      case rel => exact ⟨i + 1, v6, by go_num, by omega, C3.out, U6.out⟩
      case measure => simp only [intOf, Int.toNat_natCast]; omega
    · obtain rfl : i = n2 := by omega
      clear I0 HX2
      have HR := Lib.hid RI.out
      clear RI
      generalize runsP L.n L.vm y2 i (x0, fun _ => Fst.no) = sx at *
      obtain ⟨x, A⟩ := sx
      simp only at D1 HR
      clear R0
      have j3 := D1.out.c.2.2.2
      go_wp2_with fail
      have CP := pages_seen wr D1.out.st HR.out.live
      rw [pages_told HR.out, show (List.range 4096).filter (fun p => (told A p).isSome) = pgL A from rfl] at CP
      refine CP.mono ?_
      clear CP
      rintro e w6 ⟨vp, rfl, hs, hO⟩
      obtain ⟨pp, cp, rfl⟩ := hs.form
      have bO := hO.below (B := wr.heap.size) (Nat.le_refl _) (by simp)
      have D2 := Lib.hid (D1.out.below bO)
      have P2 := Lib.hid (Rw.of hs D1.out.st)
      have U4 := Lib.hid (U3.out.trans (bO.mono U3.out.size))
      obtain ⟨np, hnp⟩ : ∃ np, np = (pgL A).length := ⟨_, rfl⟩
      have n4 : np ≤ 4096 := by rw [hnp]; exact pgL_len A
      rw [← hnp]
      have HN := Lib.hid hnp
      clear hs hO bO hnp D1 U3 j3
      go_wp2_with fail
      go_loopw [14, 15] (fun rr q wq => ∃ k : Nat, q = .int .i64 k ∧ k ≤ np ∧ wq.ownsRow w6.heap.size 53 5 rr k (entL A ((pgL A).take k)) ∧ Below w6.heap.size w6 wq) (fun _ q _ => np - (intOf q).toNat)
      case atStart => exact ⟨0, rfl, Nat.zero_le _, World.ownsRow_lit w6 #[] 0 (Nat.le_refl _) (by decide) rfl, (Below.refl _ _).alloc (Nat.le_refl _) _⟩
      case round =>
        obtain ⟨k, rfl, hk, hW, hB⟩ := hrel
        have HW := Lib.hid hW
        have B3' := Lib.hid hB
        clear hB hW
        by_cases hlt : k < np
        · obtain ⟨p, hkp⟩ : ∃ p, (pgL A)[k]? = some p := ⟨(pgL A)[k]'(by have := HN.out; omega), List.getElem?_eq_getElem _⟩
          obtain ⟨hp, q, hq⟩ := pgL_mem hkp
          have bd := (drewB (Below.refl wr.heap.size wr) 1)
          obtain ⟨b, rfl, hbl, _, _, hcell⟩ := (P2.out.below B3'.out) (by have := HN.out; omega)
          have kc := hcell k p hkp
          have DQ := Lib.hid ((D2.out.below B3'.out).below bd)
          have KQ := Lib.hid ((bd.cell (p := ⟨b, k, none⟩) hbl).trans kc)
          have BW := Lib.hid (B3'.out.trans (bd.mono B3'.out.size))
          have HQ := Lib.hid hq
          have HK := Lib.hid hkp
          have HV := Lib.hid (owns_kept HW.out (Only.of bd []) (by simp))
          change Hid (Wd _ _ _ wr.drew _ _) at DQ
          change Hid (wr.drew.cell? _ = _) at KQ
          change Hid (Below _ _ wr.drew) at BW
          change Hid (wr.drew.ownsRow _ _ _ _ _ _) at HV
          clear hkp hq bd hcell kc hbl B3' HW
          go_wp2_with fail
          refine wp_region_held_drew (S := fun w' => w'.cell? ⟨g, 3, none⟩ = some (.pointer (some ⟨L.s, 0, none⟩)) ∧ w'.cell? ⟨b, k, none⟩ = some (.int .i64 (p : Int))) (by kernel_rfl) ⟨DQ.out.c.2.2.2, KQ.out⟩ (fun hHeld => ?_)
          generalize World.drew _ = q0 at *
          refine wpAnyH_take (i := 0) (oi := ⟨some 62, _, _, _, _, _⟩) (v := (.pointer (some ⟨g, 0, none⟩))) rfl (by kernel_rfl) (by kernel_rfl) (by kernel_rfl) (fun _ _ _ h => h) (y_run (by kernel_rfl) (fun _ => by kernel_rfl)) hHeld ?_
          try simp only [Act.put, List.setIfInBounds_toArray, List.set_cons_zero, List.set_cons_succ]
          refine wpAnyH_take (i := 1) (oi := ⟨some 63, _, _, _, _, _⟩) (v := (.pointer (some ⟨g, 0, none⟩))) rfl (by kernel_rfl) (by kernel_rfl) (by kernel_rfl) (fun _ _ _ h => h) (y_run (by kernel_rfl) (fun _ => by kernel_rfl)) hHeld ?_
          try simp only [Act.put, List.setIfInBounds_toArray, List.set_cons_zero, List.set_cons_succ]
          refine wpAnyH_take (i := 2) (oi := ⟨some 64, _, _, _, _, _⟩) (v := (.pointer (some ⟨g, 3, none⟩))) rfl (by kernel_rfl) (by kernel_rfl) (by kernel_rfl) (fun _ _ _ h => h) (y_run (by kernel_rfl) (fun _ => by kernel_rfl)) hHeld ?_
          try simp only [Act.put, List.setIfInBounds_toArray, List.set_cons_zero, List.set_cons_succ]
          refine wpAnyH_take (i := 3) (oi := ⟨some 65, _, _, _, _, _⟩) (v := (.pointer (some ⟨L.s, 0, none⟩))) rfl (by kernel_rfl) (by kernel_rfl) (by kernel_rfl) (fun _ _ _ h => h) (y_sp (g) 3 (some ⟨L.s, 0, none⟩) (.tmp 64) (by kernel_rfl) (fun _ h => h.1) rfl rfl) hHeld ?_
          try simp only [Act.put, List.setIfInBounds_toArray, List.set_cons_zero, List.set_cons_succ]
          refine wpAnyH_take (i := 4) (oi := ⟨some 66, _, _, _, _, _⟩) (v := (.slice (some ⟨b, 0, none⟩) np cp)) rfl (by kernel_rfl) (by kernel_rfl) (by kernel_rfl) (fun _ _ _ h => h) (y_run (by kernel_rfl) (fun _ => by kernel_rfl)) hHeld ?_
          try simp only [Act.put, List.setIfInBounds_toArray, List.set_cons_zero, List.set_cons_succ]
          refine wpAnyH_take (i := 5) (oi := ⟨some 67, _, _, _, _, _⟩) (v := (.int .i64 (k : Int))) rfl (by kernel_rfl) (by kernel_rfl) (by kernel_rfl) (fun _ _ _ h => h) (y_run (by kernel_rfl) (fun _ => by kernel_rfl)) hHeld ?_
          try simp only [Act.put, List.setIfInBounds_toArray, List.set_cons_zero, List.set_cons_succ]
          refine wpAnyH_take (i := 6) (oi := ⟨some 68, _, _, _, _, _⟩) (v := (.pointer (some ⟨b, k, none⟩))) rfl (by kernel_rfl) (by kernel_rfl) (by kernel_rfl) (fun _ _ _ h => h) (y_run (by kernel_rfl) (fun _ => by go_simp)) hHeld ?_
          try simp only [Act.put, List.setIfInBounds_toArray, List.set_cons_zero, List.set_cons_succ]
          refine wpAnyH_take (i := 7) (oi := ⟨some 69, _, _, _, _, _⟩) (v := (.int .i64 (p : Int))) rfl (by kernel_rfl) (by kernel_rfl) (by kernel_rfl) (fun _ _ _ h => h) (y_int (b) k (p) (.tmp 68) (by kernel_rfl) (fun _ h => h.2) rfl rfl) hHeld ?_
          try simp only [Act.put, List.setIfInBounds_toArray, List.set_cons_zero, List.set_cons_succ]
          refine wpAnyH_ready (rs := [8, 12]) (by kernel_rfl) (by simp) ?_
          refine AllReadyH.cons (o := ⟨some 70, .call _, _, _, _, _⟩) rfl (fun K hK => ?_) (AllReadyH.cons (o := ⟨some 16, .alloc _, _, _, _, _⟩) rfl (fun K hK => ?_) AllReadyH.nil)
          focus
            go_simp
            refine (look_some p q _ DQ.out.st HR.out hp HQ.out).mono ?_
            rintro e q2 ⟨rfl, b2⟩
            have B2 := Lib.hid b2
            refine hK.out _ _ ⟨(DQ.out.below B2.out).c.2.2.2, (B2.out.cell (p := ⟨b, k, none⟩) (World.block_lt_of_cell? _ _ KQ.out)).trans KQ.out⟩ (fun hHeld => ?_)
            clear hK K
            try simp only [Act.put, List.setIfInBounds_toArray, List.set_cons_zero, List.set_cons_succ]
            refine wpAnyH_take (i := 9) (oi := ⟨some 61, _, _, _, _, _⟩) (v := (.tuple #[.agg #[.bool true, .bool q.W, .bool q.X, .bool q.B, .int .i64 (q.F : Int)], .bool true])) rfl (by kernel_rfl) (by kernel_rfl) (by kernel_rfl) (fun _ _ _ h => h) (y_run (by kernel_rfl) (fun _ => by kernel_rfl)) hHeld ?_
            try simp only [Act.put, List.setIfInBounds_toArray, List.set_cons_zero, List.set_cons_succ]
            refine wpAnyH_take (i := 10) (oi := ⟨some 71, _, _, _, _, _⟩) (v := (.agg #[.bool true, .bool q.W, .bool q.X, .bool q.B, .int .i64 (q.F : Int)])) rfl (by kernel_rfl) (by kernel_rfl) (by kernel_rfl) (fun _ _ _ h => h) (y_run (by kernel_rfl) (fun _ => by kernel_rfl)) hHeld ?_
            try simp only [Act.put, List.setIfInBounds_toArray, List.set_cons_zero, List.set_cons_succ]
            refine wpAnyH_take (i := 11) (oi := ⟨some 72, _, _, _, _, _⟩) (v := (.bool true)) rfl (by kernel_rfl) (by kernel_rfl) (by kernel_rfl) (fun _ _ _ h => h) (y_run (by kernel_rfl) (fun _ => by kernel_rfl)) hHeld ?_
            try simp only [Act.put, List.setIfInBounds_toArray, List.set_cons_zero, List.set_cons_succ]
            refine wpAnyH_ready (rs := [12]) (by kernel_rfl) (by simp) ?_
            refine AllReadyH.cons (o := ⟨some 16, .alloc _, _, _, _, _⟩) rfl (fun K hK => ?_) AllReadyH.nil
            go_simp
            have Y14 := Lib.hid (Tl.Lay.new q2 53 [.bool false, .bool false, .bool false, .bool false, .int .i64 0])
            have B3 := Lib.hid (B2.out.alloc B2.out.size (.cells #[.bool false, .bool false, .bool false, .bool false, .int .i64 0] 53))
            refine hK.out _ _ ⟨(DQ.out.below B3.out).c.2.2.2, (B3.out.cell (p := ⟨b, k, none⟩) (World.block_lt_of_cell? _ _ KQ.out)).trans KQ.out⟩ (fun hHeld => ?_)
            clear hK K
            try simp only [Act.put, List.setIfInBounds_toArray, List.set_cons_zero, List.set_cons_succ]
            obtain ⟨bh, hbh⟩ : ∃ b, b = q2.heap.size := ⟨_, rfl⟩
            have N14 := Lib.hid (show q0.heap.size ≤ bh by rw [hbh]; exact B2.out.size)
            rw [← hbh] at Y14 ⊢
            clear hbh
            clear B2 b2
            generalize q2.alloc (.cells #[.bool false, .bool false, .bool false, .bool false, .int .i64 0] 53) = q3 at *
            have yl := Y14.out.lt
            have y0 := Y14.out.cell 0
            have y1 := Y14.out.cell 1
            have y2' := Y14.out.cell 2
            have y3 := Y14.out.cell 3
            have y4 := Y14.out.cell 4
            have g0 := Y14.out.free 0
            have g1 := Y14.out.free 1
            have g2 := Y14.out.free 2
            have g3 := Y14.out.free 3
            have g4 := Y14.out.free 4
            simp only [List.getElem?_cons_zero, List.getElem?_cons_succ] at y0 y1 y2' y3 y4
            have B4 := Lib.hid (below5 B3.out N14.out (.bool true) (.bool q.W) (.bool q.X) (.bool q.B) (.int .i64 (q.F : Int)))
            have H4 := Lib.hid (lay5 Y14.out (.bool true) (.bool q.W) (.bool q.X) (.bool q.B) (.int .i64 (q.F : Int)))
            refine wpAnyH_ready (rs := [13]) (by kernel_rfl) (by simp) ?_
            refine AllReadyH.cons (o := ⟨none, .store _ _ _, _, _, _, _⟩) rfl (fun K hK => ?_) AllReadyH.nil
            go_simp
            refine hK.out _ _ ⟨(DQ.out.below B4.out).c.2.2.2, (B4.out.cell (p := ⟨b, k, none⟩) (World.block_lt_of_cell? _ _ KQ.out)).trans KQ.out⟩ (fun hHeld => ?_)
            clear hK K yl y0 y1 y2' y3 y4 g0 g1 g2 g3 g4 Y14 B3
            try simp only [Act.put, List.setIfInBounds_toArray, List.set_cons_zero, List.set_cons_succ]
            refine wpAnyH_take (i := 14) (oi := ⟨some 17, .assign (.tmp 72), _, _, _, _⟩) (v := (.bool true)) rfl (by kernel_rfl) (by kernel_rfl) (by kernel_rfl) (fun _ _ _ h => h) (y_run (by kernel_rfl) (fun _ => by kernel_rfl)) hHeld ?_
            try simp only [Act.put, List.setIfInBounds_toArray, List.set_cons_zero, List.set_cons_succ]
            refine wpAnyH_done (by kernel_rfl) ?_ _
            have BQ := Lib.hid B4.out
            have H9 := Lib.hid (show Tl.Lay _ _ 53 [.bool true, .bool q.W, .bool q.X, .bool q.B, .int .i64 (q.F : Int)] from H4.out)
            have NB9 := Lib.hid N14.out
            clear hHeld B4 H4 N14
            generalize (((((q3.setCell ⟨bh, 0, none⟩ (.bool true)).setCell ⟨bh, 1, none⟩ (.bool q.W)).setCell ⟨bh, 2, none⟩ (.bool q.X)).setCell ⟨bh, 3, none⟩ (.bool q.B)).setCell ⟨bh, 4, none⟩ (.int .i64 (q.F : Int))) = q9 at *
          rotate_left
          focus
            go_simp
            have Y14 := Lib.hid (Tl.Lay.new q0 53 [.bool false, .bool false, .bool false, .bool false, .int .i64 0])
            have B3 := Lib.hid ((Below.refl q0.heap.size q0).alloc (Below.refl q0.heap.size q0).size (.cells #[.bool false, .bool false, .bool false, .bool false, .int .i64 0] 53))
            refine hK.out _ _ ⟨(DQ.out.below B3.out).c.2.2.2, (B3.out.cell (p := ⟨b, k, none⟩) (World.block_lt_of_cell? _ _ KQ.out)).trans KQ.out⟩ (fun hHeld => ?_)
            clear hK K
            try simp only [Act.put, List.setIfInBounds_toArray, List.set_cons_zero, List.set_cons_succ]
            obtain ⟨bh, hbh⟩ : ∃ b, b = q0.heap.size := ⟨_, rfl⟩
            have N14 := Lib.hid (show q0.heap.size ≤ bh by rw [hbh]; exact (Below.refl q0.heap.size q0).size)
            rw [← hbh] at Y14 ⊢
            clear hbh
            have Y13 := Y14
            have B1' := B3
            clear Y14 B3
            refine wpAnyH_ready (rs := [8]) (by kernel_rfl) (by simp) ?_
            refine AllReadyH.cons (o := ⟨some 70, .call _, _, _, _, _⟩) rfl (fun K hK => ?_) AllReadyH.nil
            go_simp
            refine (look_some p q _ (DQ.out.below B1'.out).st HR.out hp HQ.out).mono ?_
            rintro e q3 ⟨rfl, b2⟩
            have B3 := Lib.hid (B1'.out.trans (b2.mono B1'.out.size))
            have Y14 := Lib.hid (Y13.out.kept (Only.of b2 []) (by simp))
            refine hK.out _ _ ⟨(DQ.out.below B3.out).c.2.2.2, (B3.out.cell (p := ⟨b, k, none⟩) (World.block_lt_of_cell? _ _ KQ.out)).trans KQ.out⟩ (fun hHeld => ?_)
            clear hK K b2 Y13 B1'
            try simp only [Act.put, List.setIfInBounds_toArray, List.set_cons_zero, List.set_cons_succ]
            refine wpAnyH_take (i := 9) (oi := ⟨some 61, _, _, _, _, _⟩) (v := (.tuple #[.agg #[.bool true, .bool q.W, .bool q.X, .bool q.B, .int .i64 (q.F : Int)], .bool true])) rfl (by kernel_rfl) (by kernel_rfl) (by kernel_rfl) (fun _ _ _ h => h) (y_run (by kernel_rfl) (fun _ => by kernel_rfl)) hHeld ?_
            try simp only [Act.put, List.setIfInBounds_toArray, List.set_cons_zero, List.set_cons_succ]
            refine wpAnyH_take (i := 10) (oi := ⟨some 71, _, _, _, _, _⟩) (v := (.agg #[.bool true, .bool q.W, .bool q.X, .bool q.B, .int .i64 (q.F : Int)])) rfl (by kernel_rfl) (by kernel_rfl) (by kernel_rfl) (fun _ _ _ h => h) (y_run (by kernel_rfl) (fun _ => by kernel_rfl)) hHeld ?_
            try simp only [Act.put, List.setIfInBounds_toArray, List.set_cons_zero, List.set_cons_succ]
            refine wpAnyH_take (i := 11) (oi := ⟨some 72, _, _, _, _, _⟩) (v := (.bool true)) rfl (by kernel_rfl) (by kernel_rfl) (by kernel_rfl) (fun _ _ _ h => h) (y_run (by kernel_rfl) (fun _ => by kernel_rfl)) hHeld ?_
            try simp only [Act.put, List.setIfInBounds_toArray, List.set_cons_zero, List.set_cons_succ]
            have yl := Y14.out.lt
            have y0 := Y14.out.cell 0
            have y1 := Y14.out.cell 1
            have y2' := Y14.out.cell 2
            have y3 := Y14.out.cell 3
            have y4 := Y14.out.cell 4
            have g0 := Y14.out.free 0
            have g1 := Y14.out.free 1
            have g2 := Y14.out.free 2
            have g3 := Y14.out.free 3
            have g4 := Y14.out.free 4
            simp only [List.getElem?_cons_zero, List.getElem?_cons_succ] at y0 y1 y2' y3 y4
            have B4 := Lib.hid (below5 B3.out N14.out (.bool true) (.bool q.W) (.bool q.X) (.bool q.B) (.int .i64 (q.F : Int)))
            have H4 := Lib.hid (lay5 Y14.out (.bool true) (.bool q.W) (.bool q.X) (.bool q.B) (.int .i64 (q.F : Int)))
            refine wpAnyH_ready (rs := [13]) (by kernel_rfl) (by simp) ?_
            refine AllReadyH.cons (o := ⟨none, .store _ _ _, _, _, _, _⟩) rfl (fun K hK => ?_) AllReadyH.nil
            go_simp
            refine hK.out _ _ ⟨(DQ.out.below B4.out).c.2.2.2, (B4.out.cell (p := ⟨b, k, none⟩) (World.block_lt_of_cell? _ _ KQ.out)).trans KQ.out⟩ (fun hHeld => ?_)
            clear hK K yl y0 y1 y2' y3 y4 g0 g1 g2 g3 g4 Y14 B3
            try simp only [Act.put, List.setIfInBounds_toArray, List.set_cons_zero, List.set_cons_succ]
            refine wpAnyH_take (i := 14) (oi := ⟨some 17, .assign (.tmp 72), _, _, _, _⟩) (v := (.bool true)) rfl (by kernel_rfl) (by kernel_rfl) (by kernel_rfl) (fun _ _ _ h => h) (y_run (by kernel_rfl) (fun _ => by kernel_rfl)) hHeld ?_
            try simp only [Act.put, List.setIfInBounds_toArray, List.set_cons_zero, List.set_cons_succ]
            refine wpAnyH_done (by kernel_rfl) ?_ _
            have BQ := Lib.hid B4.out
            have H9 := Lib.hid (show Tl.Lay _ _ 53 [.bool true, .bool q.W, .bool q.X, .bool q.B, .int .i64 (q.F : Int)] from H4.out)
            have NB9 := Lib.hid N14.out
            clear hHeld B4 H4 N14
            generalize (((((q3.setCell ⟨bh, 0, none⟩ (.bool true)).setCell ⟨bh, 1, none⟩ (.bool q.W)).setCell ⟨bh, 2, none⟩ (.bool q.X)).setCell ⟨bh, 3, none⟩ (.bool q.B)).setCell ⟨bh, 4, none⟩ (.int .i64 (q.F : Int))) = q9 at *
          all_goals
            have i0 := H9.out.cell 0
            have i1 := H9.out.cell 1
            have i2 := H9.out.cell 2
            have i3 := H9.out.cell 3
            have i4 := H9.out.cell 4
            simp only [List.getElem?_cons_zero, List.getElem?_cons_succ] at i0 i1 i2 i3 i4
            have HX := Lib.hid (owns_kept HV.out (Only.of BQ.out []) (by simp))
            have BE := Lib.hid (BW.out.trans (BQ.out.mono BW.out.size))
            have hz := BE.out.size
            have hkn : k ≤ 4096 := by omega
            clear BQ H9 NB9 DQ KQ BW HV
            go_wp2_with (at_builtin; refine step_ent rfl (.tmp 73) (.tmp 75) rfl w6.heap.size _ k _ q q9 HX.out hz hkn rfl rfl ?_; intro v' w3 hown hb; have OW := Lib.hid hown; have BX := Lib.hid hb; clear hown hb)
            clear i0 i1 i2 i3 i4
            go_roundw
            case rel => exact ⟨k + 1, by go_num, by omega, by rw [show (pgL A).take (k + 1) = (pgL A).take k ++ [p] by rw [List.take_add_one, HK.out]; rfl, entL_snoc HQ.out]; exact OW.out, BE.out.trans BX.out⟩
            case measure => simp only [intOf, Int.toNat_natCast]; omega
        · obtain rfl : k = np := by omega
          have hw' := HW.out
          rw [List.take_of_length_le (by have := HN.out; omega)] at hw'
          rw [HN.out] at hw'
          obtain ⟨po, co, hpo, ew⟩ := Ew.of hw' D2.out.st (fun p hp => by unfold pgL at hp; exact (List.mem_filter.1 hp).2)
          rw [← HN.out] at hpo
          subst hpo
          have E3 := Lib.hid ew
          have D3 := Lib.hid (D2.out.below B3'.out)
          have P3 := Lib.hid (P2.out.below B3'.out)
          have U5 := Lib.hid (U4.out.trans (B3'.out.mono U4.out.size))
          have j3 := D3.out.c.2.2.2
          clear hw' ew HW D2 P2 U4 B3'
          obtain ⟨r, hr⟩ : ∃ r, r = splP L.n L.vm x.noLog A fi := ⟨_, rfl⟩
          have SB := Lib.hid (fun h => split_back (vm := L.vm) HR.out.noLog (i := fi) h)
          have GS := Lib.hid (spl_good (vm := L.vm) HR.out.noLog rfl fi)
          have eg : gon x (splP L.n L.vm x.noLog A fi) = r := by rw [hr]; unfold gon; rw [HR.out.live]; rfl
          have CS := split_call fi wr D3.out.st (fun _ => HR.out)
          rw [eg] at CS
          rw [← hr] at SB GS
          clear eg hr
          go_wp2_with fail
          refine CS.mono ?_
          clear CS
          rintro e w7 ⟨rfl, v7, hS, hP⟩
          have D4 := Lib.hid (D3.out.hop hS hP)
          have bo := D3.out.bel hP
          have P4 := Lib.hid (P3.out.hop hP)
          have E4 := Lib.hid (E3.out.hop hP)
          have U6 := Lib.hid (U5.out.trans (bo.mono z1.out))
          clear hS hP bo D3 P3 E3 U5 j3 HR
          have j3 := D4.out.c.2.2.2
          rcases Classical.em (r.k = 0) with hk0 | hk0
          focus
            obtain ⟨al, mb⟩ := SB.out hk0
            have AL := Lib.hid (al (-1))
            have MB := Lib.hid mb
            obtain ⟨_, g2, _⟩ := GS.out
            have R4 := Lib.hid g2
            rw [hk0]
            clear al mb g2 SB GS hk0
            go_wp2_with fail
            refine (told_any u1.heap.size g A (-1) pp po k cp co w7 D4.out R4.out HN.out P4.out E4.out AL.out).mono ?_
            rintro e w8 ⟨rfl, b8⟩
            have D5 := Lib.hid (D4.out.below b8)
            have P5 := Lib.hid (P4.out.below b8)
            have E5 := Lib.hid (E4.out.below b8)
            have U7 := Lib.hid (U6.out.trans (b8.mono U6.out.size))
            clear b8 D4 P4 E4 U6 j3
            have j3 := D5.out.c.2.2.2
            obtain ⟨r2, hr2⟩ : ∃ r2, r2 = merP L.n L.vm r.x.noLog r.A fi := ⟨_, rfl⟩
            have eg : gon r.x (merP L.n L.vm r.x.noLog r.A fi) = r2 := by rw [hr2]; unfold gon; rw [R4.out.live]; rfl
            have CM := merge_call fi w8 D5.out.st (fun _ => R4.out)
            obtain ⟨m1, m2⟩ := MB.out r.x.noLog
            obtain ⟨_, g3, _⟩ := mer_good (vm := L.vm) R4.out.noLog rfl fi
            rw [eg] at CM
            rw [← hr2] at m1 m2 g3
            rw [m1] at CM
            rw [m2] at g3
            have R5 := Lib.hid g3
            clear m1 m2 g3 eg hr2 MB AL R4
            go_wp2_with fail
            refine CM.mono ?_
            clear CM
            rintro e w9 ⟨rfl, v9, hS, hP⟩
            have D6 := Lib.hid (D5.out.hop hS hP)
            have bo := D5.out.bel hP
            have P6 := Lib.hid (P5.out.hop hP)
            have E6 := Lib.hid (E5.out.hop hP)
            have U8 := Lib.hid (U7.out.trans (bo.mono z1.out))
            clear hS hP bo D5 P5 E5 U7 j3
            go_wp2_with fail
            refine (told_any u1.heap.size g A (-1) pp po k cp co w9 D6.out R5.out HN.out P6.out E6.out (Alike.refl A (-1))).mono ?_
            rintro e w10 ⟨rfl, b10⟩
            have D7 := Lib.hid (D6.out.below b10)
            have P7 := Lib.hid (P6.out.below b10)
            have E7 := Lib.hid (E6.out.below b10)
            have U9 := Lib.hid (U8.out.trans (b10.mono U8.out.size))
            clear b10 D6 P6 E6 U8
            have j3 := D7.out.c.2.2.2
            go_wp2_with fail
            clear j3
            generalize r2.x = xF at *
            generalize v9 = vF at *
            generalize w10 = wF at *
            have DF := D7
            have PF := P7
            have EF := E7
            have UF := U9
            have RF := R5
            clear D7 P7 E7 U9 R5
          rotate_left
          focus
            obtain ⟨h1, h2, _⟩ := GS.out
            obtain ⟨_, hA⟩ := h1 hk0
            rw [hA] at h2
            have R5 := Lib.hid h2
            obtain ⟨kk, hkk⟩ : ∃ kk, kk = r.k := ⟨_, rfl⟩
            rw [← hkk] at hk0 ⊢
            have dk : (kk == 0) = false := by simpa using hk0
            clear h1 h2 hA hk0 hkk SB GS
            go_wp2_with fail
            clear j3
            generalize r.x = xF at *
            generalize v7 = vF at *
            generalize w7 = wF at *
            have DF := D4
            have PF := P4
            have EF := E4
            have UF := U6
            have RF := R5
            clear D4 P4 E4 U6 R5
          all_goals
            rcases Classical.em (∃ (p : Nat) (q : Tp), pg = p ∧ p < 4096 ∧ told A p = some q) with hpg | hpg
            focus
              obtain ⟨p, q, epg, hp, hq⟩ := hpg
              have HQ := Lib.hid hq
              subst epg
              have CL := look_some p q wF DF.out.st RF.out hp hq
              refine CL.mono ?_
              clear CL hq
              rintro e w11 ⟨rfl, b11⟩
              have al := (Below.refl w11.heap.size w11).alloc (Nat.le_refl _) (.cells #[.bool true, .bool q.W, .bool q.X, .bool q.B, .int .i64 (q.F : Int)] 53)
              have Y1 := Lib.hid (Tl.Lay.new w11 53 [.bool true, .bool q.W, .bool q.X, .bool q.B, .int .i64 (q.F : Int)])
              have NS := Lib.hid (show w11.heap.size ∉ L.S ∧ vF.ownBlock ≠ some w11.heap.size from ⟨S_all fun h => by have := (DF.out.below b11).st.lts _ h; omega, (DF.out.below b11).st.off (Nat.le_refl _)⟩)
              have D8 := Lib.hid ((DF.out.below b11).below al)
              have P8 := Lib.hid ((PF.out.below b11).below al)
              have E8 := Lib.hid ((EF.out.below b11).below al)
              have U9 := Lib.hid ((UF.out.trans (b11.mono UF.out.size)).trans (al.mono (Nat.le_trans UF.out.size b11.size)))
              clear al b11 DF PF EF UF
              have j3 := D8.out.c.2.2.2
              have i1 := Y1.out.cell 1
              have i2 := Y1.out.cell 2
              simp only [List.getElem?_cons_zero, List.getElem?_cons_succ] at i1 i2
              have bd := drewB (Below.refl (w11.alloc (.cells #[.bool true, .bool q.W, .bool q.X, .bool q.B, .int .i64 (q.F : Int)] 53)).heap.size (w11.alloc (.cells #[.bool true, .bool q.W, .bool q.X, .bool q.B, .int .i64 (q.F : Int)] 53))) 1
              have D9 := Lib.hid (D8.out.below bd)
              have P9 := Lib.hid (P8.out.below bd)
              have E9 := Lib.hid (E8.out.below bd)
              have U10 := Lib.hid (U9.out.trans (bd.mono U9.out.size))
              have Y2 := Lib.hid (Y1.out.kept (Only.of bd []) (by simp))
              change Hid (Wd _ _ _ (World.drew _) _ _) at D9
              change Hid (Rw _ (World.drew _) _ _ _) at P9
              change Hid (Ew _ (World.drew _) _ _ _ _) at E9
              change Hid (Below _ _ (World.drew _)) at U10
              change Hid (Tl.Lay (World.drew _) _ _ _) at Y2
              clear bd D8 P8 E8 U9 Y1
              go_wp2_with fail
              refine wp_region_still_tail 10 (by kernel_rfl) (by kernel_rfl) ?_
              simp only [List.take_succ_cons, List.take_zero, List.drop_succ_cons, List.drop_zero]
              change wpStill _ _ (World.drew _) (fun a' => wpList _ _ _ _ a' (World.drew _)) _ _
              repeat still_step
              refine wpStill_nil ?_
              clear i1 i2 j3
              generalize World.drew _ = q0 at *
              generalize w11.heap.size = b18 at *
              obtain ⟨y, hy⟩ : ∃ y, y = proP L.n L.vm xF.noLog A p (!q.W) q.X := ⟨_, rfl⟩
              have eg : gon xF (proP L.n L.vm xF.noLog A p (!q.W) q.X) = y := by rw [hy]; unfold gon; rw [RF.out.live]; rfl
              have PA := Lib.hid (fun h => pro_alike (vm := L.vm) RF.out.noLog rfl (p := (p : Int)) (w := !q.W) (e := q.X) h)
              have PG' := Lib.hid (pro_good (vm := L.vm) RF.out.noLog rfl p (!q.W) q.X)
              have CP := protect_call p (!q.W) q.X q0 D9.out.st (fun _ => RF.out)
              rw [eg] at CP
              rw [← hy] at PA PG'
              clear eg hy
              go_wp2_with fail
              refine CP.mono ?_
              clear CP
              rintro e w12 ⟨rfl, v12, hS, hP⟩
              have D10 := Lib.hid (D9.out.hop hS hP)
              have bo := D9.out.bel hP
              have P10 := Lib.hid (P9.out.hop hP)
              have E10 := Lib.hid (E9.out.hop hP)
              have U11 := Lib.hid (U10.out.trans (bo.mono z1.out))
              have Y3 := Lib.hid (hP.lay Y2.out NS.out.1 NS.out.2)
              clear hS hP bo D9 P9 E9 U10 Y2
              rcases Classical.em (y.k = 0) with hk0 | hk0
              rotate_left
              focus
                obtain ⟨h1, h2, _⟩ := PG'.out
                obtain ⟨_, hA⟩ := h1 hk0
                rw [hA] at h2
                have R6 := Lib.hid h2
                obtain ⟨kk, hkk⟩ : ∃ kk, kk = y.k := ⟨_, rfl⟩
                rw [← hkk] at hk0 ⊢
                have dk : (kk != 0) = true := by simpa using hk0
                clear h1 h2 hA hk0 hkk PG' PA
                go_wp2_with fail
                refine (told_any u1.heap.size g A (-1) pp po k cp co w12 D10.out R6.out HN.out P10.out E10.out (Alike.refl A (-1))).mono ?_
                rintro e w13 ⟨rfl, b13⟩
                have UZ := Lib.hid (U11.out.trans (b13.mono U11.out.size))
                clear b13
                go_wp2_with fail
                go_ret
                exact ⟨rfl, UZ.out⟩
              obtain ⟨p', q', bb, ep, _, hq1, hq2, al⟩ := PA.out hk0
              obtain rfl : p' = p := by omega
              have eq1 : q' = q := by rw [HQ.out] at hq1; injection hq1 with hq1; exact hq1.symm
              subst eq1
              obtain ⟨_, h2, _⟩ := PG'.out
              have R6 := Lib.hid h2
              have HT := Lib.hid hq2
              have AL := Lib.hid al
              rw [hk0]
              clear hq1 hq2 al h2 hk0 PG' PA ep
              have j3 := D10.out.c.2.2.2
              go_wp2_with fail
              have CL := look_some p' ⟨!q'.W, q'.X, q'.F, bb⟩ w12 D10.out.st R6.out hp HT.out
              refine CL.mono ?_
              clear CL
              rintro e w13 ⟨rfl, b13⟩
              have al := (Below.refl w13.heap.size w13).alloc (Nat.le_refl _) (.cells #[.bool true, .bool !q'.W, .bool q'.X, .bool bb, .int .i64 (q'.F : Int)] 53)
              have Y4 := Lib.hid (Tl.Lay.new w13 53 [.bool true, .bool !q'.W, .bool q'.X, .bool bb, .int .i64 (q'.F : Int)])
              have Y5 := Lib.hid ((Y3.out.kept (Only.of b13 []) (by simp)).kept (Only.of al []) (by simp))
              have D11 := Lib.hid ((D10.out.below b13).below al)
              have P11 := Lib.hid ((P10.out.below b13).below al)
              have E11 := Lib.hid ((E10.out.below b13).below al)
              have U12 := Lib.hid ((U11.out.trans (b13.mono U11.out.size)).trans (al.mono (Nat.le_trans U11.out.size b13.size)))
              have o1 := Y5.out.cell 1
              have o2 := Y5.out.cell 2
              have o4 := Y5.out.cell 4
              have i1 := Y4.out.cell 1
              have i2 := Y4.out.cell 2
              have i4 := Y4.out.cell 4
              simp only [List.getElem?_cons_zero, List.getElem?_cons_succ] at o1 o2 o4 i1 i2 i4
              have EB : ∀ b : Bool, (b == b) = true := fun b => by cases b <;> rfl
              clear al b13 D10 P10 E10 U11 Y3 Y4 Y5 j3
              go_wp2_with fail
              refine (told_any u1.heap.size g A ((p' : Int)) pp po k cp co _ D11.out R6.out HN.out P11.out E11.out AL.out).mono ?_
              rintro e w14 ⟨rfl, b14⟩
              have UZ := Lib.hid (U12.out.trans (b14.mono U12.out.size))
              clear b14 o1 o2 o4 i1 i2 i4
              go_wp2_with fail
              go_ret
              exact ⟨rfl, UZ.out⟩
            have CL := look_any pg _ _ _ _ _ _ wF DF.out.st RF.out.live (look_not RF.out hpg)
            have NK := Lib.hid hpg
            refine CL.mono ?_
            clear CL hpg
            rintro e w11 ⟨rfl, b11⟩
            have al := (Below.refl w11.heap.size w11).alloc (Nat.le_refl _) (.cells #[.bool false, .bool false, .bool false, .bool false, .int .i64 0] 53)
            have Y1 := Lib.hid (Tl.Lay.new w11 53 [.bool false, .bool false, .bool false, .bool false, .int .i64 0])
            have D8 := Lib.hid ((DF.out.below b11).below al)
            have P8 := Lib.hid ((PF.out.below b11).below al)
            have E8 := Lib.hid ((EF.out.below b11).below al)
            have U9 := Lib.hid ((UF.out.trans (b11.mono UF.out.size)).trans (al.mono (Nat.le_trans UF.out.size b11.size)))
            clear al b11 DF PF EF UF
            have j3 := D8.out.c.2.2.2
            have i1 := Y1.out.cell 1
            have i2 := Y1.out.cell 2
            simp only [List.getElem?_cons_zero, List.getElem?_cons_succ] at i1 i2
            have bd := drewB (Below.refl (w11.alloc (.cells #[.bool false, .bool false, .bool false, .bool false, .int .i64 0] 53)).heap.size (w11.alloc (.cells #[.bool false, .bool false, .bool false, .bool false, .int .i64 0] 53))) 1
            have D9 := Lib.hid (D8.out.below bd)
            have P9 := Lib.hid (P8.out.below bd)
            have E9 := Lib.hid (E8.out.below bd)
            have U10 := Lib.hid (U9.out.trans (bd.mono U9.out.size))
            have Y2 := Lib.hid (Y1.out.kept (Only.of bd []) (by simp))
            change Hid (Wd _ _ _ (World.drew _) _ _) at D9
            change Hid (Rw _ (World.drew _) _ _ _) at P9
            change Hid (Ew _ (World.drew _) _ _ _ _) at E9
            change Hid (Below _ _ (World.drew _)) at U10
            change Hid (Tl.Lay (World.drew _) _ _ _) at Y2
            clear bd D8 P8 E8 U9 Y1
            go_wp2_with fail
            refine wp_region_still_tail 10 (by kernel_rfl) (by kernel_rfl) ?_
            simp only [List.take_succ_cons, List.take_zero, List.drop_succ_cons, List.drop_zero]
            change wpStill _ _ (World.drew _) (fun a' => wpList _ _ _ _ a' (World.drew _)) _ _
            repeat still_step
            refine wpStill_nil ?_
            clear i1 i2 j3
            generalize World.drew _ = q0 at *
            generalize w11.heap.size = b18 at *
            obtain ⟨y, hy⟩ : ∃ y, y = proP L.n L.vm xF.noLog A pg true false := ⟨_, rfl⟩
            have eg : gon xF (proP L.n L.vm xF.noLog A pg true false) = y := by rw [hy]; unfold gon; rw [RF.out.live]; rfl
            have PA := Lib.hid (fun h => pro_alike (vm := L.vm) RF.out.noLog rfl (p := pg) (w := true) (e := false) h)
            have PG' := Lib.hid (pro_good (vm := L.vm) RF.out.noLog rfl pg true false)
            have CP := protect_call pg true false q0 D9.out.st (fun _ => RF.out)
            rw [eg] at CP
            rw [← hy] at PA PG'
            clear eg hy
            go_wp2_with fail
            refine CP.mono ?_
            clear CP
            rintro e w12 ⟨rfl, v12, hS, hP⟩
            have D10 := Lib.hid (D9.out.hop hS hP)
            have bo := D9.out.bel hP
            have P10 := Lib.hid (P9.out.hop hP)
            have E10 := Lib.hid (E9.out.hop hP)
            have U11 := Lib.hid (U10.out.trans (bo.mono z1.out))
            clear hS hP bo D9 P9 E9 U10 Y2
            have hk0 : ¬ y.k = 0 := fun h => by
              obtain ⟨p, q, _, h1, h2, h3, _⟩ := PA.out h
              exact NK.out ⟨p, q, h1, h2, h3⟩
            obtain ⟨h1, h2, _⟩ := PG'.out
            obtain ⟨_, hA⟩ := h1 hk0
            rw [hA] at h2
            have R6 := Lib.hid h2
            obtain ⟨kk, hkk⟩ : ∃ kk, kk = y.k := ⟨_, rfl⟩
            rw [← hkk] at hk0 ⊢
            have dk : (kk != 0) = true := by simpa using hk0
            clear h1 h2 hA hk0 hkk PG' PA
            go_wp2_with fail
            refine (told_any u1.heap.size g A (-1) pp po k cp co w12 D10.out R6.out HN.out P10.out E10.out (Alike.refl A (-1))).mono ?_
            rintro e w13 ⟨rfl, b13⟩
            have UZ := Lib.hid (U11.out.trans (b13.mono U11.out.size))
            clear b13
            go_wp2_with fail
            go_ret
            exact ⟨rfl, UZ.out⟩
set_option maxRecDepth 100000 in
theorem lifted (os : Os) (started : os.Started) (H : Type) (enc : TypeId × Value → H) :
    ReturnsInHanded {} Try.checked os 6 .any (Rows.stageSplitsSpec.pre6 enc Try.prog Try.f6 Rows.stageSplitsRow.domain false) (Rows.stageSplitsSpec.post enc Try.prog Try.f6 false true false false) := by
  refine returnsInHanded_of_change_sized (C := Try.checked) own started (by kernel_rfl) Try.func6
    (ChangeSpec.witness6 (enc := enc) (C := Try.checked) false ⟨#[], #[.int .i64 0, .int .i64 0, .slice none 0 0, .int .i64 0, .int .i64 0], []⟩ 8 (by kernel_rfl) (by kernel_rfl) (by kernel_rfl) (by kernel_rfl)) ?_
  intro W base args ds gs before hval0 hW hcnd hZ0 _
  have hval : ∀ (j : Nat) t v, Try.f6.params[j]? = some t → args[j]? = some v → Value.okWide Try.prog W .any base t v := hval0
  have hZ : ∀ n ∈ DataW.weightsEach Try.prog (Try.f6.params.toList ++ []) (ds ++ gs), n ≤ reachBytes := fun n hn => of_decide_eq_true (List.all_eq_true.1 hZ0 n hn)
  have hW' := hW
  obtain ⟨p, q, hA0, hV, rfl, hfz, hnd⟩ := hW
  have hA : DataW.TrodAll enc Try.prog W 0 (fun _ => true) true Try.f6.params.toList args.toList ds p := hA0
  rw [Try.params6] at hA hval hZ
  obtain ⟨v0, vs0, d0, ds0, p0, q0, hargs, rfl, rfl, h0, r0⟩ := trodAll_cons hA
  obtain ⟨v1, vs1, d1, ds1, p1, q1, rfl, rfl, rfl, h1, r1⟩ := trodAll_cons r0
  obtain ⟨v2, vs2, d2, ds2, p2, q2, rfl, rfl, rfl, h2, r2⟩ := trodAll_cons r1
  obtain ⟨v3, vs3, d3, ds3, p3, q3, rfl, rfl, rfl, h3, r3⟩ := trodAll_cons r2
  obtain ⟨v4, vs4, d4, ds4, p4, q4, rfl, rfl, rfl, h4, r4⟩ := trodAll_cons r3
  obtain ⟨rfl, rfl, rfl⟩ := trodAll_nil r4
  obtain rfl : args = #[v0, v1, v2, v3, v4] := by cases args; simp_all
  obtain ⟨rfl, rfl⟩ := trodVars_none hV
  obtain ⟨x0, rfl, rfl, rfl, w0⟩ := open_int Try.underlying3 (hval 0 3 v0 rfl rfl) h0
  obtain ⟨x1, rfl, rfl, rfl, w1⟩ := open_int Try.underlying3 (hval 1 3 v1 rfl rfl) h1
  have k2 := h2
  have hz2 : ∀ n ∈ d2.weights Try.prog 22, n ≤ reachBytes := fun n hn => hZ n (by simp only [List.append_nil, DataW.weightsEach, List.mem_append]; exact Or.inr (Or.inr (Or.inl hn)))
  obtain ⟨a2, n2, c2, y2, rfl, m2, lt2, z2⟩ := scalls_open (hval 2 22 v2 rfl rfl) h2 hz2
  obtain ⟨x3, rfl, rfl, rfl, w3⟩ := open_int Try.underlying3 (hval 3 3 v3 rfl rfl) h3
  obtain ⟨x4, rfl, rfl, rfl, w4⟩ := open_int Try.underlying3 (hval 4 3 v4 rfl rfl) h4
  clear hA0 hval0 hZ0
  refine (walk x0 x1 a2 n2 c2 y2 x3 x4 W z2 m2).mono fun e W' ⟨he, ho⟩ => ?_
  subst he
  have bel : Below W.heap.size W W' := ho
  exact ⟨_, rfl, _, _, _, [], _, [], hW', trodAll_mk1 (shut_bool Try.underlying4 _), (trodAll_cons_mk (shut_int Try.underlying3 w0) (trodAll_cons_mk (shut_int Try.underlying3 w1) (trodAll_cons_mk (Below.trod laidOut (by kernel_rfl) (of_decide_eq_true (by kernel_rfl)) k2 bel lt2) (trodAll_cons_mk (shut_int Try.underlying3 w3) (trodAll_cons_mk (shut_int Try.underlying3 w4) trodAll_mk0))))), rfl, bel.frame _, fun h => by cases h⟩
theorem over : Rows.stageSplitsRow.holds Try.pinned (OpenSpec.ofChange Rows.stageSplitsSpec) :=
  OpenClaim.holds_of_wide 6 Try.f6 rfl rfl rfl rfl rfl rfl rfl ⟨rfl, rfl, rfl, rfl, rfl⟩ rfl rfl rfl rfl rfl (by kernel_rfl) Try.func6 (by kernel_rfl)
    (of_decide_eq_true (by kernel_rfl)) (by unfold Func.isWrapper; first | (rw [if_pos (by decide +kernel)]; kernel_rfl) | (rw [if_neg (by decide +kernel)]; exact ⟨rfl, rfl⟩))
    (fun os started H enc _ => lifted os started H enc)
end stageSplits
/-- The statement. -/
theorem stageSplits_holds : Rows.StageSplitsSaid := stageSplits.over
#print axioms stageSplits_holds
end Go.Proofs.Ytiiggmfindfkfaa
