/-
  StageOwn: a call changes bytes of the frames of the monitor alone, and takes or gives no frame of another one; the pages of another space stay: for every input true, and the input reads as it did; no condition.
-/
import Derived.Test.YtiiggmfindfkfaaStOpen
import Derived.Test.YtiiggmfindfkfaaStDuo
namespace Go.Proofs.Ytiiggmfindfkfaa
open Go.ChangeShapes Go.WideShapes Go.ChangeAt Go.RowKit Go.Deep Nt
namespace stageOwn
open St
open Ph (Only)
open Ph En Wk
set_option maxRecDepth 100000 in
set_option maxHeartbeats 16000000 in
theorem walk (n away : Int) (a2 : Option Addr) (n2 c2 : Nat) (y2 : Nat → Cq) (a3 : Option Addr) (n3 c3 : Nat) (y3 : Nat → Cq) (w : World) (hx2 : SCalls w.heap.size w a2 n2 y2) (hl2 : n2 ≤ c2 ∧ c2 ≤ maxLen) (hx3 : SCalls w.heap.size w a3 n3 y3) (hl3 : n3 ≤ c3 ∧ c3 ≤ maxLen) :
    Calls Try.prog 3 #[.int .i64 n, .int .i64 away, .slice a2 n2 c2, .slice a3 n3 c3] w fun e w' => e = .returned (.bool true) ∧ Below w.heap.size w w' := by
  have HX2 := Lib.hid hx2
  have hm2 : n2 ≤ maxLen := by omega
  unfold maxLen at hm2
  clear hx2 hl2
  have HX3 := Lib.hid hx3
  have hm3 : n3 ≤ maxLen := by omega
  unfold maxLen at hm3
  clear hx3 hl3
  go_enter Try.func3, Try.ntmps3
  go_wp2_with fail
  have UB := Lib.hid (Below.refl w.heap.size w)
  refine (alive_any w).mono ?_
  rintro e u1 ⟨rfl, b1⟩
  have U1 := Lib.hid (UB.out.trans (b1.mono UB.out.size))
  clear b1 UB
  go_wp2_with fail
  by_cases hg : gr n away n2
  · refine (great_yes n away a2 n2 c2 u1 hg).mono ?_
    rintro e w' ⟨rfl, rfl⟩
    clear hg
    go_wp2_with fail
    go_ret
    exact ⟨rfl, U1.out⟩
  have hN : 1 ≤ n ∧ n ≤ 300 ∧ 0 ≤ away ∧ away < n ∧ n2 ≤ 24 := by unfold gr at hg; omega
  obtain ⟨N, rfl⟩ := Int.eq_ofNat_of_zero_le (show 0 ≤ n by omega)
  obtain ⟨aw, rfl⟩ := Int.eq_ofNat_of_zero_le (show 0 ≤ away by omega)
  have haw : aw < N := by omega
  have hN3 : N ≤ 300 := by omega
  have h24 : n2 ≤ 24 := by omega
  clear hg hN
  refine (great_no N aw a2 n2 c2 u1 h24 haw hN3).mono ?_
  rintro e w' ⟨rfl, rfl⟩
  by_cases g3 : 24 < n3
  · have g3' : (24 : Int) < (n3 : Int) := by omega
    clear g3
    go_wp2_with fail
    go_ret
    exact ⟨rfl, U1.out⟩
  have g3' : ¬ (24 : Int) < (n3 : Int) := by omega
  by_cases g2 : N - aw < 2
  · have g2' : (N : Int) - (aw : Int) < 2 := by omega
    clear g3 g2
    go_wp2_with fail
    go_ret
    exact ⟨rfl, U1.out⟩
  have g2' : ¬ (N : Int) - (aw : Int) < 2 := by omega
  have h3 : n3 ≤ 24 := by omega
  have h2 : 2 ≤ N - aw := by omega
  clear g3 g2
  go_wp2_with fail
  clear g2' g3'
  refine (begin_any N aw u1 (by omega) haw).mono ?_
  rintro e u2 ⟨g, L, v, rfl, D, hb, hn, hvm, hroom⟩
  have U2 := Lib.hid (U1.out.trans (hb.mono U1.out.size))
  have HL := Lib.hid (And.intro hn (And.intro hvm hroom))
  have R0 := Lib.hid (show Rep L.n (beg N aw 8) (fun _ => Fst.no) by rw [hn]; exact beg_rep (by omega) haw)
  have O0 := Lib.hid (show (beg N aw 8).os = (own0 N (N - aw)).set 0 1 from rfl)
  have Q0 := Lib.hid (show (beg N aw 8).root = 0 from rfl)
  have z1 := Lib.hid U1.out.size
  have D0 := Lib.hid (D.drewN 1)
  have U2' := Lib.hid U2.out.drew
  change Hid (Wd u1.heap.size g L u2.drew v _) at D0
  have j0 := D.c.1
  have j1 := D.c.2.1
  have j2 := D.c.2.2.1
  clear D hb hn hvm hroom U1 U2
  generalize beg N aw 8 = x0 at *
  go_wp2_with fail
  clear j0 j1 j2
  refine wp_region_held_drew (S := fun w' => w'.cell? ⟨g, 0, none⟩ = some (.pointer (some ⟨L.m, 0, none⟩)) ∧ w'.cell? ⟨g, 1, none⟩ = some (.pointer (some ⟨L.t, 0, none⟩)) ∧ w'.cell? ⟨g, 2, none⟩ = some (.pointer (some ⟨L.p, 0, none⟩))) (by kernel_rfl) ⟨D0.out.c.1, D0.out.c.2.1, D0.out.c.2.2.1⟩ (fun hHeld => ?_)
  generalize u2.drew = u3 at *
  refine wpAnyH_take (i := 0) (oi := ⟨some 43, _, _, _, _, _⟩) (v := (.pointer (some ⟨g, 0, none⟩))) rfl (by kernel_rfl) (by kernel_rfl) (by kernel_rfl) (fun _ _ _ h => h) (y_run (by kernel_rfl) (fun _ => by kernel_rfl)) hHeld ?_
  try simp only [Act.put, List.setIfInBounds_toArray, List.set_cons_zero, List.set_cons_succ]
  refine wpAnyH_take (i := 1) (oi := ⟨some 44, _, _, _, _, _⟩) (v := (.pointer (some ⟨g, 0, none⟩))) rfl (by kernel_rfl) (by kernel_rfl) (by kernel_rfl) (fun _ _ _ h => h) (y_run (by kernel_rfl) (fun _ => by kernel_rfl)) hHeld ?_
  try simp only [Act.put, List.setIfInBounds_toArray, List.set_cons_zero, List.set_cons_succ]
  refine wpAnyH_take (i := 2) (oi := ⟨some 45, _, _, _, _, _⟩) (v := (.pointer (some ⟨g, 0, none⟩))) rfl (by kernel_rfl) (by kernel_rfl) (by kernel_rfl) (fun _ _ _ h => h) (y_run (by kernel_rfl) (fun _ => by kernel_rfl)) hHeld ?_
  try simp only [Act.put, List.setIfInBounds_toArray, List.set_cons_zero, List.set_cons_succ]
  refine wpAnyH_take (i := 3) (oi := ⟨some 46, _, _, _, _, _⟩) (v := (.pointer (some ⟨L.m, 0, none⟩))) rfl (by kernel_rfl) (by kernel_rfl) (by kernel_rfl) (fun _ _ _ h => h) (y_mp (g) 0 (some ⟨L.m, 0, none⟩) (.tmp 45) (by kernel_rfl) (fun _ h => h.1) rfl rfl) hHeld ?_
  try simp only [Act.put, List.setIfInBounds_toArray, List.set_cons_zero, List.set_cons_succ]
  refine wpAnyH_take (i := 4) (oi := ⟨some 47, _, _, _, _, _⟩) (v := (.pointer (some ⟨g, 0, none⟩))) rfl (by kernel_rfl) (by kernel_rfl) (by kernel_rfl) (fun _ _ _ h => h) (y_run (by kernel_rfl) (fun _ => by kernel_rfl)) hHeld ?_
  try simp only [Act.put, List.setIfInBounds_toArray, List.set_cons_zero, List.set_cons_succ]
  refine wpAnyH_take (i := 5) (oi := ⟨some 48, _, _, _, _, _⟩) (v := (.pointer (some ⟨g, 0, none⟩))) rfl (by kernel_rfl) (by kernel_rfl) (by kernel_rfl) (fun _ _ _ h => h) (y_run (by kernel_rfl) (fun _ => by kernel_rfl)) hHeld ?_
  try simp only [Act.put, List.setIfInBounds_toArray, List.set_cons_zero, List.set_cons_succ]
  refine wpAnyH_take (i := 6) (oi := ⟨some 49, _, _, _, _, _⟩) (v := (.pointer (some ⟨g, 1, none⟩))) rfl (by kernel_rfl) (by kernel_rfl) (by kernel_rfl) (fun _ _ _ h => h) (y_run (by kernel_rfl) (fun _ => by kernel_rfl)) hHeld ?_
  try simp only [Act.put, List.setIfInBounds_toArray, List.set_cons_zero, List.set_cons_succ]
  refine wpAnyH_take (i := 7) (oi := ⟨some 50, _, _, _, _, _⟩) (v := (.pointer (some ⟨L.t, 0, none⟩))) rfl (by kernel_rfl) (by kernel_rfl) (by kernel_rfl) (fun _ _ _ h => h) (y_tp (g) 1 (some ⟨L.t, 0, none⟩) (.tmp 49) (by kernel_rfl) (fun _ h => h.2.1) rfl rfl) hHeld ?_
  try simp only [Act.put, List.setIfInBounds_toArray, List.set_cons_zero, List.set_cons_succ]
  refine wpAnyH_take (i := 8) (oi := ⟨some 51, _, _, _, _, _⟩) (v := (.pointer (some ⟨g, 0, none⟩))) rfl (by kernel_rfl) (by kernel_rfl) (by kernel_rfl) (fun _ _ _ h => h) (y_run (by kernel_rfl) (fun _ => by kernel_rfl)) hHeld ?_
  try simp only [Act.put, List.setIfInBounds_toArray, List.set_cons_zero, List.set_cons_succ]
  refine wpAnyH_take (i := 9) (oi := ⟨some 52, _, _, _, _, _⟩) (v := (.pointer (some ⟨g, 0, none⟩))) rfl (by kernel_rfl) (by kernel_rfl) (by kernel_rfl) (fun _ _ _ h => h) (y_run (by kernel_rfl) (fun _ => by kernel_rfl)) hHeld ?_
  try simp only [Act.put, List.setIfInBounds_toArray, List.set_cons_zero, List.set_cons_succ]
  refine wpAnyH_take (i := 10) (oi := ⟨some 53, _, _, _, _, _⟩) (v := (.pointer (some ⟨g, 2, none⟩))) rfl (by kernel_rfl) (by kernel_rfl) (by kernel_rfl) (fun _ _ _ h => h) (y_run (by kernel_rfl) (fun _ => by kernel_rfl)) hHeld ?_
  try simp only [Act.put, List.setIfInBounds_toArray, List.set_cons_zero, List.set_cons_succ]
  refine wpAnyH_take (i := 11) (oi := ⟨some 54, _, _, _, _, _⟩) (v := (.pointer (some ⟨L.p, 0, none⟩))) rfl (by kernel_rfl) (by kernel_rfl) (by kernel_rfl) (fun _ _ _ h => h) (y_cp (g) 2 (some ⟨L.p, 0, none⟩) (.tmp 53) (by kernel_rfl) (fun _ h => h.2.2) rfl rfl) hHeld ?_
  try simp only [Act.put, List.setIfInBounds_toArray, List.set_cons_zero, List.set_cons_succ]
  obtain ⟨L', hL'⟩ : ∃ L' : St.Loc, L' = { L with s := u3.heap.size + 1, vm := 9 } := ⟨_, rfl⟩
  have sh : Shr L L' := by subst hL'; exact ⟨rfl, rfl, rfl, rfl, rfl, rfl, rfl, rfl, rfl⟩
  have es : L'.s = u3.heap.size + 1 ∧ L'.vm = 9 := by subst hL'; exact ⟨rfl, rfl⟩
  have ap' : Apt L' := by
    have ap := D0.out.st.ap
    have lts := D0.out.st.lts
    have l1 := lts L.m (by simp [Loc.all]); have l2 := lts L.F (by simp [Loc.all]); have l3 := lts L.t (by simp [Loc.all]); have l4 := lts L.tF (by simp [Loc.all]); have l5 := lts L.p (by simp [Loc.all]); have l6 := lts L.pm (by simp [Loc.all])
    subst hL'
    exact ⟨by simp only; omega, by simp only; omega, by simp only; omega, by simp only; omega, by simp only; omega, by simp only; omega, ap.mF, ap.mt, ap.mtF, ap.mp, ap.mpm, ap.Ft, ap.FtF, ap.Fp, ap.Fpm, ap.ttF, ap.tp, ap.tpm, ap.tFp, ap.tFpm, ap.ppm⟩
  have CN := new_yes (L := L') x0.z x0.os x0.next 1 x0.ps u3 (by rw [sh.m, sh.F, sh.n, sh.c]; exact D0.out.st.mem) (by rw [sh.t, sh.tF]; exact D0.out.st.tab) (by rw [sh.p, sh.pm, sh.room]; exact D0.out.st.tlb) ap' es.1 (by omega) (by rw [O0.out]; exact own0_spot2 h2 (by omega)) (by rw [sh.n, HL.out.1]; omega)
  rw [sh.m, sh.t, sh.p, es.2, show ((9 : Nat) : Int) = 9 from rfl] at CN
  have SH := Lib.hid sh
  have ES := Lib.hid es
  obtain ⟨sn, hsn⟩ : ∃ sn, sn = L'.s := ⟨_, rfl⟩
  rw [← hsn] at CN
  have SN := Lib.hid hsn
  clear sh es ap' hL' hsn
  refine wpAnyH_ready (rs := [12]) (by kernel_rfl) (by simp) ?_
  refine AllReadyH.cons (o := ⟨some 55, .call _, _, _, _, _⟩) rfl (fun K hK => ?_) AllReadyH.nil
  go_simp
  refine CN.mono ?_
  rintro e u4 ⟨rfl, v4, hS, hO, hV⟩
  obtain ⟨d4, b4⟩ := dw_new D0.out hS hO SH.out (by have := ES.out.1; omega) hV
  have T1 := Lib.hid (show x0.os[1]? = some 0 by rw [O0.out, List.getElem?_set_ne (by omega), own0_get (by omega) (by omega), if_pos (by omega)])
  have R1 := Lib.hid (show Rep L.n (x0.as (newP x0.z x0.os x0.next x0.ps 1)) (fun _ => Fst.no) from (R0.out.took T1.out).1)
  have R2 := Lib.hid (show Rep L.n ((newP x0.z x0.os x0.next x0.ps 1).as (x0.as (newP x0.z x0.os x0.next x0.ps 1))) (fun _ => Fst.no) from rep_new R0.out.by8 R0.out.few R0.out.len T1.out)
  have X4 := Lib.hid (show Dis (x0.as (newP x0.z x0.os x0.next x0.ps 1)) (newP x0.z x0.os x0.next x0.ps 1) (fun _ => Fst.no) (fun _ => Fst.no) from fun t h1 h2 => by
    have nt : ∀ s, ¬ IsTab (fun _ => Fst.no) s := fun s ⟨i, pg, _, e⟩ => by cases e
    rcases h1 with h1 | h1
    · rcases h2 with h2 | h2
      · have a1 : (x0.as (newP x0.z x0.os x0.next x0.ps 1)).root = 0 := Q0.out
        have a2 : (newP x0.z x0.os x0.next x0.ps 1).root = 1 := rfl
        omega
      · exact nt _ h2
    · exact nt _ h1)
  have D4 := Lib.hid d4
  have U4 := Lib.hid (U2'.out.trans (b4.mono z1.out))
  refine hK.out _ _ ⟨d4.lay.cell 0, d4.lay.cell 1, d4.lay.cell 2⟩ (fun hHeld => ?_)
  clear hK K hS hO hV d4 b4 CN D0 U2' R0 O0 Q0 T1
  try simp only [Act.put, List.setIfInBounds_toArray, List.set_cons_zero, List.set_cons_succ]
  refine wpAnyH_take (i := 13) (oi := ⟨some 42, _, _, _, _, _⟩) (v := (.tuple #[.pointer (some ⟨sn, 0, none⟩), .int .i64 0])) rfl (by kernel_rfl) (by kernel_rfl) (by kernel_rfl) (fun _ _ _ h => h) (y_run (by kernel_rfl) (fun _ => by kernel_rfl)) hHeld ?_
  try simp only [Act.put, List.setIfInBounds_toArray, List.set_cons_zero, List.set_cons_succ]
  refine wpAnyH_take (i := 14) (oi := ⟨some 56, _, _, _, _, _⟩) (v := (.pointer (some ⟨sn, 0, none⟩))) rfl (by kernel_rfl) (by kernel_rfl) (by kernel_rfl) (fun _ _ _ h => h) (y_run (by kernel_rfl) (fun _ => by kernel_rfl)) hHeld ?_
  try simp only [Act.put, List.setIfInBounds_toArray, List.set_cons_zero, List.set_cons_succ]
  refine wpAnyH_take (i := 15) (oi := ⟨some 57, _, _, _, _, _⟩) (v := (.int .i64 0)) rfl (by kernel_rfl) (by kernel_rfl) (by kernel_rfl) (fun _ _ _ h => h) (y_run (by kernel_rfl) (fun _ => by kernel_rfl)) hHeld ?_
  try simp only [Act.put, List.setIfInBounds_toArray, List.set_cons_zero, List.set_cons_succ]
  refine wpAnyH_take (i := 16) (oi := ⟨some 10, .assign (.tmp 56), _, _, _, _⟩) (v := (.pointer (some ⟨sn, 0, none⟩))) rfl (by kernel_rfl) (by kernel_rfl) (by kernel_rfl) (fun _ _ _ h => h) (y_run (by kernel_rfl) (fun _ => by kernel_rfl)) hHeld ?_
  try simp only [Act.put, List.setIfInBounds_toArray, List.set_cons_zero, List.set_cons_succ]
  refine wpAnyH_take (i := 17) (oi := ⟨some 11, .assign (.tmp 57), _, _, _, _⟩) (v := (.int .i64 0)) rfl (by kernel_rfl) (by kernel_rfl) (by kernel_rfl) (fun _ _ _ h => h) (y_run (by kernel_rfl) (fun _ => by kernel_rfl)) hHeld ?_
  try simp only [Act.put, List.setIfInBounds_toArray, List.set_cons_zero, List.set_cons_succ]
  refine wpAnyH_done (by kernel_rfl) ?_ _
  clear hHeld
  generalize newP x0.z x0.os x0.next x0.ps 1 = y4 at *
  generalize x0.as y4 = x4 at *
  go_wp2_with fail
  go_loopw [12] (fun q wr => ∃ (i : Nat) (v' : Value) (x y : Pl) (A' : Nat → Fst), q = .int .i64 i ∧ i ≤ n3 ∧ DW u1.heap.size g L L' wr v v' x y ∧ Rep L.n x (fun _ => Fst.no) ∧ Rep L.n (y.as x) A' ∧ Dis x y (fun _ => Fst.no) A' ∧ Below w.heap.size w wr) (fun q _ => n3 - (intOf q).toNat)
  case atStart => exact ⟨0, v4, x4, y4, _, rfl, Nat.zero_le _, D4.out, R1.out, R2.out, X4.out, U4.out⟩
  case round =>
    obtain ⟨i, v', x, y, A', rfl, hi, hD, hR, hR', hX, hU⟩ := hrel
    have D5 := Lib.hid hD
    have R5 := Lib.hid hR
    have Q5 := Lib.hid hR'
    have X5 := Lib.hid hX
    have U5 := Lib.hid hU
    clear hD hR hR' hX hU D4 R1 R2 X4 U4
    by_cases hlt : i < n3
    · obtain ⟨b, off, rfl, hbl, hcl⟩ := HX3.out.at U5.out hlt
      obtain ⟨k0, k1, k2, k3, k4⟩ := hcl
      go_wp2_with fail
      clear k0 k1 k2 k3 k4
      have CD := doL_any (L := L') (A := A') (y3 i) wr D5.out.duo.b (fun _ => by rw [SH.out.n]; exact Q5.out)
      rw [← SN.out] at CD
      refine CD.mono ?_
      clear CD
      rintro e w6 ⟨rfl, v6, hS, hP⟩
      obtain ⟨d6, b6⟩ := D5.out.two hS hP
      obtain ⟨_, g6, tk, gv, hd⟩ := stepR_good (n := L'.n) (vm := L'.vm) (x := y.as x) (A := A') (by rw [SH.out.n]; exact Q5.out) (y3 i)
      rw [SH.out.n] at g6 hd
      obtain ⟨o1, o2⟩ := other_rep (x := (y.as x).noLog) (y := x) (A' := fun _ => Fst.no) R5.out g6 hd X5.out.swap
      have D6 := Lib.hid d6
      have U6 := Lib.hid (U5.out.trans (b6.mono z1.out))
      have R6 := Lib.hid o1
      have Q6 := Lib.hid g6
      have X6 := Lib.hid o2.swap
      rw [SH.out.n] at D6
      clear hS hP d6 b6 g6 hd o1 o2 D5 R5 Q5 X5 U5
      go_wp2_with fail
      go_roundw
      case rel => exact ⟨i + 1, v6, _, _, _, by go_num, by omega, D6.out, R6.out, Q6.out, X6.out, U6.out⟩
      case measure => simp only [intOf, Int.toNat_natCast]; omega
    · obtain rfl : i = n3 := by omega
      clear HX3
      go_wp2_with fail
      have CP := pages_seen (L := L') wr D5.out.duo.b Q5.out.live
      rw [← SN.out] at CP
      refine CP.mono ?_
      clear CP
      rintro e w6 ⟨vp, rfl, hs, hO⟩
      obtain ⟨pp, cp, rfl⟩ := hs.form
      rw [SH.out.n, pages_told Q5.out] at hs ⊢
      have bO := hO.below (B := wr.heap.size) (Nat.le_refl _) (by simp)
      obtain ⟨lp, hlp⟩ : ∃ lp, lp = (List.range 4096).filter (fun p => (told A' p).isSome) := ⟨_, rfl⟩
      have hl4 : lp.length ≤ 4096 := by rw [hlp]; exact Nat.le_trans (List.length_filter_le _ _) (by simp)
      rw [← hlp] at hs ⊢
      have LP := Lib.hid hlp
      have P7 := Lib.hid ((Rw.of hs D5.out.duo.a))
      have D7 := Lib.hid (D5.out.below bO)
      have U7 := Lib.hid (U5.out.trans (bO.mono U5.out.size))
      obtain ⟨np, hnp⟩ : ∃ np, np = lp.length := ⟨_, rfl⟩
      rw [← hnp] at hl4 ⊢
      have NP := Lib.hid hnp
      clear hs hO bO hlp hnp D5 U5
      go_wp2_with fail
      go_loopw [14] (fun q wr => ∃ (j : Nat) (v1 : Value) (x : Pl) (A : Nat → Fst), q = .int .i64 j ∧ j ≤ n2 ∧ DW u1.heap.size g L L' wr v1 v' x y ∧ Rep L.n x A ∧ Rep L.n (y.as x) A' ∧ Dis x y A A' ∧ Rw L wr v1 pp lp ∧ Below w.heap.size w wr) (fun q _ => n2 - (intOf q).toNat)
      case atStart => exact ⟨0, v, x, _, rfl, Nat.zero_le _, D7.out, R5.out, Q5.out, X5.out, P7.out, U7.out⟩
      case round =>
        obtain ⟨j, v1, x1, A, rfl, hj, hD, hR, hQ, hX, hP, hU⟩ := hrel
        have D8 := Lib.hid hD
        have R8 := Lib.hid hR
        have Q8 := Lib.hid hQ
        have X8 := Lib.hid hX
        have P8 := Lib.hid hP
        have U8 := Lib.hid hU
        clear hD hR hQ hX hP hU D7 R5 Q5 X5 P7 U7
        by_cases hlt : j < n2
        · have j0 := D8.out.c.1
          go_wp2_with fail
          refine (Ph.clone_any L.m L.F L.n L.c x1.z _ D8.out.duo.a.mem (by have := HL.out.1; omega)).mono ?_
          rintro e q1 ⟨m', F', c', rfl, hM, hO, hm', hF'⟩
          have bO := hO.below (B := World.heap _ |>.size) (Nat.le_refl _) (by simp)
          have NM := Lib.hid (show (m' ∉ L.S ∧ v1.ownBlock ≠ some m') ∧ F' ∉ L.S ∧ v1.ownBlock ≠ some F' from by
            have lts := D8.out.duo.a.lts
            exact ⟨⟨fun h => by have := lts m' (by simp [Loc.S] at h; simp [Loc.all]; omega); omega, D8.out.duo.a.off hm'⟩, fun h => by have := lts F' (by simp [Loc.S] at h; simp [Loc.all]; omega); omega, D8.out.duo.a.off hF'⟩)
          have M9 := Lib.hid hM
          have D9 := Lib.hid (D8.out.below bO)
          have P9 := Lib.hid (P8.out.below bO)
          have U9 := Lib.hid (U8.out.trans (bO.mono U8.out.size))
          have j1 := D9.out.c.2.1
          clear hM hO bO hm' hF' D8 P8 U8 j0
          go_wp2_with fail
          refine (Fr.list_any L.t L.tF 2 x1.os q1 D9.out.duo.a.tab (D9.out.duo.a.lts _ (by simp [Loc.all])) (D9.out.duo.a.lts _ (by simp [Loc.all]))).mono ?_
          rintro e q2 ⟨va, rfl, hs, hb⟩
          obtain ⟨ap, ac, rfl⟩ := hs.form
          obtain ⟨la, hla⟩ : ∃ la, la = Fr.which 2 x1.os := ⟨_, rfl⟩
          rw [← hla] at hs ⊢
          have hl3 : la.length ≤ 1024 := by rw [hla]; exact Nat.le_trans (Fr.which_len 2 x1.os) D9.out.duo.a.tab.len
          have W10 := Lib.hid (Rw.of hs D9.out.duo.a)
          have LA := Lib.hid hla
          have D10 := Lib.hid (D9.out.below hb)
          have M10 := Lib.hid (M9.out.kept (Only.of hb []) (by simp) (by simp))
          have P10 := Lib.hid (P9.out.below hb)
          have U10 := Lib.hid (U9.out.trans (hb.mono U9.out.size))
          obtain ⟨na, hna⟩ : ∃ na, na = la.length := ⟨_, rfl⟩
          rw [← hna] at hl3 ⊢
          have NA := Lib.hid hna
          clear hs hb hla hna D9 M9 P9 U9 j1
          obtain ⟨b, off, rfl, hbl, hcl⟩ := HX2.out.at U10.out hlt
          obtain ⟨k0, k1, k2, k3, k4⟩ := hcl
          have j3 := D10.out.c.2.2
          have bd := drewB (Below.refl q2.heap.size q2) 1
          have D11 := Lib.hid (D10.out.below bd)
          have M11 := Lib.hid (M10.out.kept (Only.of bd []) (by simp) (by simp))
          have P11 := Lib.hid (P10.out.below bd)
          have W11 := Lib.hid (W10.out.below bd)
          have U11 := Lib.hid (U10.out.drew)
          change Hid (DW _ _ _ _ q2.drew _ _ _ _) at D11
          change Hid (Mem q2.drew _ _ _ _ _) at M11
          change Hid (Rw _ q2.drew _ _ _) at P11
          change Hid (Rw _ q2.drew _ _ _) at W11
          clear bd D10 M10 P10 W10 U10
          go_wp2_with fail
          refine wp_region_still_tail 8 (by kernel_rfl) (by kernel_rfl) ?_
          simp only [List.take_succ_cons, List.take_zero, List.drop_succ_cons, List.drop_zero]
          change wpStill _ _ q2.drew (fun a' => wpList _ _ _ _ a' q2.drew) _ _
          repeat still_step
          refine wpStill_nil ?_
          clear k0 k1 k2 k3 k4 j3
          generalize q2.drew = q3 at *
          go_wp2_with fail
          refine (doL_any (y2 j) q3 D11.out.duo.a (fun _ => R8.out)).mono ?_
          rintro e q4 ⟨rfl, v5, hS, hP⟩
          obtain ⟨d6, b6⟩ := D11.out.one hS hP
          obtain ⟨_, g6, tk, gv, hd⟩ := stepR_good (n := L.n) (vm := L.vm) R8.out (y2 j)
          obtain ⟨o1, o2⟩ := other_rep (x := x1.noLog) (y := y) (A' := A') Q8.out g6 hd X8.out
          have OW := Lib.hid (fun q (hq : q ∈ dl (stepR L.n L.vm x1 A (y2 j)).x.z x1.z L.n) => did_own (x := x1.noLog) R8.out.noLog hd hq)
          have TW := Lib.hid (did_two (x := x1.noLog) R8.out.noLog hd)
          have hm := M11.out.kept (hop_only hP) (by obtain ⟨⟨a1, a2⟩, _⟩ := NM.out; simp only [List.mem_append, not_or]; exact ⟨a1, by simpa using fun e => a2 e⟩) (by obtain ⟨_, a1, a2⟩ := NM.out; simp only [List.mem_append, not_or]; exact ⟨a1, by simpa using fun e => a2 e⟩)
          have M12 := Lib.hid hm
          have D12 := Lib.hid d6
          have R12 := Lib.hid g6
          have Q12 := Lib.hid o1
          have X12 := Lib.hid o2
          have P12 := Lib.hid (P11.out.hop hP)
          have W12 := Lib.hid (W11.out.hop hP)
          have U12 := Lib.hid (U11.out.trans (b6.mono z1.out))
          generalize stepR L.n L.vm x1 A (y2 j) = r at *
          obtain ⟨rk, xr, Ar⟩ := r
          simp only at D12 R12 Q12 X12 OW TW
          change Fr.which 2 xr.os = Fr.which 2 x1.os at TW
          have T2 := Lib.hid TW
          have OW := Lib.hid OW
          clear hS hP d6 b6 g6 hd o1 o2 hm TW D11 M11 P11 W11 U11 R8 Q8 X8
          have j0 := D12.out.c.1
          go_wp2_with fail
          refine (Ph.differ_any L.m L.F L.n L.c m' F' c' xr.z x1.z q4 D12.out.duo.a.mem M12.out).mono ?_
          rintro e q5 ⟨pd, cd, rfl, hRd, hO⟩
          obtain ⟨ld, hld⟩ : ∃ ld, ld = dl xr.z x1.z L.n := ⟨_, rfl⟩
          have hdn : ld.length ≤ 1024 := by rw [hld]; have h1 := dl_len xr.z x1.z L.n; have h2 := R12.out.few; omega
          rw [← hld] at hRd OW ⊢
          have bO := hO.below (B := q4.heap.size) (Nat.le_refl _) (by simp)
          have D13 := Lib.hid (D12.out.below bO)
          have P13 := Lib.hid (P12.out.below bO)
          have W13 := Lib.hid (W12.out.below bO)
          have U13 := Lib.hid (U12.out.trans (bO.mono U12.out.size))
          have RD := Lib.hid hRd
          obtain ⟨nd, hnd⟩ : ∃ nd, nd = ld.length := ⟨_, rfl⟩
          rw [← hnd] at hdn ⊢
          have ND := Lib.hid hnd
          clear hRd hO bO hld hnd D12 M12 P12 W12 U12 j0 NM
          go_wp2_with fail
          go_loopw [18] (fun q wr => ∃ k : Nat, q = .int .i64 k ∧ k ≤ nd ∧ Only [] q5 wr) (fun q _ => nd - (intOf q).toNat)
          case atStart => exact ⟨0, rfl, Nat.zero_le _, Only.refl _ _⟩
          case round =>
            obtain ⟨k, rfl, hk, hO⟩ := hrel
            have O14 := Lib.hid hO
            have bO := hO.below (B := q5.heap.size) (Nat.le_refl _) (by simp)
            have D14 := Lib.hid (D13.out.below bO)
            clear hO
            by_cases hkl : k < nd
            · obtain ⟨qf, hqf⟩ : ∃ qf, ld[k]? = some qf := ⟨ld[k]'(by have := ND.out; omega), List.getElem?_eq_getElem _⟩
              obtain ⟨b, off, rfl, hc⟩ := readsI_quiet RD.out O14.out (by have := ND.out; omega)
              have kc := hc k (by have := ND.out; omega)
              rw [List.getD_eq_getElem?_getD, hqf, Option.getD_some] at kc
              obtain ⟨o, ho, hoo⟩ := OW.out qf (List.mem_of_getElem? hqf)
              have HO := Lib.hid ho
              have j1 := D14.out.c.2.1
              have D15 := Lib.hid (D14.out.below (drewB (Below.refl _ _) 1))
              have O15 := Lib.hid (O14.out.trans (Only.drewN [] _ 1))
              clear hc hqf ho bO D14 O14
              go_wp2_with fail
              refine wp_region_still_tail 8 (by kernel_rfl) (by kernel_rfl) ?_
              simp only [List.take_succ_cons, List.take_zero, List.drop_succ_cons, List.drop_zero]
              change wpStill _ _ (World.drew _) (fun a' => wpList _ _ _ _ a' (World.drew _)) _ _
              repeat still_step
              refine wpStill_nil ?_
              clear kc j1
              change Hid (DW _ _ _ _ (World.drew _) _ _ _ _) at D15
              change Hid (Only [] q5 (World.drew _)) at O15
              generalize World.drew _ = q6 at *
              go_wp2_with fail
              refine (Fr.owner_yes L.t L.tF qf o xr.os q6 D15.out.duo.a.tab HO.out).mono ?_
              rintro e q' ⟨rfl, rfl⟩
              rcases hoo with rfl | rfl
              all_goals
                go_wp2_with fail
                go_roundw
                case rel => exact ⟨k + 1, by go_num, by omega, O15.out⟩
                case measure => simp only [intOf, Int.toNat_natCast]; omega
            · obtain rfl : k = nd := by omega
              have P14 := Lib.hid (P13.out.below bO)
              have W14 := Lib.hid (W13.out.below bO)
              have U14 := Lib.hid (U13.out.trans (bO.mono U13.out.size))
              have j1 := D14.out.c.2.1
              clear bO D13 P13 W13 U13 RD OW
              go_wp2_with fail
              refine (Fr.list_any L.t L.tF 2 xr.os _ D14.out.duo.a.tab (D14.out.duo.a.lts _ (by simp [Loc.all])) (D14.out.duo.a.lts _ (by simp [Loc.all]))).mono ?_
              rw [T2.out, ← LA.out]
              rintro e q7 ⟨vb, rfl, hs, hb⟩
              obtain ⟨bp, bc, rfl⟩ := hs.form
              rw [← NA.out]
              have D15 := Lib.hid (D14.out.below hb)
              have P15 := Lib.hid (P14.out.below hb)
              have W15 := Lib.hid (W14.out.below hb)
              have U15 := Lib.hid (U14.out.trans (hb.mono U14.out.size))
              obtain ⟨a9, c9, he9, hr9⟩ := seen_reads hs
              injection he9 with he9 _ _
              subst he9
              have RB := Lib.hid hr9
              clear hs hb hr9 D14 P14 W14 U14 j1
              go_wp2_with fail
              refine (ints_same _ _ na _ _ la q7 NA.out.symm (by omega) W15.out.reads RB.out).mono ?_
              rintro e q8 ⟨rfl, kk, rfl⟩
              have bd := drewB (Below.refl q7.heap.size q7) kk
              have D16 := Lib.hid (D15.out.below bd)
              have P16 := Lib.hid (P15.out.below bd)
              have U16 := Lib.hid (U15.out.trans (bd.mono U15.out.size))
              clear bd D15 P15 W15 U15 RB
              go_wp2_with fail
              go_roundw
              case rel => exact ⟨j + 1, v5, xr, Ar, by go_num, by omega, D16.out, R12.out, Q12.out, X12.out, P16.out, U16.out⟩
              case measure => simp only [intOf, Int.toNat_natCast]; omega
        · obtain rfl : j = n2 := by omega
          go_wp2_with fail
          have CP := pages_seen (L := L') _ D8.out.duo.b Q8.out.live
          rw [← SN.out, SH.out.n, pages_told Q8.out, ← LP.out] at CP
          refine CP.mono ?_
          clear CP
          rintro e q6 ⟨vq, rfl, hs, hO⟩
          obtain ⟨qp, qc, rfl⟩ := hs.form
          rw [← NP.out]
          have bO := hO.below (B := World.heap _ |>.size) (Nat.le_refl _) (by simp)
          have P9 := Lib.hid (P8.out.below bO)
          have U9 := Lib.hid (U8.out.trans (bO.mono U8.out.size))
          obtain ⟨a9, c9, he9, hr9⟩ := seen_reads hs
          injection he9 with he9 _ _
          subst he9
          have RB := Lib.hid hr9
          clear hs hO bO hr9 D8 P8 U8
          go_wp2_with fail
          refine (ints_same _ _ np _ _ lp q6 NP.out.symm (by omega) P9.out.reads RB.out).mono ?_
          rintro e q8 ⟨rfl, kk, rfl⟩
          have U10 := Lib.hid (U9.out.trans ((drewB (Below.refl q6.heap.size q6) kk).mono U9.out.size))
          go_wp2_with fail
          go_ret
          exact ⟨rfl, U10.out⟩
set_option maxRecDepth 100000 in
theorem lifted (os : Os) (started : os.Started) (H : Type) (enc : TypeId × Value → H) :
    ReturnsInHanded {} Try.checked os 3 .any (Rows.stageOwnSpec.pre6 enc Try.prog Try.f3 Rows.stageOwnRow.domain false) (Rows.stageOwnSpec.post enc Try.prog Try.f3 false true false false) := by
  refine returnsInHanded_of_change_sized (C := Try.checked) own started (by kernel_rfl) Try.func3
    (ChangeSpec.witness6 (enc := enc) (C := Try.checked) false ⟨#[], #[.int .i64 0, .int .i64 0, .slice none 0 0, .slice none 0 0], []⟩ 8 (by kernel_rfl) (by kernel_rfl) (by kernel_rfl) (by kernel_rfl)) ?_
  intro W base args ds gs before hval0 hW hcnd hZ0 _
  have hval : ∀ (j : Nat) t v, Try.f3.params[j]? = some t → args[j]? = some v → Value.okWide Try.prog W .any base t v := hval0
  have hZ : ∀ n ∈ DataW.weightsEach Try.prog (Try.f3.params.toList ++ []) (ds ++ gs), n ≤ reachBytes := fun n hn => of_decide_eq_true (List.all_eq_true.1 hZ0 n hn)
  have hW' := hW
  obtain ⟨p, q, hA0, hV, rfl, hfz, hnd⟩ := hW
  have hA : DataW.TrodAll enc Try.prog W 0 (fun _ => true) true Try.f3.params.toList args.toList ds p := hA0
  rw [Try.params3] at hA hval hZ
  obtain ⟨v0, vs0, d0, ds0, p0, q0, hargs, rfl, rfl, h0, r0⟩ := trodAll_cons hA
  obtain ⟨v1, vs1, d1, ds1, p1, q1, rfl, rfl, rfl, h1, r1⟩ := trodAll_cons r0
  obtain ⟨v2, vs2, d2, ds2, p2, q2, rfl, rfl, rfl, h2, r2⟩ := trodAll_cons r1
  obtain ⟨v3, vs3, d3, ds3, p3, q3, rfl, rfl, rfl, h3, r3⟩ := trodAll_cons r2
  obtain ⟨rfl, rfl, rfl⟩ := trodAll_nil r3
  obtain rfl : args = #[v0, v1, v2, v3] := by cases args; simp_all
  obtain ⟨rfl, rfl⟩ := trodVars_none hV
  obtain ⟨x0, rfl, rfl, rfl, w0⟩ := open_int Try.underlying3 (hval 0 3 v0 rfl rfl) h0
  obtain ⟨x1, rfl, rfl, rfl, w1⟩ := open_int Try.underlying3 (hval 1 3 v1 rfl rfl) h1
  have k2 := h2
  have hz2 : ∀ n ∈ d2.weights Try.prog 22, n ≤ reachBytes := fun n hn => hZ n (by simp only [List.append_nil, DataW.weightsEach, List.mem_append]; exact Or.inr (Or.inr (Or.inl hn)))
  obtain ⟨a2, n2, c2, y2, rfl, m2, lt2, z2⟩ := scalls_open (hval 2 22 v2 rfl rfl) h2 hz2
  have k3 := h3
  have hz3 : ∀ n ∈ d3.weights Try.prog 22, n ≤ reachBytes := fun n hn => hZ n (by simp only [List.append_nil, DataW.weightsEach, List.mem_append]; exact Or.inr (Or.inr (Or.inr (hn))))
  obtain ⟨a3, n3, c3, y3, rfl, m3, lt3, z3⟩ := scalls_open (hval 3 22 v3 rfl rfl) h3 hz3
  clear hA0 hval0 hZ0
  refine (walk x0 x1 a2 n2 c2 y2 a3 n3 c3 y3 W z2 m2 z3 m3).mono fun e W' ⟨he, ho⟩ => ?_
  subst he
  have bel : Below W.heap.size W W' := ho
  exact ⟨_, rfl, _, _, _, [], _, [], hW', trodAll_mk1 (shut_bool Try.underlying4 _), (trodAll_cons_mk (shut_int Try.underlying3 w0) (trodAll_cons_mk (shut_int Try.underlying3 w1) (trodAll_cons_mk (Below.trod laidOut (by kernel_rfl) (of_decide_eq_true (by kernel_rfl)) k2 bel lt2) (trodAll_cons_mk (Below.trod laidOut (by kernel_rfl) (of_decide_eq_true (by kernel_rfl)) k3 bel lt3) trodAll_mk0)))), rfl, bel.frame _, fun h => by cases h⟩
theorem over : Rows.stageOwnRow.holds Try.pinned (OpenSpec.ofChange Rows.stageOwnSpec) :=
  OpenClaim.holds_of_wide 3 Try.f3 rfl rfl rfl rfl rfl rfl rfl ⟨rfl, rfl, rfl, rfl, rfl⟩ rfl rfl rfl rfl rfl (by kernel_rfl) Try.func3 (by kernel_rfl)
    (of_decide_eq_true (by kernel_rfl)) (by unfold Func.isWrapper; first | (rw [if_pos (by decide +kernel)]; kernel_rfl) | (rw [if_neg (by decide +kernel)]; exact ⟨rfl, rfl⟩))
    (fun os started H enc _ => lifted os started H enc)
end stageOwn
/-- The statement. -/
theorem stageOwn_holds : Rows.StageOwnSaid := stageOwn.over
#print axioms stageOwn_holds
end Go.Proofs.Ytiiggmfindfkfaa
