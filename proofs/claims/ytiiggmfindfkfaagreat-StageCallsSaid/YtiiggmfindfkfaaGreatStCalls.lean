/-
  StageCalls: each row of calls is answered as the document says, and the pages are what they are to be, with as many tables: for every input true, and the input reads as it did; no condition.
-/
import Derived.Test.YtiiggmfindfkfaaGreatStOpen
import Derived.Test.YtiiggmfindfkfaaGreatStSame
import Derived.Test.YtiiggmfindfkfaaGreatStBrk
namespace Go.Proofs.YtiiggmfindfkfaaGreat
open Go.ChangeShapes Go.WideShapes Go.ChangeAt Go.RowKit Go.Deep Nt
namespace St
open Ph (Only)
open Ph En Wk
theorem SCalls.at' {w w' : World} {b off : Nat} {len : Nat} {y : Nat → Cq} (h : SCalls w.heap.size w (some ⟨b, off, none⟩) len y) (hb : Below w.heap.size w w') {i : Nat} (hi : i < len) : CallAt w' b off i (y i) := by
  obtain ⟨b', off', e, _, hc⟩ := h.at hb hi
  injection e with e
  injection e with e1 e2 _
  subst e1 e2
  exact hc
section
variable {ops : Array Oper} {S : World → Prop} {o : Oper} {a : Act} {v : Value}
theorem load_call (w : World) (b off i : Nat) (c : Cq) (x : Operand) (h : CallAt w b off i c) (hx : a.eval x = .pointer (some ⟨b, off + i * 5, none⟩)) (ho : o.op = .load 38 x) : (execOp a.eval o).run Tryz.prog w = .ok (.value (callV c)) w := by
  obtain ⟨k0, k1, k2, k3, k4⟩ := h
  unfold execOp
  simp only [ho, hx]
  go_simp
theorem y_call (b off i : Nat) (c : Cq) (x : Operand) (hw : Region.wanted o (yielded ops a.tmps) = true) (hS : ∀ w, S w → CallAt w b off i c) (hx : a.eval x = .pointer (some ⟨b, off + i * 5, none⟩)) (ho : o.op = .load 38 x) : YieldsIf Tryz.prog ops S o (callV c) a := .inl ⟨hw, fun w h => load_call w b off i c x (hS w h) hx ho⟩
end
theorem tel_q {n k : Nat} {x : Pl} {A : Nat → Fst} {s : Rst} (hR : Rep n x A) (hT : Tel k A s) : ∀ p, p < 4096 → 0 ≤ (s.q p).1 ∧ (s.q p).1 ≤ 5000 := fun p hp => by
  rw [hT.q p hp]
  cases h : told A p with
  | none => exact ⟨by decide, by decide⟩
  | some t =>
    have h1 := told_F hR hp h
    have h2 := hR.few
    show 0 ≤ (t.F : Int) ∧ (t.F : Int) ≤ 5000
    omega
theorem tel_fr {n k r : Nat} {os : List Nat} {A : Nat → Fst} {s : Rst} (hI : Inv n k r os A) (hT : Tel k A s) (hn : n ≤ 1024) : 0 ≤ s.fr ∧ s.fr ≤ 5000 := by
  have h1 := hT.fr
  have h2 := hI.c0
  have h3 : 0 ≤ Fr.cn os 0 := by unfold Fr.cn; omega
  have h4 := hI.kn
  omega
/-- What a call answers and leaves, for both. -/
theorem step_tel {n vm k : Nat} {x : Pl} {A : Nat → Fst} {s : Rst} (hR : Rep n x A) (hI : Inv n k x.root x.os A) (hT : Tel k A s) (c : Cq) :
    (opR n s c).1 = (stepR n vm x A c).k ∧ Rep n (stepR n vm x A c).x (stepR n vm x A c).A ∧ Inv n k (stepR n vm x A c).x.root (stepR n vm x A c).x.os (stepR n vm x A c).A ∧ Tel k (stepR n vm x A c).A (opR n s c).2 := by
  obtain ⟨h1, h2⟩ := op_tel hI hT c
  obtain ⟨_, hg, tk, gv, hd⟩ := stepR_good (vm := vm) hR c
  have ha := op_abs (n := n) (vm := vm) (x := x.noLog) (A := A) c
  rw [← stepR_live hR.live] at ha
  have a1 := congrArg (·.1) ha
  have a2 := congrArg (·.2.1) ha
  have a3 := congrArg (·.2.2) ha
  simp only [absR] at a1 a2 a3
  have er : (stepR n vm x A c).x.root = x.root := hd.root
  refine ⟨h1.trans a1.symm, hg, ?_, ?_⟩
  · rw [er, a2, a3]
    exact hI.op c
  · rw [a3]
    exact h2
theorem Rs.hop {L : Loc} {g : Nat} {w w' : World} {v v' : Value} {r P G n : Nat} {s : Rst} (h : Rs w r P G n s) (hr : Off L g v r) (hP : Off L g v P) (hG : Off L g v G) (hp : Hop L.S v v' w w') : Rs w' r P G n s := by
  have key : ∀ b, Off L g v b → b ∉ L.S ++ v.ownBlock.toList := fun b hb => by
    simp only [List.mem_append, not_or]
    exact ⟨S_all hb.1, by simpa using fun e => hb.2.2 e⟩
  exact h.kept (hop_only hp) (key r hr) (key P hP) (key G hG)
/-- Three blocks of a space of the document's, apart from a world. -/
structure Ap (L : Loc) (g : Nat) (v : Value) (B r P G : Nat) : Prop where
  or : Off L g v r
  oP : Off L g v P
  oG : Off L g v G
  Br : B ≤ r
  BP : B ≤ P
  BG : B ≤ G
theorem Ap.hop {L : Loc} {g : Nat} {w w' : World} {v v' : Value} {B r P G n : Nat} {s : Rst} (h : Ap L g v B r P G) (hR : Rs w r P G n s) (hp : Hop L.S v v' w w') : Ap L g v' B r P G :=
  ⟨h.or.hop hR.lt hp, h.oP.hop hR.ltP hp, h.oG.hop hR.ltG hp, h.Br, h.BP, h.BG⟩
theorem Ap.side {L : Loc} {g : Nat} {v : Value} {B r P G : Nat} (h : Ap L g v B r P G) : ∀ k ∈ [r, P, G], k ∉ L.all ∧ k ≠ g ∧ v.ownBlock ≠ some k := by
  intro k hk
  simp only [List.mem_cons, List.not_mem_nil, or_false] at hk
  rcases hk with rfl | rfl | rfl
  · exact h.or
  · exact h.oP
  · exact h.oG
theorem Ap.bel {L : Loc} {g : Nat} {v : Value} {B r P G : Nat} (h : Ap L g v B r P G) {w w' : World} (ho : Only [r, P, G] w w') (hB : B ≤ w.heap.size) : Below B w w' :=
  ho.below hB (fun k hk => by
    simp only [List.mem_cons, List.not_mem_nil, or_false] at hk
    have h1 := h.Br; have h2 := h.BP; have h3 := h.BG
    rcases hk with rfl | rfl | rfl <;> assumption)
end St
namespace stageCalls
open St
open Ph (Only)
open Ph En Wk
set_option maxRecDepth 100000 in
set_option maxHeartbeats 16000000 in
theorem walk (n away : Int) (a2 : Option Addr) (n2 c2 : Nat) (y2 : Nat → Cq) (w : World) (hx2 : SCalls w.heap.size w a2 n2 y2) (hl2 : n2 ≤ c2 ∧ c2 ≤ maxLen) :
    Calls Tryz.prog 3 #[.int .i64 n, .int .i64 away, .slice a2 n2 c2] w fun e w' => e = .returned (.bool true) ∧ Below w.heap.size w w' := by
  have HX2 := Lib.hid hx2
  have hm2 : n2 ≤ maxLen := by omega
  unfold maxLen at hm2
  clear hx2 hl2
  go_enter Tryz.func3, Tryz.ntmps3
  go_wp2_with fail
  have UB := Lib.hid (Below.refl w.heap.size w)
  refine (alive_any w).mono ?_
  rintro e u1 ⟨rfl, b1⟩
  have U1 := Lib.hid (UB.out.trans (b1.mono UB.out.size))
  clear b1 UB
  go_wp2_with fail
  by_cases hg : gr n away n2
  · refine (great_yes n away a2 n2 c2 u1 hg).mono ?_
    rintro e w' ⟨rfl, rfl⟩
    clear hg
    go_wp2_with fail
    go_ret
    exact ⟨rfl, U1.out⟩
  have hN : 1 ≤ n ∧ n ≤ 300 ∧ 0 ≤ away ∧ away < n ∧ n2 ≤ 24 := by unfold gr at hg; omega
  obtain ⟨N, rfl⟩ := Int.eq_ofNat_of_zero_le (show 0 ≤ n by omega)
  obtain ⟨aw, rfl⟩ := Int.eq_ofNat_of_zero_le (show 0 ≤ away by omega)
  have haw : aw < N := by omega
  have hN3 : N ≤ 300 := by omega
  have h24 : n2 ≤ 24 := by omega
  clear hg hN
  refine (great_no N aw a2 n2 c2 u1 h24 haw hN3).mono ?_
  rintro e w' ⟨rfl, rfl⟩
  go_wp2_with fail
  refine (begin_any N aw u1 (by omega) haw).mono ?_
  rintro e u2 ⟨g, L, v, rfl, D, hb, hn, hvm, hroom⟩
  have D0 := Lib.hid D
  have U2 := Lib.hid (U1.out.trans (hb.mono U1.out.size))
  have HL := Lib.hid (And.intro hn (And.intro hvm hroom))
  have R0 := Lib.hid (show Rep L.n (beg N aw 8) (fun _ => Fst.no) by rw [hn]; exact beg_rep (by omega) haw)
  have I0 := Lib.hid (show Inv L.n (N - aw) (beg N aw 8).root (beg N aw 8).os (fun _ => Fst.no) by rw [hn]; exact inv_beg haw 8)
  have z1 := Lib.hid U1.out.size
  clear D hb hn hvm hroom U1
  generalize beg N aw 8 = x0 at *
  go_wp2_with fail
  have fra : (N : Int) - (aw : Int) - 1 = ((N - aw : Nat) : Int) - 1 := by omega
  have CN := rnew_any N ((N : Int) - (aw : Int) - 1) u2 (by omega)
  have FRA := Lib.hid fra
  clear fra
  refine CN.mono ?_
  clear CN
  rintro e u3 ⟨r, P, G, rfl, hRs, hO, hr, hP, hG⟩
  have bO := hO.below (B := u2.heap.size) (Nat.le_refl _) (by simp)
  have D1 := Lib.hid (D0.out.below bO)
  have A1 := Lib.hid (show Ap L g v w.heap.size r P G from ⟨D0.out.offs hr, D0.out.offs hP, D0.out.offs hG, Nat.le_trans U2.out.size hr, Nat.le_trans U2.out.size hP, Nat.le_trans U2.out.size hG⟩)
  have S1 := Lib.hid (show Rs u3 r P G L.n (newR ((N : Int) - (aw : Int) - 1)) from by rw [HL.out.1]; exact hRs)
  have T1 := Lib.hid (show Tel (N - aw) (fun _ => Fst.no) (newR ((N : Int) - (aw : Int) - 1)) from by rw [FRA.out]; exact tel_new (N - aw))
  have U3 := Lib.hid (U2.out.trans (bO.mono U2.out.size))
  clear hRs hO hr hP hG bO D0 U2 FRA
  generalize newR ((N : Int) - (aw : Int) - 1) = s0 at *
  go_wp2_with fail
  go_loopw [9] (fun q wr => ∃ (i : Nat) (v' : Value) (x : Pl) (A : Nat → Fst) (s : Rst), q = .int .i64 i ∧ i ≤ n2 ∧ Wd u1.heap.size g L wr v' x ∧ Rep L.n x A ∧ Inv L.n (N - aw) x.root x.os A ∧ Rs wr r P G L.n s ∧ Tel (N - aw) A s ∧ Ap L g v' w.heap.size r P G ∧ Below w.heap.size w wr) (fun q _ => n2 - (intOf q).toNat)
  case atStart => exact ⟨0, v, x0, _, s0, rfl, Nat.zero_le _, D1.out, R0.out, I0.out, S1.out, T1.out, A1.out, U3.out⟩
  case round =>
    obtain ⟨i, v', x, A, s, rfl, hi, hD, hR, hI, hS, hT, hA, hU⟩ := hrel
    have D2 := Lib.hid hD
    have R2 := Lib.hid hR
    have I2 := Lib.hid hI
    have S2 := Lib.hid hS
    have T2 := Lib.hid hT
    have A2 := Lib.hid hA
    have U4 := Lib.hid hU
    clear hD hR hI hS hT hA hU D1 R0 I0 S1 T1 A1 U3
    by_cases hlt : i < n2
    · obtain ⟨b, off, rfl, hbl, _⟩ := HX2.out.at U4.out hlt
      have D3 := Lib.hid (D2.out.drewN 1)
      have S3 := Lib.hid (S2.out.kept (Only.drewN [] wr 1) (by simp) (by simp) (by simp))
      have U5 := Lib.hid (U4.out.drew)
      change Hid (Wd u1.heap.size g L wr.drew v' x) at D3
      change Hid (Rs wr.drew r P G L.n s) at S3
      obtain ⟨ek, hR', hI', hT'⟩ := step_tel (vm := L.vm) R2.out I2.out T2.out (y2 i)
      have CD := Lib.hid (fun wq (h : St L wq v' x) => doL_any (A := A) (y2 i) wq h (fun _ => R2.out))
      have cr := fun wq (h : Rs wq r P G L.n s) => doRef_any r P G L.n (y2 i) s wq h (tel_fr I2.out T2.out R2.out.few).2 (tel_fr I2.out T2.out R2.out.few).1 (tel_q R2.out T2.out)
      rw [ek] at cr
      have CR := Lib.hid cr
      obtain ⟨rk, hrk⟩ : ∃ rk, rk = stepR L.n L.vm x A (y2 i) := ⟨_, rfl⟩
      rw [← hrk] at hR' hI' hT' CD CR
      obtain ⟨s', hs'⟩ : ∃ s', s' = (opR L.n s (y2 i)).2 := ⟨_, rfl⟩
      rw [← hs'] at hT' CR
      have R3 := Lib.hid hR'
      have I3 := Lib.hid hI'
      have T3 := Lib.hid hT'
      obtain ⟨kk, xr, Ar⟩ := rk
      simp only at R3 I3 T3 CD CR
      have hlt' : (i : Int) < (n2 : Int) := by omega
      clear hrk hs' ek hR' hI' hT' cr D2 S2 U4 hbl
      go_wp2_with fail
      refine wp_region_held_drew (S := fun w' => w'.cell? ⟨g, 3, none⟩ = some (.pointer (some ⟨L.s, 0, none⟩)) ∧ CallAt w' b off i (y2 i)) (by kernel_rfl) ⟨D3.out.c.2.2.2, SCalls.at' HX2.out U5.out hlt⟩ (fun hHeld => ?_)
      generalize wr.drew = q at *
      refine wpAnyH_take (i := 0) (oi := ⟨some 33, _, _, _, _, _⟩) (v := (.pointer (some ⟨g, 0, none⟩))) rfl (by kernel_rfl) (by kernel_rfl) (by kernel_rfl) (fun _ _ _ h => h) (y_run (by kernel_rfl) (fun _ => by kernel_rfl)) hHeld ?_
      try simp only [Act.put, List.setIfInBounds_toArray, List.set_cons_zero, List.set_cons_succ]
      refine wpAnyH_take (i := 1) (oi := ⟨some 34, _, _, _, _, _⟩) (v := (.pointer (some ⟨g, 0, none⟩))) rfl (by kernel_rfl) (by kernel_rfl) (by kernel_rfl) (fun _ _ _ h => h) (y_run (by kernel_rfl) (fun _ => by kernel_rfl)) hHeld ?_
      try simp only [Act.put, List.setIfInBounds_toArray, List.set_cons_zero, List.set_cons_succ]
      refine wpAnyH_take (i := 2) (oi := ⟨some 35, _, _, _, _, _⟩) (v := (.pointer (some ⟨g, 3, none⟩))) rfl (by kernel_rfl) (by kernel_rfl) (by kernel_rfl) (fun _ _ _ h => h) (y_run (by kernel_rfl) (fun _ => by kernel_rfl)) hHeld ?_
      try simp only [Act.put, List.setIfInBounds_toArray, List.set_cons_zero, List.set_cons_succ]
      refine wpAnyH_take (i := 3) (oi := ⟨some 36, _, _, _, _, _⟩) (v := (.pointer (some ⟨L.s, 0, none⟩))) rfl (by kernel_rfl) (by kernel_rfl) (by kernel_rfl) (fun _ _ _ h => h) (y_sp g 3 (some ⟨L.s, 0, none⟩) (.tmp 35) (by kernel_rfl) (fun _ h => h.1) rfl rfl) hHeld ?_
      try simp only [Act.put, List.setIfInBounds_toArray, List.set_cons_zero, List.set_cons_succ]
      refine wpAnyH_take (i := 4) (oi := ⟨some 37, _, _, _, _, _⟩) (v := (.slice (some ⟨b, off, none⟩) n2 c2)) rfl (by kernel_rfl) (by kernel_rfl) (by kernel_rfl) (fun _ _ _ h => h) (y_run (by kernel_rfl) (fun _ => by kernel_rfl)) hHeld ?_
      try simp only [Act.put, List.setIfInBounds_toArray, List.set_cons_zero, List.set_cons_succ]
      refine wpAnyH_take (i := 5) (oi := ⟨some 38, _, _, _, _, _⟩) (v := (.int .i64 (i : Int))) rfl (by kernel_rfl) (by kernel_rfl) (by kernel_rfl) (fun _ _ _ h => h) (y_run (by kernel_rfl) (fun _ => by kernel_rfl)) hHeld ?_
      try simp only [Act.put, List.setIfInBounds_toArray, List.set_cons_zero, List.set_cons_succ]
      refine wpAnyH_take (i := 6) (oi := ⟨some 39, _, _, _, _, _⟩) (v := (.pointer (some ⟨b, off + i * 5, none⟩))) rfl (by kernel_rfl) (by kernel_rfl) (by kernel_rfl) (fun _ _ _ h => h) (y_run (by kernel_rfl) (fun _ => by go_simp)) hHeld ?_
      try simp only [Act.put, List.setIfInBounds_toArray, List.set_cons_zero, List.set_cons_succ]
      refine wpAnyH_take (i := 7) (oi := ⟨some 40, _, _, _, _, _⟩) (v := (callV (y2 i))) rfl (by kernel_rfl) (by kernel_rfl) (by kernel_rfl) (fun _ _ _ h => h) (y_call b off i (y2 i) (.tmp 39) (by kernel_rfl) (fun _ h => h.2) rfl rfl) hHeld ?_
      try simp only [Act.put, List.setIfInBounds_toArray, List.set_cons_zero, List.set_cons_succ]
      refine wpAnyH_take (i := 9) (oi := ⟨some 42, _, _, _, _, _⟩) (v := (.pointer (some ⟨r, 0, none⟩))) rfl (by kernel_rfl) (by kernel_rfl) (by kernel_rfl) (fun _ _ _ h => h) (y_run (by kernel_rfl) (fun _ => by kernel_rfl)) hHeld ?_
      try simp only [Act.put, List.setIfInBounds_toArray, List.set_cons_zero, List.set_cons_succ]
      refine wpAnyH_take (i := 10) (oi := ⟨some 43, _, _, _, _, _⟩) (v := (.slice (some ⟨b, off, none⟩) n2 c2)) rfl (by kernel_rfl) (by kernel_rfl) (by kernel_rfl) (fun _ _ _ h => h) (y_run (by kernel_rfl) (fun _ => by kernel_rfl)) hHeld ?_
      try simp only [Act.put, List.setIfInBounds_toArray, List.set_cons_zero, List.set_cons_succ]
      refine wpAnyH_take (i := 11) (oi := ⟨some 44, _, _, _, _, _⟩) (v := (.int .i64 (i : Int))) rfl (by kernel_rfl) (by kernel_rfl) (by kernel_rfl) (fun _ _ _ h => h) (y_run (by kernel_rfl) (fun _ => by kernel_rfl)) hHeld ?_
      try simp only [Act.put, List.setIfInBounds_toArray, List.set_cons_zero, List.set_cons_succ]
      refine wpAnyH_take (i := 12) (oi := ⟨some 45, _, _, _, _, _⟩) (v := (.pointer (some ⟨b, off + i * 5, none⟩))) rfl (by kernel_rfl) (by kernel_rfl) (by kernel_rfl) (fun _ _ _ h => h) (y_run (by kernel_rfl) (fun _ => by go_simp)) hHeld ?_
      try simp only [Act.put, List.setIfInBounds_toArray, List.set_cons_zero, List.set_cons_succ]
      refine wpAnyH_take (i := 13) (oi := ⟨some 46, _, _, _, _, _⟩) (v := (callV (y2 i))) rfl (by kernel_rfl) (by kernel_rfl) (by kernel_rfl) (fun _ _ _ h => h) (y_call b off i (y2 i) (.tmp 45) (by kernel_rfl) (fun _ h => h.2) rfl rfl) hHeld ?_
      try simp only [Act.put, List.setIfInBounds_toArray, List.set_cons_zero, List.set_cons_succ]
      refine wpAnyH_ready (rs := [8]) (by kernel_rfl) (by simp) ?_
      refine AllReadyH.cons (o := ⟨some 41, .call _, _, _, _, _⟩) rfl (fun K hK => ?_) AllReadyH.nil
      go_simp
      refine (CD.out q D3.out.st).mono ?_
      rintro e q1 ⟨rfl, v1, hS, hP⟩
      have D4 := Lib.hid (D3.out.hop hS hP)
      have S4 := Lib.hid (S3.out.hop A2.out.or A2.out.oP A2.out.oG hP)
      have A4 := Lib.hid (A2.out.hop S3.out hP)
      have U6 := Lib.hid (U5.out.trans ((D3.out.bel hP).mono z1.out))
      refine hK.out _ _ ⟨D4.out.c.2.2.2, SCalls.at' HX2.out U6.out hlt⟩ (fun hHeld => ?_)
      clear hK K hS hP D3 S3 A2 U5
      try simp only [Act.put, List.setIfInBounds_toArray, List.set_cons_zero, List.set_cons_succ]
      refine wpAnyH_ready (rs := [14]) (by kernel_rfl) (by simp) ?_
      refine AllReadyH.cons (o := ⟨some 47, .call _, _, _, _, _⟩) rfl (fun K hK => ?_) AllReadyH.nil
      go_simp
      refine (CR.out q1 S4.out).mono ?_
      rintro e q2 ⟨rfl, hS, hO⟩
      have D5 := Lib.hid (D4.out.side hO A4.out.side)
      have S5 := Lib.hid hS
      have U7 := Lib.hid (U6.out.trans (A4.out.bel hO U6.out.size))
      refine hK.out _ _ ⟨D5.out.c.2.2.2, SCalls.at' HX2.out U7.out hlt⟩ (fun hHeld => ?_)
      clear hK K hS hO D4 S4 U6
      try simp only [Act.put, List.setIfInBounds_toArray, List.set_cons_zero, List.set_cons_succ]
      refine wpAnyH_take (i := 15) (oi := ⟨some 48, _, _, _, _, _⟩) (v := (.bool false)) rfl (by kernel_rfl) (by kernel_rfl) (by kernel_rfl) (fun _ _ _ h => h) (y_run (by kernel_rfl) (fun _ => by go_simp)) hHeld ?_
      try simp only [Act.put, List.setIfInBounds_toArray, List.set_cons_zero, List.set_cons_succ]
      refine wpAnyH_take (i := 16) (oi := ⟨some 49, _, _, _, _, _⟩) (v := (.bool false)) rfl (by kernel_rfl) (by kernel_rfl) (by kernel_rfl) (fun _ _ _ h => h) (y_run (by kernel_rfl) (fun _ => by kernel_rfl)) hHeld ?_
      try simp only [Act.put, List.setIfInBounds_toArray, List.set_cons_zero, List.set_cons_succ]
      refine wpAnyH_take (i := 17) (oi := ⟨some 50, _, _, _, _, _⟩) (v := (.pointer (some ⟨g, 0, none⟩))) rfl (by kernel_rfl) (by kernel_rfl) (by kernel_rfl) (fun _ _ _ h => h) (y_run (by kernel_rfl) (fun _ => by kernel_rfl)) hHeld ?_
      try simp only [Act.put, List.setIfInBounds_toArray, List.set_cons_zero, List.set_cons_succ]
      refine wpAnyH_take (i := 18) (oi := ⟨some 51, _, _, _, _, _⟩) (v := (.pointer (some ⟨r, 0, none⟩))) rfl (by kernel_rfl) (by kernel_rfl) (by kernel_rfl) (fun _ _ _ h => h) (y_run (by kernel_rfl) (fun _ => by kernel_rfl)) hHeld ?_
      try simp only [Act.put, List.setIfInBounds_toArray, List.set_cons_zero, List.set_cons_succ]
      refine wpAnyH_ready (rs := [19]) (by kernel_rfl) (by simp) ?_
      refine AllReadyH.cons (o := ⟨some 52, .call _, _, _, _, _⟩) rfl (fun K hK => ?_) AllReadyH.nil
      go_simp
      refine (same_any u1.heap.size g L v1 xr Ar (N - aw) r P G s' q2 D5.out R3.out I3.out S5.out T3.out).mono ?_
      rintro e q3 ⟨rfl, b3⟩
      have D6 := Lib.hid (D5.out.below b3)
      have S6 := Lib.hid (S5.out.below b3)
      have U8 := Lib.hid (U7.out.trans (b3.mono U7.out.size))
      refine hK.out _ _ ⟨D6.out.c.2.2.2, SCalls.at' HX2.out U8.out hlt⟩ (fun hHeld => ?_)
      clear hK K b3 D5 S5 U7
      try simp only [Act.put, List.setIfInBounds_toArray, List.set_cons_zero, List.set_cons_succ]
      refine wpAnyH_take (i := 20) (oi := ⟨some 53, _, _, _, _, _⟩) (v := (.bool false)) rfl (by kernel_rfl) (by kernel_rfl) (by kernel_rfl) (fun _ _ _ h => h) (y_run (by kernel_rfl) (fun _ => by kernel_rfl)) hHeld ?_
      try simp only [Act.put, List.setIfInBounds_toArray, List.set_cons_zero, List.set_cons_succ]
      refine wpAnyH_take (i := 21) (oi := ⟨some 54, _, _, _, _, _⟩) (v := (.bool false)) rfl (by kernel_rfl) (by kernel_rfl) (by kernel_rfl) (fun _ _ _ h => h) (y_run (by kernel_rfl) (fun _ => by kernel_rfl)) hHeld ?_
      try simp only [Act.put, List.setIfInBounds_toArray, List.set_cons_zero, List.set_cons_succ]
      refine wpAnyH_done (by kernel_rfl) ?_ _
      clear hHeld CD CR
      go_wp2_with fail
      go_roundw
      case rel => exact ⟨i + 1, v1, xr, Ar, s', by go_num, by omega, D6.out, R3.out, I3.out, S6.out, T3.out, A4.out, U8.out⟩
      case measure => simp only [intOf, Int.toNat_natCast]; omega
    · obtain rfl : i = n2 := by omega
      go_wp2_with fail
      go_ret
      exact ⟨rfl, U4.out⟩
set_option maxRecDepth 100000 in
theorem lifted (os : Os) (started : os.Started) (H : Type) (enc : TypeId × Value → H) :
    ReturnsInHanded {} Tryz.checked os 3 .any (Rows.stageCallsSpec.pre6 enc Tryz.prog Tryz.f3 Rows.stageCallsRow.domain false) (Rows.stageCallsSpec.post enc Tryz.prog Tryz.f3 false true false false) := by
  refine returnsInHanded_of_change_sized (C := Tryz.checked) own started (by kernel_rfl) Tryz.func3
    (ChangeSpec.witness6 (enc := enc) (C := Tryz.checked) false ⟨#[], #[.int .i64 0, .int .i64 0, .slice none 0 0], []⟩ 8 (by kernel_rfl) (by kernel_rfl) (by kernel_rfl) (by kernel_rfl)) ?_
  intro W base args ds gs before hval0 hW hcnd hZ0 _
  have hval : ∀ (j : Nat) t v, Tryz.f3.params[j]? = some t → args[j]? = some v → Value.okWide Tryz.prog W .any base t v := hval0
  have hZ : ∀ n ∈ DataW.weightsEach Tryz.prog (Tryz.f3.params.toList ++ []) (ds ++ gs), n ≤ reachBytes := fun n hn => of_decide_eq_true (List.all_eq_true.1 hZ0 n hn)
  have hW' := hW
  obtain ⟨p, q, hA0, hV, rfl, hfz, hnd⟩ := hW
  have hA : DataW.TrodAll enc Tryz.prog W 0 (fun _ => true) true Tryz.f3.params.toList args.toList ds p := hA0
  rw [Tryz.params3] at hA hval hZ
  obtain ⟨v0, vs0, d0, ds0, p0, q0, hargs, rfl, rfl, h0, r0⟩ := trodAll_cons hA
  obtain ⟨v1, vs1, d1, ds1, p1, q1, rfl, rfl, rfl, h1, r1⟩ := trodAll_cons r0
  obtain ⟨v2, vs2, d2, ds2, p2, q2, rfl, rfl, rfl, h2, r2⟩ := trodAll_cons r1
  obtain ⟨rfl, rfl, rfl⟩ := trodAll_nil r2
  obtain rfl : args = #[v0, v1, v2] := by cases args; simp_all
  obtain ⟨rfl, rfl⟩ := trodVars_none hV
  obtain ⟨x0, rfl, rfl, rfl, w0⟩ := open_int Tryz.underlying3 (hval 0 3 v0 rfl rfl) h0
  obtain ⟨x1, rfl, rfl, rfl, w1⟩ := open_int Tryz.underlying3 (hval 1 3 v1 rfl rfl) h1
  have k2 := h2
  have hz2 : ∀ n ∈ d2.weights Tryz.prog 22, n ≤ reachBytes := fun n hn => hZ n (by simp only [List.append_nil, DataW.weightsEach, List.mem_append]; exact Or.inr (Or.inr (hn)))
  obtain ⟨a2, n2, c2, y2, rfl, m2, lt2, z2⟩ := scalls_open (hval 2 22 v2 rfl rfl) h2 hz2
  clear hA0 hval0 hZ0
  refine (walk x0 x1 a2 n2 c2 y2 W z2 m2).mono fun e W' ⟨he, ho⟩ => ?_
  subst he
  have bel : Below W.heap.size W W' := ho
  exact ⟨_, rfl, _, _, _, [], _, [], hW', trodAll_mk1 (shut_bool Tryz.underlying4 _), (trodAll_cons_mk (shut_int Tryz.underlying3 w0) (trodAll_cons_mk (shut_int Tryz.underlying3 w1) (trodAll_cons_mk (Below.trod laidOut (by kernel_rfl) (of_decide_eq_true (by kernel_rfl)) k2 bel lt2) trodAll_mk0))), rfl, bel.frame _, fun h => by cases h⟩
theorem over : Rows.stageCallsRow.holds Tryz.pinned (OpenSpec.ofChange Rows.stageCallsSpec) :=
  OpenClaim.holds_of_wide 3 Tryz.f3 rfl rfl rfl rfl rfl rfl rfl ⟨rfl, rfl, rfl, rfl, rfl⟩ rfl rfl rfl rfl rfl (by kernel_rfl) Tryz.func3 (by kernel_rfl)
    (of_decide_eq_true (by kernel_rfl)) (by unfold Func.isWrapper; first | (rw [if_pos (by decide +kernel)]; kernel_rfl) | (rw [if_neg (by decide +kernel)]; exact ⟨rfl, rfl⟩))
    (fun os started H enc _ => lifted os started H enc)
end stageCalls
/-- The statement. -/
theorem stageCalls_holds : Rows.StageCallsSaid := stageCalls.over
#print axioms stageCalls_holds
end Go.Proofs.YtiiggmfindfkfaaGreat
