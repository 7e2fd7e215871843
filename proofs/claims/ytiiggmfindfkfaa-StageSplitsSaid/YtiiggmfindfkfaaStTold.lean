/-
  What the laws' told answers where a space tells just these pages. Conditions: that a world of the laws lies there.
-/
import Derived.Test.YtiiggmfindfkfaaStDuo
namespace Go.Proofs.Ytiiggmfindfkfaa
open Go.RowKit Nt
namespace St
open Ph En Wk
theorem lay5 {b : Nat} {w : World} {t : TypeId} {u0 u1 u2 u3 u4 : Value} (h : Tl.Lay w b t [u0, u1, u2, u3, u4]) (v0 v1 v2 v3 v4 : Value) :
    Tl.Lay (((((w.setCell ⟨b, 0, none⟩ v0).setCell ⟨b, 1, none⟩ v1).setCell ⟨b, 2, none⟩ v2).setCell ⟨b, 3, none⟩ v3).setCell ⟨b, 4, none⟩ v4) b t [v0, v1, v2, v3, v4] :=
  ((((h.set 0 v0).set 1 v1).set 2 v2).set 3 v3).set 4 v4
def encT (q : Tp) : List Value := [.bool true, .bool q.W, .bool q.X, .bool q.B, .int .i64 (q.F : Int)]
/-- The entries of pages, as they were told. -/
def entL (A : Nat → Fst) (l : List Nat) : List Value := l.flatMap fun p => match told A p with | some q => encT q | none => []
/-- A row of entries that lies apart from what calls on a space change. -/
def Ew (L : Loc) (w : World) (v : Value) (po : Option Addr) (A : Nat → Fst) (l : List Nat) : Prop :=
  0 < l.length → ∃ b, po = some ⟨b, 0, none⟩ ∧ b < w.heap.size ∧ b ∉ L.S ∧ v.ownBlock ≠ some b ∧ ∀ (k p : Nat) (q : Tp), l[k]? = some p → told A p = some q → ∀ j, j < 5 → w.cell? ⟨b, k * 5 + j, none⟩ = (encT q)[j]?
theorem Ew.hop {L : Loc} {w w' : World} {v v' : Value} {po : Option Addr} {A : Nat → Fst} {l : List Nat} (h : Ew L w v po A l) (hp : Hop L.S v v' w w') : Ew L w' v' po A l := fun hl => by
  obtain ⟨b, e, hlt, hn, ho, hc⟩ := h hl
  exact ⟨b, e, Nat.lt_of_lt_of_le hlt hp.size, hn, hp.off hlt ho, fun k p q h1 h2 j hj => (hp.cell hlt hn ho _).trans (hc k p q h1 h2 j hj)⟩
theorem Ew.below {L : Loc} {w w' : World} {v : Value} {po : Option Addr} {A : Nat → Fst} {l : List Nat} (h : Ew L w v po A l) (hb : Below w.heap.size w w') : Ew L w' v po A l := h.hop (hop_below hb v)
/-- Which pages are told. -/
def pgL (A : Nat → Fst) : List Nat := (List.range 4096).filter fun p => (told A p).isSome
theorem pgL_mem {A : Nat → Fst} {k p : Nat} (h : (pgL A)[k]? = some p) : p < 4096 ∧ ∃ q, told A p = some q := by
  have := List.mem_of_getElem? h
  unfold pgL at this
  rw [List.mem_filter, List.mem_range] at this
  exact ⟨this.1, Option.isSome_iff_exists.1 this.2⟩
theorem pgL_len (A : Nat → Fst) : (pgL A).length ≤ 4096 := Nat.le_trans (List.length_filter_le _ _) (by simp)
/-- The same is told, but of one page. -/
def Alike (A A' : Nat → Fst) (but : Int) : Prop := ∀ p, p < 4096 → (told A' p).isSome = (told A p).isSome ∧ ∀ q q', told A p = some q → told A' p = some q' → (p : Int) ≠ but → q'.W = q.W ∧ q'.X = q.X ∧ q'.F = q.F
theorem Alike.pages {A A' : Nat → Fst} {but : Int} (h : Alike A A' but) : pgL A' = pgL A := List.filter_congr fun p hp => (h p (List.mem_range.1 hp)).1
variable {L : Loc} {v : Value} {x : Pl} {A : Nat → Fst}
set_option maxRecDepth 100000 in
set_option maxHeartbeats 8000000 in
theorem told_any (B g : Nat) (A0 : Nat → Fst) (but : Int) (pp po : Option Addr) (np cp co : Nat) (w : World) (D : Wd B g L w v x) (hR : Rep L.n x A) (hn : np = (pgL A0).length) (hP : Rw L w v pp (pgL A0)) (hE : Ew L w v po A0 (pgL A0)) (hA : Alike A0 A but) :
    Calls Try.prog 30 #[.pointer (some ⟨g, 0, none⟩), .slice pp np cp, .slice po np co, .int .i64 but] w fun e w' => e = .returned (.bool true) ∧ Below w.heap.size w w' := by
  have D0 := Lib.hid D
  have HR := Lib.hid hR
  have HN := Lib.hid hn
  have P0 := Lib.hid hP
  have E0 := Lib.hid hE
  have HA := Lib.hid hA
  have n4 : np ≤ 4096 := by rw [hn]; exact pgL_len A0
  have j3 := D.c.2.2.2
  clear D hR hn hP hE hA
  go_enter Try.func30, Try.ntmps30
  go_wp2_with fail
  have CP := pages_seen w D0.out.st HR.out.live
  rw [pages_told HR.out, show (List.range 4096).filter (fun p => (told A p).isSome) = pgL A0 from HA.out.pages] at CP
  refine CP.mono ?_
  clear CP
  rintro e w1 ⟨vq, rfl, hs, hO⟩
  obtain ⟨qp, qc, rfl⟩ := hs.form
  rw [← HN.out]
  have b1 := hO.below (B := w.heap.size) (Nat.le_refl _) (by simp)
  obtain ⟨a9, c9, he9, hr9⟩ := seen_reads hs
  injection he9 with he9 _ _
  subst he9
  have RB := Lib.hid hr9
  have P1 := Lib.hid (P0.out.below b1)
  have B1 := Lib.hid b1
  clear hs hO b1 hr9 j3
  go_wp2_with fail
  refine (ints_same _ _ np _ _ (pgL A0) w1 HN.out.symm (by omega) RB.out P1.out.reads).mono ?_
  rintro e w2 ⟨rfl, kk, rfl⟩
  have B2 := Lib.hid (B1.out.trans ((drewB (Below.refl w1.heap.size w1) kk).mono B1.out.size))
  clear RB P1 B1
  generalize w1.drewN kk = w2 at *
  go_wp2_with fail
  go_loopw [9] (fun c wr => ∃ k : Nat, c = .int .i64 k ∧ k ≤ np ∧ Below w.heap.size w wr) (fun c _ => np - (intOf c).toNat)
  case atStart => exact ⟨0, rfl, Nat.zero_le _, B2.out⟩
  case round =>
    obtain ⟨k, rfl, hk, hB⟩ := hrel
    have B3' := Lib.hid hB
    clear hB B2
    by_cases hlt : k < np
    · obtain ⟨p, hkp⟩ : ∃ p, (pgL A0)[k]? = some p := ⟨(pgL A0)[k]'(by have := HN.out; omega), List.getElem?_eq_getElem _⟩
      obtain ⟨hp, q0', hq0⟩ := pgL_mem hkp
      obtain ⟨h1, h2⟩ := HA.out p hp
      obtain ⟨q, hq⟩ : ∃ q, told A p = some q := by
        rw [hq0] at h1
        exact Option.isSome_iff_exists.1 h1
      have hsame := h2 q0' q hq0 hq
      have bd := (drewB (Below.refl wr.heap.size wr) 1)
      obtain ⟨b, rfl, hbl, _, _, hcell⟩ := (P0.out.below B3'.out) (by have := HN.out; omega)
      have kc := hcell k p hkp
      obtain ⟨bo, rfl, hbo, _, _, hent⟩ := (E0.out.below B3'.out) (by have := HN.out; omega)
      have EN := Lib.hid (hent k p q0' hkp hq0)
      have EL := Lib.hid hbo
      have DQ := Lib.hid ((D0.out.below B3'.out).below bd)
      have KQ := Lib.hid ((bd.cell (p := ⟨b, k, none⟩) hbl).trans kc)
      have BW := Lib.hid (B3'.out.trans (bd.mono B3'.out.size))
      have EO := Lib.hid bd
      have HQ := Lib.hid hq
      have HS := Lib.hid hsame
      change Hid (Wd _ _ _ wr.drew _ _) at DQ
      change Hid (wr.drew.cell? _ = _) at KQ
      change Hid (Below _ _ wr.drew) at BW
      change Hid (Below _ _ wr.drew) at EO
      clear hkp hq0 hq h1 h2 hsame bd hcell kc hent hbo hbl B3'
      go_wp2_with fail
      refine wp_region_held_drew (S := fun w' => w'.cell? ⟨g, 3, none⟩ = some (.pointer (some ⟨L.s, 0, none⟩)) ∧ w'.cell? ⟨b, k, none⟩ = some (.int .i64 (p : Int))) (by kernel_rfl) ⟨DQ.out.c.2.2.2, KQ.out⟩ (fun hHeld => ?_)
      generalize World.drew _ = q0 at *
      refine wpAnyH_take (i := 0) (oi := ⟨some 34, _, _, _, _, _⟩) (v := (.pointer (some ⟨g, 0, none⟩))) rfl (by kernel_rfl) (by kernel_rfl) (by kernel_rfl) (fun _ _ _ h => h) (y_run (by kernel_rfl) (fun _ => by kernel_rfl)) hHeld ?_
      try simp only [Act.put, List.setIfInBounds_toArray, List.set_cons_zero, List.set_cons_succ]
      refine wpAnyH_take (i := 1) (oi := ⟨some 35, _, _, _, _, _⟩) (v := (.pointer (some ⟨g, 0, none⟩))) rfl (by kernel_rfl) (by kernel_rfl) (by kernel_rfl) (fun _ _ _ h => h) (y_run (by kernel_rfl) (fun _ => by kernel_rfl)) hHeld ?_
      try simp only [Act.put, List.setIfInBounds_toArray, List.set_cons_zero, List.set_cons_succ]
      refine wpAnyH_take (i := 2) (oi := ⟨some 36, _, _, _, _, _⟩) (v := (.pointer (some ⟨g, 3, none⟩))) rfl (by kernel_rfl) (by kernel_rfl) (by kernel_rfl) (fun _ _ _ h => h) (y_run (by kernel_rfl) (fun _ => by kernel_rfl)) hHeld ?_
      try simp only [Act.put, List.setIfInBounds_toArray, List.set_cons_zero, List.set_cons_succ]
      refine wpAnyH_take (i := 3) (oi := ⟨some 37, _, _, _, _, _⟩) (v := (.pointer (some ⟨L.s, 0, none⟩))) rfl (by kernel_rfl) (by kernel_rfl) (by kernel_rfl) (fun _ _ _ h => h) (y_sp (g) 3 (some ⟨L.s, 0, none⟩) (.tmp 36) (by kernel_rfl) (fun _ h => h.1) rfl rfl) hHeld ?_
      try simp only [Act.put, List.setIfInBounds_toArray, List.set_cons_zero, List.set_cons_succ]
      refine wpAnyH_take (i := 4) (oi := ⟨some 38, _, _, _, _, _⟩) (v := (.slice (some ⟨b, 0, none⟩) np cp)) rfl (by kernel_rfl) (by kernel_rfl) (by kernel_rfl) (fun _ _ _ h => h) (y_run (by kernel_rfl) (fun _ => by kernel_rfl)) hHeld ?_
      try simp only [Act.put, List.setIfInBounds_toArray, List.set_cons_zero, List.set_cons_succ]
      refine wpAnyH_take (i := 5) (oi := ⟨some 39, _, _, _, _, _⟩) (v := (.int .i64 (k : Int))) rfl (by kernel_rfl) (by kernel_rfl) (by kernel_rfl) (fun _ _ _ h => h) (y_run (by kernel_rfl) (fun _ => by kernel_rfl)) hHeld ?_
      try simp only [Act.put, List.setIfInBounds_toArray, List.set_cons_zero, List.set_cons_succ]
      refine wpAnyH_take (i := 6) (oi := ⟨some 40, _, _, _, _, _⟩) (v := (.pointer (some ⟨b, k, none⟩))) rfl (by kernel_rfl) (by kernel_rfl) (by kernel_rfl) (fun _ _ _ h => h) (y_run (by kernel_rfl) (fun _ => by go_simp)) hHeld ?_
      try simp only [Act.put, List.setIfInBounds_toArray, List.set_cons_zero, List.set_cons_succ]
      refine wpAnyH_take (i := 7) (oi := ⟨some 41, _, _, _, _, _⟩) (v := (.int .i64 (p : Int))) rfl (by kernel_rfl) (by kernel_rfl) (by kernel_rfl) (fun _ _ _ h => h) (y_int (b) k (p) (.tmp 40) (by kernel_rfl) (fun _ h => h.2) rfl rfl) hHeld ?_
      try simp only [Act.put, List.setIfInBounds_toArray, List.set_cons_zero, List.set_cons_succ]
      refine wpAnyH_ready (rs := [8, 12]) (by kernel_rfl) (by simp) ?_
      refine AllReadyH.cons (o := ⟨some 42, .call _, _, _, _, _⟩) rfl (fun K hK => ?_) (AllReadyH.cons (o := ⟨some 10, .alloc _, _, _, _, _⟩) rfl (fun K hK => ?_) AllReadyH.nil)
      focus
        go_simp
        refine (look_some p q _ DQ.out.st HR.out hp HQ.out).mono ?_
        rintro e q2 ⟨rfl, b2⟩
        have B2 := Lib.hid b2
        refine hK.out _ _ ⟨(DQ.out.below B2.out).c.2.2.2, (B2.out.cell (p := ⟨b, k, none⟩) (World.block_lt_of_cell? _ _ KQ.out)).trans KQ.out⟩ (fun hHeld => ?_)
        clear hK K
        try simp only [Act.put, List.setIfInBounds_toArray, List.set_cons_zero, List.set_cons_succ]
        refine wpAnyH_take (i := 9) (oi := ⟨some 33, _, _, _, _, _⟩) (v := (.tuple #[.agg #[.bool true, .bool q.W, .bool q.X, .bool q.B, .int .i64 (q.F : Int)], .bool true])) rfl (by kernel_rfl) (by kernel_rfl) (by kernel_rfl) (fun _ _ _ h => h) (y_run (by kernel_rfl) (fun _ => by kernel_rfl)) hHeld ?_
        try simp only [Act.put, List.setIfInBounds_toArray, List.set_cons_zero, List.set_cons_succ]
        refine wpAnyH_take (i := 10) (oi := ⟨some 43, _, _, _, _, _⟩) (v := (.agg #[.bool true, .bool q.W, .bool q.X, .bool q.B, .int .i64 (q.F : Int)])) rfl (by kernel_rfl) (by kernel_rfl) (by kernel_rfl) (fun _ _ _ h => h) (y_run (by kernel_rfl) (fun _ => by kernel_rfl)) hHeld ?_
        try simp only [Act.put, List.setIfInBounds_toArray, List.set_cons_zero, List.set_cons_succ]
        refine wpAnyH_take (i := 11) (oi := ⟨some 44, _, _, _, _, _⟩) (v := (.bool true)) rfl (by kernel_rfl) (by kernel_rfl) (by kernel_rfl) (fun _ _ _ h => h) (y_run (by kernel_rfl) (fun _ => by kernel_rfl)) hHeld ?_
        try simp only [Act.put, List.setIfInBounds_toArray, List.set_cons_zero, List.set_cons_succ]
        refine wpAnyH_ready (rs := [12]) (by kernel_rfl) (by simp) ?_
        refine AllReadyH.cons (o := ⟨some 10, .alloc _, _, _, _, _⟩) rfl (fun K hK => ?_) AllReadyH.nil
        go_simp
        have Y14 := Lib.hid (Tl.Lay.new q2 53 [.bool false, .bool false, .bool false, .bool false, .int .i64 0])
        have B3 := Lib.hid (B2.out.alloc B2.out.size (.cells #[.bool false, .bool false, .bool false, .bool false, .int .i64 0] 53))
        refine hK.out _ _ ⟨(DQ.out.below B3.out).c.2.2.2, (B3.out.cell (p := ⟨b, k, none⟩) (World.block_lt_of_cell? _ _ KQ.out)).trans KQ.out⟩ (fun hHeld => ?_)
        clear hK K
        try simp only [Act.put, List.setIfInBounds_toArray, List.set_cons_zero, List.set_cons_succ]
        obtain ⟨bh, hbh⟩ : ∃ b, b = q2.heap.size := ⟨_, rfl⟩
        have N14 := Lib.hid (show q0.heap.size ≤ bh by rw [hbh]; exact B2.out.size)
        rw [← hbh] at Y14 ⊢
        clear hbh
        clear B2 b2
        generalize q2.alloc (.cells #[.bool false, .bool false, .bool false, .bool false, .int .i64 0] 53) = q3 at *
        have yl := Y14.out.lt
        have y0 := Y14.out.cell 0
        have y1 := Y14.out.cell 1
        have y2' := Y14.out.cell 2
        have y3 := Y14.out.cell 3
        have y4 := Y14.out.cell 4
        have g0 := Y14.out.free 0
        have g1 := Y14.out.free 1
        have g2 := Y14.out.free 2
        have g3 := Y14.out.free 3
        have g4 := Y14.out.free 4
        simp only [List.getElem?_cons_zero, List.getElem?_cons_succ] at y0 y1 y2' y3 y4
        have B4 := Lib.hid (below5 B3.out N14.out (.bool true) (.bool q.W) (.bool q.X) (.bool q.B) (.int .i64 (q.F : Int)))
        have H4 := Lib.hid (lay5 Y14.out (.bool true) (.bool q.W) (.bool q.X) (.bool q.B) (.int .i64 (q.F : Int)))
        refine wpAnyH_ready (rs := [13]) (by kernel_rfl) (by simp) ?_
        refine AllReadyH.cons (o := ⟨none, .store _ _ _, _, _, _, _⟩) rfl (fun K hK => ?_) AllReadyH.nil
        go_simp
        refine hK.out _ _ ⟨(DQ.out.below B4.out).c.2.2.2, (B4.out.cell (p := ⟨b, k, none⟩) (World.block_lt_of_cell? _ _ KQ.out)).trans KQ.out⟩ (fun hHeld => ?_)
        clear hK K yl y0 y1 y2' y3 y4 g0 g1 g2 g3 g4 Y14 B3
        try simp only [Act.put, List.setIfInBounds_toArray, List.set_cons_zero, List.set_cons_succ]
        refine wpAnyH_take (i := 14) (oi := ⟨some 11, .assign (.tmp 44), _, _, _, _⟩) (v := (.bool true)) rfl (by kernel_rfl) (by kernel_rfl) (by kernel_rfl) (fun _ _ _ h => h) (y_run (by kernel_rfl) (fun _ => by kernel_rfl)) hHeld ?_
        try simp only [Act.put, List.setIfInBounds_toArray, List.set_cons_zero, List.set_cons_succ]
        refine wpAnyH_done (by kernel_rfl) ?_ _
        have BQ := Lib.hid B4.out
        have H9 := Lib.hid (show Tl.Lay _ _ 53 [.bool true, .bool q.W, .bool q.X, .bool q.B, .int .i64 (q.F : Int)] from H4.out)
        have NB9 := Lib.hid N14.out
        clear hHeld B4 H4 N14
        generalize (((((q3.setCell ⟨bh, 0, none⟩ (.bool true)).setCell ⟨bh, 1, none⟩ (.bool q.W)).setCell ⟨bh, 2, none⟩ (.bool q.X)).setCell ⟨bh, 3, none⟩ (.bool q.B)).setCell ⟨bh, 4, none⟩ (.int .i64 (q.F : Int))) = q9 at *
      rotate_left
      focus
        go_simp
        have Y14 := Lib.hid (Tl.Lay.new q0 53 [.bool false, .bool false, .bool false, .bool false, .int .i64 0])
        have B3 := Lib.hid ((Below.refl q0.heap.size q0).alloc (Below.refl q0.heap.size q0).size (.cells #[.bool false, .bool false, .bool false, .bool false, .int .i64 0] 53))
        refine hK.out _ _ ⟨(DQ.out.below B3.out).c.2.2.2, (B3.out.cell (p := ⟨b, k, none⟩) (World.block_lt_of_cell? _ _ KQ.out)).trans KQ.out⟩ (fun hHeld => ?_)
        clear hK K
        try simp only [Act.put, List.setIfInBounds_toArray, List.set_cons_zero, List.set_cons_succ]
        obtain ⟨bh, hbh⟩ : ∃ b, b = q0.heap.size := ⟨_, rfl⟩
        have N14 := Lib.hid (show q0.heap.size ≤ bh by rw [hbh]; exact (Below.refl q0.heap.size q0).size)
        rw [← hbh] at Y14 ⊢
        clear hbh
        have Y13 := Y14
        have B1' := B3
        clear Y14 B3
        refine wpAnyH_ready (rs := [8]) (by kernel_rfl) (by simp) ?_
        refine AllReadyH.cons (o := ⟨some 42, .call _, _, _, _, _⟩) rfl (fun K hK => ?_) AllReadyH.nil
        go_simp
        refine (look_some p q _ (DQ.out.below B1'.out).st HR.out hp HQ.out).mono ?_
        rintro e q3 ⟨rfl, b2⟩
        have B3 := Lib.hid (B1'.out.trans (b2.mono B1'.out.size))
        have Y14 := Lib.hid (Y13.out.kept (Only.of b2 []) (by simp))
        refine hK.out _ _ ⟨(DQ.out.below B3.out).c.2.2.2, (B3.out.cell (p := ⟨b, k, none⟩) (World.block_lt_of_cell? _ _ KQ.out)).trans KQ.out⟩ (fun hHeld => ?_)
        clear hK K b2 Y13 B1'
        try simp only [Act.put, List.setIfInBounds_toArray, List.set_cons_zero, List.set_cons_succ]
        refine wpAnyH_take (i := 9) (oi := ⟨some 33, _, _, _, _, _⟩) (v := (.tuple #[.agg #[.bool true, .bool q.W, .bool q.X, .bool q.B, .int .i64 (q.F : Int)], .bool true])) rfl (by kernel_rfl) (by kernel_rfl) (by kernel_rfl) (fun _ _ _ h => h) (y_run (by kernel_rfl) (fun _ => by kernel_rfl)) hHeld ?_
        try simp only [Act.put, List.setIfInBounds_toArray, List.set_cons_zero, List.set_cons_succ]
        refine wpAnyH_take (i := 10) (oi := ⟨some 43, _, _, _, _, _⟩) (v := (.agg #[.bool true, .bool q.W, .bool q.X, .bool q.B, .int .i64 (q.F : Int)])) rfl (by kernel_rfl) (by kernel_rfl) (by kernel_rfl) (fun _ _ _ h => h) (y_run (by kernel_rfl) (fun _ => by kernel_rfl)) hHeld ?_
        try simp only [Act.put, List.setIfInBounds_toArray, List.set_cons_zero, List.set_cons_succ]
        refine wpAnyH_take (i := 11) (oi := ⟨some 44, _, _, _, _, _⟩) (v := (.bool true)) rfl (by kernel_rfl) (by kernel_rfl) (by kernel_rfl) (fun _ _ _ h => h) (y_run (by kernel_rfl) (fun _ => by kernel_rfl)) hHeld ?_
        try simp only [Act.put, List.setIfInBounds_toArray, List.set_cons_zero, List.set_cons_succ]
        have yl := Y14.out.lt
        have y0 := Y14.out.cell 0
        have y1 := Y14.out.cell 1
        have y2' := Y14.out.cell 2
        have y3 := Y14.out.cell 3
        have y4 := Y14.out.cell 4
        have g0 := Y14.out.free 0
        have g1 := Y14.out.free 1
        have g2 := Y14.out.free 2
        have g3 := Y14.out.free 3
        have g4 := Y14.out.free 4
        simp only [List.getElem?_cons_zero, List.getElem?_cons_succ] at y0 y1 y2' y3 y4
        have B4 := Lib.hid (below5 B3.out N14.out (.bool true) (.bool q.W) (.bool q.X) (.bool q.B) (.int .i64 (q.F : Int)))
        have H4 := Lib.hid (lay5 Y14.out (.bool true) (.bool q.W) (.bool q.X) (.bool q.B) (.int .i64 (q.F : Int)))
        refine wpAnyH_ready (rs := [13]) (by kernel_rfl) (by simp) ?_
        refine AllReadyH.cons (o := ⟨none, .store _ _ _, _, _, _, _⟩) rfl (fun K hK => ?_) AllReadyH.nil
        go_simp
        refine hK.out _ _ ⟨(DQ.out.below B4.out).c.2.2.2, (B4.out.cell (p := ⟨b, k, none⟩) (World.block_lt_of_cell? _ _ KQ.out)).trans KQ.out⟩ (fun hHeld => ?_)
        clear hK K yl y0 y1 y2' y3 y4 g0 g1 g2 g3 g4 Y14 B3
        try simp only [Act.put, List.setIfInBounds_toArray, List.set_cons_zero, List.set_cons_succ]
        refine wpAnyH_take (i := 14) (oi := ⟨some 11, .assign (.tmp 44), _, _, _, _⟩) (v := (.bool true)) rfl (by kernel_rfl) (by kernel_rfl) (by kernel_rfl) (fun _ _ _ h => h) (y_run (by kernel_rfl) (fun _ => by kernel_rfl)) hHeld ?_
        try simp only [Act.put, List.setIfInBounds_toArray, List.set_cons_zero, List.set_cons_succ]
        refine wpAnyH_done (by kernel_rfl) ?_ _
        have BQ := Lib.hid B4.out
        have H9 := Lib.hid (show Tl.Lay _ _ 53 [.bool true, .bool q.W, .bool q.X, .bool q.B, .int .i64 (q.F : Int)] from H4.out)
        have NB9 := Lib.hid N14.out
        clear hHeld B4 H4 N14
        generalize (((((q3.setCell ⟨bh, 0, none⟩ (.bool true)).setCell ⟨bh, 1, none⟩ (.bool q.W)).setCell ⟨bh, 2, none⟩ (.bool q.X)).setCell ⟨bh, 3, none⟩ (.bool q.B)).setCell ⟨bh, 4, none⟩ (.int .i64 (q.F : Int))) = q9 at *
      all_goals
        have i1 := H9.out.cell 1
        have i2 := H9.out.cell 2
        have i4 := H9.out.cell 4
        simp only [List.getElem?_cons_zero, List.getElem?_cons_succ] at i1 i2 i4
        have kq := (BQ.out.cell (p := ⟨b, k, none⟩) (World.block_lt_of_cell? _ _ KQ.out)).trans KQ.out
        have lq := Nat.lt_of_lt_of_le EL.out EO.out.size
        have o4 := ((BQ.out.cell (p := ⟨bo, k * 5 + 4, none⟩) lq).trans (EO.out.cell (p := ⟨bo, k * 5 + 4, none⟩) EL.out)).trans (EN.out 4 (by decide))
        have o1 := ((BQ.out.cell (p := ⟨bo, k * 5 + 1, none⟩) lq).trans (EO.out.cell (p := ⟨bo, k * 5 + 1, none⟩) EL.out)).trans (EN.out 1 (by decide))
        have o2 := ((BQ.out.cell (p := ⟨bo, k * 5 + 2, none⟩) lq).trans (EO.out.cell (p := ⟨bo, k * 5 + 2, none⟩) EL.out)).trans (EN.out 2 (by decide))
        simp only [encT, List.getElem?_cons_zero, List.getElem?_cons_succ] at o1 o2 o4
        have BE := Lib.hid (BW.out.trans (BQ.out.mono BW.out.size))
        have EB : ∀ b : Bool, (b != b) = false := fun b => by cases b <;> rfl
        clear lq BQ H9 NB9 EN EL EO DQ KQ BW
        by_cases hpb : (p : Int) = but
        · have d : ((p : Int) != but) = false := by simpa using hpb
          clear hpb o1 o2 o4 i1 i2 i4
          go_wp2_with fail
          go_quiet (fail)
          go_wp2_with fail
          go_roundw
          case rel => exact ⟨k + 1, by go_num, by omega, drewB BE.out _⟩
          case measure => simp only [intOf, Int.toNat_natCast]; omega
        · obtain ⟨eW, eX, eF⟩ := HS.out hpb
          have d : ((p : Int) != but) = true := by simpa using hpb
          rw [← eW] at o1
          rw [← eX] at o2
          rw [← eF] at o4
          clear hpb eW eX eF
          go_wp2_with fail
          go_quiet (fail)
          go_wp2_with fail
          go_roundw
          case rel => exact ⟨k + 1, by go_num, by omega, drewB BE.out _⟩
          case measure => simp only [intOf, Int.toNat_natCast]; omega
    · obtain rfl : k = np := by omega
      go_wp2_with fail
      go_ret
      exact ⟨rfl, B3'.out⟩
end St
end Go.Proofs.Ytiiggmfindfkfaa
