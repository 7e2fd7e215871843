/-
  What stage's single does. Conditions: that a space lies there that tells its pages, and that each argument is of its Go type.
-/
import Derived.Test.YtiiggmfindfkfaaGreatStDo
namespace Go.Proofs.YtiiggmfindfkfaaGreat
open Go.RowKit Nt
namespace St
open Ph En Wk
variable {L : Loc} {v : Value} {x : Pl} {A : Nat → Fst}
theorem slot_below (t i : Nat) (w : World) (ht : t < 65536) (hi : i < 64) : Calls Tryz.prog 59 #[.int .i64 t, .int .i64 i] w fun E w' => E = .returned (.int .u32 ((256 * t + 4 * i : Nat) : Int)) ∧ Below w.heap.size w w' :=
  (slot_any t i w ht hi).mono fun _ _ h => ⟨h.1, by rw [← h.2]; exact Below.refl _ _⟩
theorem look_none (p : Nat) (w : World) (hS : St L w v x) (hR : Rep L.n x A) (hp : p < 4096) (hT : told A p = none) :
    Calls Tryz.prog 25 #[.pointer (some ⟨L.s, 0, none⟩), .int .i64 p] w fun e w' => e = .returned (.tuple #[.agg #[.bool false, .bool false, .bool false, .bool false, .int .i64 0], .bool false]) ∧ Below w.heap.size w w' :=
  look_any p _ _ _ _ _ _ w hS hR.live (by rw [look_rep hR p hp, hT]; rfl)
theorem look_some (p : Nat) (q : Tp) (w : World) (hS : St L w v x) (hR : Rep L.n x A) (hp : p < 4096) (hT : told A p = some q) :
    Calls Tryz.prog 25 #[.pointer (some ⟨L.s, 0, none⟩), .int .i64 p] w fun e w' => e = .returned (.tuple #[.agg #[.bool true, .bool q.W, .bool q.X, .bool q.B, .int .i64 q.F], .bool true]) ∧ Below w.heap.size w w' :=
  look_any p _ _ _ _ _ _ w hS hR.live (by rw [look_rep hR p hp, hT]; rfl)
theorem single_range (p : Int) (w : World) (hp : ¬ (0 ≤ p ∧ p < 4096)) : Calls Tryz.prog 63 #[.pointer (some ⟨L.s, 0, none⟩), .int .i64 p] w fun E w' => E = panE 11 ∧ w = w' := by
  go_enter Tryz.func63, Tryz.ntmps63
  go_wp2_with fail
  refine (indexes_no p w hp).mono ?_
  rintro e w1 ⟨rfl, rfl⟩
  unfold panE
  exact ⟨rfl, rfl, rfl⟩
theorem single_none (p : Nat) (w : World) (hS : St L w v x) (hR : Rep L.n x A) (hp : p < 4096) (hT : told A p = none) :
    Calls Tryz.prog 63 #[.pointer (some ⟨L.s, 0, none⟩), .int .i64 p] w fun E w' => E = panE 12 ∧ Below w.heap.size w w' := by
  have HS := Lib.hid hS
  have HR := Lib.hid hR
  have HT := Lib.hid hT
  clear hS hR hT
  go_enter Tryz.func63, Tryz.ntmps63
  go_wp2_with fail
  refine (indexes_yes p w hp).mono ?_
  rintro e w1 ⟨rfl, k1, rfl⟩
  have bd := drewB (Below.refl w.heap.size w) k1
  have S1 := Lib.hid (HS.out.below bd)
  have B1 := Lib.hid bd
  clear bd HS
  generalize w.drewN k1 = u1 at *
  go_wp2_with fail
  refine (look_none p u1 S1.out HR.out hp HT.out).mono ?_
  rintro e w2 ⟨rfl, b2⟩
  have B2 := Lib.hid ((B1.out.trans (b2.mono B1.out.size)).alloc (Nat.le_trans B1.out.size b2.size) (.cells #[.bool false, .bool false, .bool false, .bool false, .int .i64 0] 62))
  clear b2 S1 B1
  go_wp2_with (go_at_call 56; refine (need_no _ _).mono ?_; rintro e w' ⟨rfl, rfl⟩; unfold panE)
  exact ⟨rfl, rfl, B2.out⟩
/-- Where nothing was there to be broken up. -/
theorem single_tab (p t : Nat) (pg : Pgs) (bw be : Bool) (F : Nat) (w : World) (hS : St L w v x) (hR : Rep L.n x A) (hp : p < 4096) (hA : A (p / 64) = .tab t pg) (hg : pg (p % 64) = some (bw, be, F)) :
    Calls Tryz.prog 63 #[.pointer (some ⟨L.s, 0, none⟩), .int .i64 p] w fun E w' => E = .returned (.tuple #[.int .i64 ((p / 64 : Nat) : Int), .int .u32 ((256 * t + 4 * (p % 64) : Nat) : Int), .int .i64 F]) ∧ Below w.heap.size w w' := by
  have hi : p / 64 < 64 := by omega
  have hj : p % 64 < 64 := by omega
  obtain ⟨htn, _, _, _⟩ := hR.tabAt hi hA
  have hf := hR.few
  have HT := Lib.hid (show told A p = some ⟨bw, be, F, false⟩ by unfold told Fst.told; rw [hA]; simp only [hg])
  have HE := Lib.hid (show entOf (A (p / 64)).W = ⟨true, false, false, false, t⟩ by rw [hA]; exact entOf_lw _ _ _ (by omega) (by omega))
  have HS := Lib.hid hS
  have HR := Lib.hid hR
  have ff := fieldF
  obtain ⟨i, ei⟩ : ∃ i, i = p / 64 := ⟨_, rfl⟩
  obtain ⟨j, ej⟩ : ∃ j, j = p % 64 := ⟨_, rfl⟩
  have HI := Lib.hid (And.intro ei ej)
  rw [← ei] at hi HE ⊢
  rw [← ej] at hj ⊢
  clear hS hR hA hg ei ej
  go_enter Tryz.func63, Tryz.ntmps63
  go_wp2_with fail
  refine (indexes_yes p w hp).mono ?_
  rintro e w1 ⟨rfl, k1, rfl⟩
  rw [← HI.out.1, ← HI.out.2]
  have bd := drewB (Below.refl w.heap.size w) k1
  have S1 := Lib.hid (HS.out.below bd)
  have B1 := Lib.hid bd
  clear bd HS
  generalize w.drewN k1 = u1 at *
  go_wp2_with fail
  refine (look_some p ⟨bw, be, F, false⟩ u1 S1.out HR.out hp HT.out).mono ?_
  rintro e w2 ⟨rfl, b2⟩
  have B2 := Lib.hid ((B1.out.trans (b2.mono B1.out.size)).alloc (Nat.le_trans B1.out.size b2.size) (.cells #[.bool true, .bool bw, .bool be, .bool false, .int .i64 F] 62))
  have S2 := Lib.hid ((S1.out.below b2).alloc (.cells #[.bool true, .bool bw, .bool be, .bool false, .int .i64 F] 62))
  have Y2 := Lib.hid (Tl.Lay.new w2 62 [.bool true, .bool bw, .bool be, .bool false, .int .i64 F])
  clear b2 S1 B1
  go_wp2_with (go_at_call 56; refine (need_yes _ _).mono ?_; rintro e w' ⟨rfl, rfl⟩)
  generalize w2.heap.size = bx at *
  generalize w2.alloc (.cells #[.bool true, .bool bw, .bool be, .bool false, .int .i64 F] 62) = u2 at *
  have y4 := Y2.out.cell 4
  simp only [List.getElem?_cons_zero, List.getElem?_cons_succ] at y4
  have k4 := cell_regrown y4
  have FR := fun d os => first_rep i (Go.Sort.grow (redrawn u2 d) os) (S2.out.below (below_regrown u2 d os)) HR.out hi _ _ _ _ _ HE.out
  have FH := Lib.hid FR
  clear FR
  refine wp_region_quiet_below (by kernel_rfl) (by kernel_rfl) ?_
  repeat (quiet_step (first | (go_at_call 57; with_reducible exact Calls.regrown_of (FH.out _ _)) | (go_at_call 59; with_reducible exact Calls.regrown_of (slot_below t j _ (by omega) hj))))
  refine wpQuiet_nil ?_
  intro _ hw'
  obtain ⟨⟨dq, osq⟩, hw''⟩ := hw'
  subst hw''
  have hb4 := below_regrown u2 dq osq
  have B4 := Lib.hid (B2.out.trans (hb4.mono B2.out.size))
  clear k4 y4 hb4 S2 Y2 B2 FH
  generalize Go.Sort.grow (redrawn u2 _) _ = w4 at *
  go_wp2
  refine bodyPost_ret (v := .tuple #[.int .i64 (i : Int), .int .u32 ((256 * t + 4 * j : Nat) : Int), .int .i64 F]) (by simp [results, Tryz.results63, go_sem]) rfl ⟨rfl, ?_⟩
  exact B4.out
theorem ret_tup {a b : Array Value} (h : a = b) : Ending.returned (.tuple a) = .returned (.tuple b) := by rw [h]
/-- Where a block is broken up. -/
theorem single_blk (p t : Nat) (bw be : Bool) (F : Nat) (w : World) (hS : St L w v x) (hR : Rep L.n x A) (hl : x.log = []) (hp : p < 4096) (hA : A (p / 64) = .blk bw be F) (hs : Fr.spot 1 x.os = some t) :
    Calls Tryz.prog 63 #[.pointer (some ⟨L.s, 0, none⟩), .int .i64 p] w (Fin L v w (.tuple #[.int .i64 ((p / 64 : Nat) : Int), .int .u32 ((256 * t + 4 * (p % 64) : Nat) : Int), .int .i64 ((F + p % 64 : Nat) : Int)]) (bup L.n L.vm x (p / 64) t bw be F)) := by
  have hi : p / 64 < 64 := by omega
  have hj : p % 64 < 64 := by omega
  have hf := hR.few
  have ht := spot1 hs
  have hl0 : x.log.length ≤ 100 := by rw [hl]; simp
  obtain ⟨r1, _, _, _⟩ := bup_rep (vm := L.vm) hR hl hi hA ht
  have htn : t < L.n := by have := (hR.took ht).2.1; exact this
  have HT := Lib.hid (show told A p = some ⟨bw, be, F + p % 64, true⟩ by unfold told Fst.told; rw [hA])
  have HE := Lib.hid (show entOf (setA A (p / 64) (.tab t (blkPg bw be F)) (p / 64)).W = ⟨true, false, false, false, t⟩ by rw [setA_at]; exact entOf_lw _ _ _ (by omega) (by omega))
  have HS := Lib.hid hS
  have HR := Lib.hid hR
  have HR1 := Lib.hid r1
  have HA := Lib.hid hA
  have HP := Lib.hid hs
  have HX := Lib.hid ht
  have ff := fieldF
  obtain ⟨i, ei⟩ : ∃ i, i = p / 64 := ⟨_, rfl⟩
  obtain ⟨j, ej⟩ : ∃ j, j = p % 64 := ⟨_, rfl⟩
  have HI := Lib.hid (And.intro ei ej)
  rw [← ei] at hi HE HR1 HA ⊢
  rw [← ej] at hj HT ⊢
  obtain ⟨G, eG⟩ : ∃ G, G = F + j := ⟨_, rfl⟩
  rw [← eG] at HT ⊢
  clear hS hR hA ei ej r1 hs ht hl eG
  go_enter Tryz.func63, Tryz.ntmps63
  go_wp2_with fail
  refine (indexes_yes p w hp).mono ?_
  rintro e w1 ⟨rfl, k1, rfl⟩
  rw [← HI.out.1, ← HI.out.2]
  have bd := drewB (Below.refl w.heap.size w) k1
  have S1 := Lib.hid (HS.out.below bd)
  have O1 := Lib.hid (Only.of bd L.S)
  clear bd HS
  generalize w.drewN k1 = u1 at *
  go_wp2_with fail
  refine (look_some p ⟨bw, be, G, true⟩ u1 S1.out HR.out hp HT.out).mono ?_
  rintro e w2 ⟨rfl, b2⟩
  have O2 := Lib.hid ((O1.out.trans (Only.of b2 L.S)).trans (Only.alloc L.S w2 (.cells #[.bool true, .bool bw, .bool be, .bool true, .int .i64 (G : Int)] 62)))
  have S2 := Lib.hid ((S1.out.below b2).alloc (.cells #[.bool true, .bool bw, .bool be, .bool true, .int .i64 (G : Int)] 62))
  have Y2 := Lib.hid (Tl.Lay.new w2 62 [.bool true, .bool bw, .bool be, .bool true, .int .i64 (G : Int)])
  have X2 := Lib.hid (show (∀ k ∈ L.all, k < w2.heap.size) ∧ v.ownBlock ≠ some w2.heap.size from ⟨(S1.out.below b2).lts, (S1.out.below b2).off (Nat.le_refl _)⟩)
  clear b2 S1 O1
  go_wp2_with (first | (go_at_call 56; refine (need_yes _ _).mono ?_; rintro e w' ⟨rfl, rfl⟩))
  generalize w2.heap.size = bx at *
  generalize w2.alloc (.cells #[.bool true, .bool bw, .bool be, .bool true, .int .i64 (G : Int)] 62) = u2 at *
  refine (breakUp_yes i t bw be F u2 S2.out HR.out hi HA.out HP.out HX.out hl0).mono ?_
  rintro e w3 ⟨rfl, v3, hS, hP⟩
  have nS : bx ∉ L.S := fun h => by have := X2.out.1 bx (by simp [Loc.S] at h; simp [Loc.all]; omega); omega
  have S3 := Lib.hid hS
  have P3 := Lib.hid ((Hop.of O2.out v).trans hP)
  have Y3 := Lib.hid (hP.lay Y2.out nS X2.out.2)
  clear S2 O2 Y2 X2 hS hP
  go_wp2_with fail
  have y4 := Y3.out.cell 4
  simp only [List.getElem?_cons_zero, List.getElem?_cons_succ] at y4
  have k4 := cell_regrown y4
  have FR := fun d os => first_rep i (Go.Sort.grow (redrawn w3 d) os) (S3.out.below (below_regrown w3 d os)) HR1.out hi _ _ _ _ _ HE.out
  have FH := Lib.hid FR
  clear FR
  refine wp_region_quiet_below (by kernel_rfl) (by kernel_rfl) ?_
  repeat (quiet_step (first | (go_at_call 57; with_reducible exact Calls.regrown_of (FH.out _ _)) | (go_at_call 59; with_reducible exact Calls.regrown_of (slot_below t j _ (by omega) hj))))
  refine wpQuiet_nil ?_
  intro _ hw'
  obtain ⟨⟨dq, osq⟩, hw''⟩ := hw'
  subst hw''
  have hb4 := below_regrown w3 dq osq
  have F4 := Lib.hid (And.intro (S3.out.below hb4) (P3.out.trans (Hop.of (Only.of hb4 L.S) v3)))
  clear k4 y4 hb4 S3 Y3 P3 FH
  generalize Go.Sort.grow (redrawn w3 _) _ = w4 at *
  go_wp2
  refine bodyPost_ret (v := .tuple #[.int .i64 (i : Int), .int .u32 ((256 * t + 4 * j : Nat) : Int), .int .i64 (G : Int)]) (by simp [results, Tryz.results63, go_sem]) rfl ⟨rfl, v3, F4.out.1, F4.out.2⟩
theorem single_full (p : Nat) (bw be : Bool) (F : Nat) (w : World) (hS : St L w v x) (hR : Rep L.n x A) (hp : p < 4096) (hA : A (p / 64) = .blk bw be F) (hs : Fr.spot 1 x.os = none) :
    Calls Tryz.prog 63 #[.pointer (some ⟨L.s, 0, none⟩), .int .i64 p] w fun e w' => e = panE 15 ∧ St L w' v x ∧ Only L.S w w' := by
  have hi : p / 64 < 64 := by omega
  have hj : p % 64 < 64 := by omega
  have HT := Lib.hid (show told A p = some ⟨bw, be, F + p % 64, true⟩ by unfold told Fst.told; rw [hA])
  have HS := Lib.hid hS
  have HR := Lib.hid hR
  have HA := Lib.hid hA
  have HP := Lib.hid hs
  have ff := fieldF
  obtain ⟨i, ei⟩ : ∃ i, i = p / 64 := ⟨_, rfl⟩
  obtain ⟨j, ej⟩ : ∃ j, j = p % 64 := ⟨_, rfl⟩
  have HI := Lib.hid (And.intro ei ej)
  rw [← ei] at hi HA
  rw [← ej] at hj HT
  obtain ⟨G, eG⟩ : ∃ G, G = F + j := ⟨_, rfl⟩
  rw [← eG] at HT
  clear hS hR hA ei ej hs eG
  go_enter Tryz.func63, Tryz.ntmps63
  go_wp2_with fail
  refine (indexes_yes p w hp).mono ?_
  rintro e w1 ⟨rfl, k1, rfl⟩
  rw [← HI.out.1, ← HI.out.2]
  have bd := drewB (Below.refl w.heap.size w) k1
  have S1 := Lib.hid (HS.out.below bd)
  have O1 := Lib.hid (Only.of bd L.S)
  clear bd HS
  generalize w.drewN k1 = u1 at *
  go_wp2_with fail
  refine (look_some p ⟨bw, be, G, true⟩ u1 S1.out HR.out hp HT.out).mono ?_
  rintro e w2 ⟨rfl, b2⟩
  have O2 := Lib.hid ((O1.out.trans (Only.of b2 L.S)).trans (Only.alloc L.S w2 (.cells #[.bool true, .bool bw, .bool be, .bool true, .int .i64 (G : Int)] 62)))
  have S2 := Lib.hid ((S1.out.below b2).alloc (.cells #[.bool true, .bool bw, .bool be, .bool true, .int .i64 (G : Int)] 62))
  clear b2 S1 O1
  go_wp2_with (first | (go_at_call 56; refine (need_yes _ _).mono ?_; rintro e w' ⟨rfl, rfl⟩))
  generalize w2.alloc (.cells #[.bool true, .bool bw, .bool be, .bool true, .int .i64 (G : Int)] 62) = u2 at *
  refine (breakUp_no i bw be F u2 S2.out HR.out hi HA.out HP.out).mono ?_
  rintro e w3 ⟨rfl, hS, hO⟩
  unfold panE
  exact ⟨rfl, rfl, hS, O2.out.trans hO⟩
end St
end Go.Proofs.YtiiggmfindfkfaaGreat
