/-
  What stage's Look and Pages answer. Conditions: that a space lies there that tells its pages, and that each argument is of its Go type.
-/
import Derived.Test.YtiiggmfindfkfaaGreatStYield
namespace Go.Proofs.YtiiggmfindfkfaaGreat
open Go.RowKit Nt
namespace St
open Ph En Wk
variable {L : Loc} {v : Value} {x : Pl} {A : Nat → Fst}
theorem wlook_at (m F n c : Nat) (z : Nat → Int) (root p : Int) (V W X B ok : Bool) (f : Int) (w : World) (hM : Mem w m F n c z) (hE : lookS n z root p = ⟨⟨V, W, X, B, f⟩, ok⟩) :
    Calls Tryz.prog 68 #[.pointer (some ⟨m, 0, none⟩), .int .i64 root, .int .i64 p] w fun e w' => e = .returned (.tuple #[.agg #[.bool V, .bool W, .bool X, .bool B, .int .i64 f], .bool ok]) ∧ Below w.heap.size w w' := by
  have h := Wk.look_any m F n c z root p w hM
  rw [hE] at h
  exact h
set_option maxRecDepth 100000 in
set_option maxHeartbeats 1000000 in
theorem look_any (p : Int) (V W X B ok : Bool) (f : Int) (w : World) (hS : St L w v x) (hg : x.gone = false) (hE : lookS L.n x.z x.root p = ⟨⟨V, W, X, B, f⟩, ok⟩) :
    Calls Tryz.prog 25 #[.pointer (some ⟨L.s, 0, none⟩), .int .i64 p] w fun e w' => e = .returned (.tuple #[.agg #[.bool V, .bool W, .bool X, .bool B, .int .i64 f], .bool ok]) ∧ Below w.heap.size w w' := by
  have hs := hS.lt
  have B0 := Lib.hid ((Below.refl w.heap.size w).alloc (Nat.le_refl _) (.cells #[.bool false, .bool false, .bool false, .bool false, .int .i64 0] 62))
  have S1 := Lib.hid (hS.alloc (.cells #[.bool false, .bool false, .bool false, .bool false, .int .i64 0] 62))
  have Y1 := Lib.hid (Tl.Lay.new w 62 [.bool false, .bool false, .bool false, .bool false, .int .i64 0])
  have c5 := S1.out.c5
  rw [hg] at c5
  have EV := Lib.hid hE
  clear hS hE
  go_enter Tryz.func25, Tryz.ntmps25
  go_wp2_with fail
  generalize w.alloc (.cells #[.bool false, .bool false, .bool false, .bool false, .int .i64 0] 62) = u at *
  have S2 := Lib.hid (S1.out.drewN 1)
  have B2 := Lib.hid (B0.out.trans ((drewB (Below.refl u.heap.size u) 1).mono B0.out.size))
  have Y2 := Lib.hid (Y1.out.kept (Only.drewN [] u 1) (by simp))
  change Hid (St L u.drew v x) at S2
  change Hid (Below w.heap.size w u.drew) at B2
  change Hid (Tl.Lay u.drew _ _ _) at Y2
  have c0 := S1.out.c0
  have c4 := S1.out.c4
  clear S1 B0 Y1 c5
  go_wp2_with fail
  refine wp_region_held_drew (S := fun w' => w'.cell? ⟨L.s, 0, none⟩ = some (.pointer (some ⟨L.m, 0, none⟩)) ∧ w'.cell? ⟨L.s, 4, none⟩ = some (.int .i64 (x.root : Int))) (by kernel_rfl) ⟨S2.out.c0, S2.out.c4⟩ (fun hHeld => ?_)
  clear c0 c4
  generalize u.drew = u1 at *
  refine wpAnyH_take (i := 0) (v := (.pointer (some ⟨L.s, 0, none⟩))) rfl (by kernel_rfl) (by kernel_rfl) (by kernel_rfl) (fun _ _ _ h => h) (y_run (by kernel_rfl) (fun _ => by kernel_rfl)) hHeld ?_
  try simp only [Act.put, List.setIfInBounds_toArray]
  refine wpAnyH_take (i := 1) (v := (.pointer (some ⟨L.s, 0, none⟩))) rfl (by kernel_rfl) (by kernel_rfl) (by kernel_rfl) (fun _ _ _ h => h) (y_run (by kernel_rfl) (fun _ => by kernel_rfl)) hHeld ?_
  try simp only [Act.put]
  refine wpAnyH_take (i := 2) (v := (.pointer (some ⟨L.s, 0, none⟩))) rfl (by kernel_rfl) (by kernel_rfl) (by kernel_rfl) (fun _ _ _ h => h) (y_run (by kernel_rfl) (fun _ => by kernel_rfl)) hHeld ?_
  try simp only [Act.put]
  refine wpAnyH_take (i := 3) (v := (.pointer (some ⟨L.m, 0, none⟩))) rfl (by kernel_rfl) (by kernel_rfl) (by kernel_rfl) (fun _ _ _ h => h) (y_mp L.s 0 (some ⟨L.m, 0, none⟩) (.tmp 13) (by kernel_rfl) (fun _ h => h.1) rfl rfl) hHeld ?_
  try simp only [Act.put]
  refine wpAnyH_take (i := 4) (v := (.pointer (some ⟨L.s, 0, none⟩))) rfl (by kernel_rfl) (by kernel_rfl) (by kernel_rfl) (fun _ _ _ h => h) (y_run (by kernel_rfl) (fun _ => by kernel_rfl)) hHeld ?_
  try simp only [Act.put]
  refine wpAnyH_take (i := 5) (v := (.pointer (some ⟨L.s, 0, none⟩))) rfl (by kernel_rfl) (by kernel_rfl) (by kernel_rfl) (fun _ _ _ h => h) (y_run (by kernel_rfl) (fun _ => by kernel_rfl)) hHeld ?_
  try simp only [Act.put]
  refine wpAnyH_take (i := 6) (v := (.pointer (some ⟨L.s, 4, none⟩))) rfl (by kernel_rfl) (by kernel_rfl) (by kernel_rfl) (fun _ _ _ h => h) (y_run (by kernel_rfl) (fun _ => by kernel_rfl)) hHeld ?_
  try simp only [Act.put]
  refine wpAnyH_take (i := 7) (v := (.int .i64 (x.root : Int))) rfl (by kernel_rfl) (by kernel_rfl) (by kernel_rfl) (fun _ _ _ h => h) (y_int L.s 4 x.root (.tmp 17) (by kernel_rfl) (fun _ h => h.2) rfl rfl) hHeld ?_
  try simp only [Act.put]
  refine wpAnyH_take (i := 8) (v := (.int .i64 p)) rfl (by kernel_rfl) (by kernel_rfl) (by kernel_rfl) (fun _ _ _ h => h) (y_run (by kernel_rfl) (fun _ => by kernel_rfl)) hHeld ?_
  try simp only [Act.put]
  refine wpAnyH_ready (rs := [9]) (by kernel_rfl) (by simp) ?_
  refine AllReadyH.cons (o := ⟨some 20, .call _, _, _, _, _⟩) rfl (fun K hK => ?_) AllReadyH.nil
  go_simp
  refine (wlook_at L.m L.F L.n L.c x.z x.root p V W X B ok f u1 S2.out.mem EV.out).mono ?_
  rintro e w1 ⟨rfl, b1⟩
  have S3 := S2.out.below b1
  have B3 := Lib.hid (B2.out.trans (b1.mono B2.out.size))
  have Y3 := Y2.out.kept (Only.of b1 []) (by simp)
  refine hK.out _ _ ⟨S3.c0, S3.c4⟩ (fun hHeld => ?_)
  clear hK K b1 S2 B2 Y2 S3
  try simp only [Act.put, List.setIfInBounds_toArray, List.set_cons_zero, List.set_cons_succ]
  refine wpAnyH_take (i := 10) (v := (.agg #[.bool V, .bool W, .bool X, .bool B, .int .i64 f])) rfl (by kernel_rfl) (by kernel_rfl) (by kernel_rfl) (fun _ _ _ h => h) (y_run (by kernel_rfl) (fun _ => by kernel_rfl)) hHeld ?_
  try simp only [Act.put, List.setIfInBounds_toArray]
  refine wpAnyH_take (i := 11) (v := (.bool ok)) rfl (by kernel_rfl) (by kernel_rfl) (by kernel_rfl) (fun _ _ _ h => h) (y_run (by kernel_rfl) (fun _ => by kernel_rfl)) hHeld ?_
  try simp only [Act.put]
  have y0 := Y3.cell 0
  have y1 := Y3.cell 1
  have y2 := Y3.cell 2
  have y3 := Y3.cell 3
  have y4 := Y3.cell 4
  have yf := Y3.free
  have g0 := yf 0
  have g1 := yf 1
  have g2 := yf 2
  have g3 := yf 3
  have g4 := yf 4
  have yl := Y3.lt
  simp only [List.getElem?_cons_zero, List.getElem?_cons_succ] at y0 y1 y2 y3 y4
  clear yf Y3
  have hsne : L.s ≠ w.heap.size := by omega
  refine wpAnyH_ready (rs := [12]) (by kernel_rfl) (by simp) ?_
  refine AllReadyH.cons (o := ⟨none, .store _ _ _, _, _, _, _⟩) rfl (fun K hK => ?_) AllReadyH.nil
  go_simp
  refine hK.out _ _ ⟨by simp [World.cell?_setCell_far, Ne.symm hsne, hHeld.1], by simp [World.cell?_setCell_far, Ne.symm hsne, hHeld.2]⟩ (fun hHeld => ?_)
  clear hK K
  try simp only [Act.put, List.setIfInBounds_toArray, List.set_cons_zero, List.set_cons_succ]
  refine wpAnyH_take (i := 13) (oi := ⟨some 5, .assign (.tmp 22), _, _, _, _⟩) (v := (.bool ok)) rfl (by kernel_rfl) (by kernel_rfl) (by kernel_rfl) (fun _ _ _ h => h) (y_run (by kernel_rfl) (fun _ => by kernel_rfl)) hHeld ?_
  try simp only [Act.put, List.setIfInBounds_toArray, List.set_cons_zero, List.set_cons_succ]
  refine wpAnyH_done (by kernel_rfl) ?_ _
  go_wp2
  refine bodyPost_ret (v := .tuple #[.agg #[.bool V, .bool W, .bool X, .bool B, .int .i64 f], .bool ok]) (by simp [results, Tryz.results25, go_sem, *]) rfl ⟨rfl, ?_⟩
  exact below5 B3.out (Nat.le_refl _) _ _ _ _ _
set_option maxRecDepth 100000 in
theorem look_gone (p : Int) (w : World) (hS : St L w v x) (hg : x.gone = true) :
    Calls Tryz.prog 25 #[.pointer (some ⟨L.s, 0, none⟩), .int .i64 p] w fun e w' => e = .returned (.tuple #[.agg #[.bool false, .bool false, .bool false, .bool false, .int .i64 0], .bool false]) ∧ Below w.heap.size w w' := by
  have hs := hS.lt
  have B0 := Lib.hid ((Below.refl w.heap.size w).alloc (Nat.le_refl _) (.cells #[.bool false, .bool false, .bool false, .bool false, .int .i64 0] 62))
  have c5 := (hS.alloc (.cells #[.bool false, .bool false, .bool false, .bool false, .int .i64 0] 62)).c5
  rw [hg] at c5
  clear hS
  go_enter Tryz.func25, Tryz.ntmps25
  go_wp2
  refine bodyPost_ret (v := .tuple #[.agg #[.bool false, .bool false, .bool false, .bool false, .int .i64 0], .bool false]) (by simp [results, Tryz.results25, go_sem, *]) rfl ⟨rfl, ?_⟩
  first | exact B0.out | exact below5 B0.out (Nat.le_refl _) _ _ _ _ _
set_option maxRecDepth 100000 in
theorem pages_any (w : World) (hS : St L w v x) (hg : x.gone = false) :
    Calls Tryz.prog 42 #[.pointer (some ⟨L.s, 0, none⟩)] w (DiffEnd (pagesL L.n x.z x.root 4096) w) := by
  have c5 := hS.c5
  rw [hg] at c5
  have c0 := hS.c0
  have c4 := hS.c4
  have S1 := Lib.hid (hS.drewN 1)
  have O1 := Lib.hid (Only.drewN [] w 1)
  change Hid (St L w.drew v x) at S1
  change Hid (Only [] w w.drew) at O1
  clear hS
  go_enter Tryz.func42, Tryz.ntmps42
  go_wp2_with fail
  refine wp_region_still_tail 8 (by kernel_rfl) (by kernel_rfl) ?_
  simp only [List.take_succ_cons, List.take_zero, List.drop_succ_cons, List.drop_zero]
  change wpStill _ _ w.drew (fun a' => wpList _ _ _ _ a' w.drew) _ _
  repeat still_step
  refine wpStill_nil ?_
  clear c0 c4 c5
  generalize w.drew = u1 at *
  go_wp2_with fail
  refine (Wk.pages_any L.m L.F L.n L.c x.z x.root u1 S1.out.mem).mono ?_
  rintro e w1 ⟨pa, c, rfl, hR, hO⟩
  go_wp2
  go_ret
  exact ⟨pa, c, rfl, hR, O1.out.trans hO⟩
set_option maxRecDepth 100000 in
theorem pages_gone (w : World) (hS : St L w v x) (hg : x.gone = true) :
    Calls Tryz.prog 42 #[.pointer (some ⟨L.s, 0, none⟩)] w fun e w' => e = .returned (.slice none 0 0) ∧ w = w' := by
  have c5 := hS.c5
  rw [hg] at c5
  clear hS
  go_enter Tryz.func42, Tryz.ntmps42
  go_wp2
  go_ret
  exact ⟨rfl, rfl⟩
end St
end Go.Proofs.YtiiggmfindfkfaaGreat
