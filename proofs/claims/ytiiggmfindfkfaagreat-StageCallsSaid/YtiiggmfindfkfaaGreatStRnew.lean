/-
  What the document's own New makes, and what its Tables and the laws' doRef answer and leave. Conditions: that its space lies there, and that each argument is of its Go type.
-/
import Derived.Test.YtiiggmfindfkfaaGreatStRmer
import Derived.Test.YtiiggmfindfkfaaGreatStYield
namespace Go.Proofs.YtiiggmfindfkfaaGreat
open Go.RowKit Nt
namespace St
open Ph En Wk
/-- A space of the document's without pages. -/
def newR (fr : Int) : Rst := ⟨fr, fun _ => 0, fun _ => (0, false, false, false)⟩
theorem infoP : (Tryz.prog.info? 82).map (fun i => (i.zero, i.size, i.bytes)) = some (some (.agg #[.int .i64 0, .bool false, .bool false, .bool false]), 4, 16) := by kernel_rfl
theorem infoI' : (Tryz.prog.info? 3).map (fun i => (i.zero, i.size, i.bytes)) = some (some (.int .i64 0), 1, 8) := by kernel_rfl
theorem made_P (wx : World) : (Instr.makeSlice 77 (.int .i64 4096) (.int .i64 4096)).run Tryz.prog wx = .ok (.slice (some ⟨wx.heap.size, 0, none⟩) 4096 4096) (wx.alloc (.cells (madeCells #[.int .i64 0, .bool false, .bool false, .bool false] 16384) 82)) := by
  obtain ⟨i, hi, hz0, hz1, hz2⟩ := info_parts infoP
  have hr := run_make (P := Tryz.prog) wx 77 82 i _ Tryz.underlying77 hi hz0 .i64 .i64 4096 4096 (by omega) (Int.le_refl _) (by rw [hz2]; omega) (by omega)
  rw [hz1] at hr
  exact hr
theorem made_G (wx : World) : (Instr.makeSlice 42 (.int .i64 64) (.int .i64 64)).run Tryz.prog wx = .ok (.slice (some ⟨wx.heap.size, 0, none⟩) 64 64) (wx.alloc (.cells (madeCells #[.int .i64 0] 64) 3)) := by
  obtain ⟨i, hi, hz0, hz1, hz2⟩ := info_parts infoI'
  have hr := run_make (P := Tryz.prog) wx 42 3 i _ Tryz.underlying42 hi hz0 .i64 .i64 64 64 (by omega) (Int.le_refl _) (by rw [hz2]; omega) (by omega)
  rw [hz1] at hr
  exact hr
theorem cell_P (w : World) (p k : Nat) (hp : p < 4096) (hk : k < 4) : (w.alloc (.cells (madeCells #[.int .i64 0, .bool false, .bool false, .bool false] 16384) 82)).cell? ⟨w.heap.size, p * 4 + k, none⟩ = #[Value.int .i64 0, .bool false, .bool false, .bool false][k]? := by
  rw [World.cell?_alloc_new]
  unfold madeCells
  rw [Array.getElem?_map, Array.getElem?_range, if_pos (by omega)]
  have e : (p * 4 + k) % 4 = k := by omega
  simp only [Option.map_some, List.size_toArray, List.length_cons, List.length_nil]
  rw [show (p * 4 + k) % (0 + 1 + 1 + 1 + 1) = k by omega]
  have : k = 0 ∨ k = 1 ∨ k = 2 ∨ k = 3 := by omega
  rcases this with rfl | rfl | rfl | rfl <;> rfl
theorem cell_G (w : World) (i : Nat) (hi : i < 64) : (w.alloc (.cells (madeCells #[.int .i64 0] 64) 3)).cell? ⟨w.heap.size, i, none⟩ = some (.int .i64 0) := by
  rw [World.cell?_alloc_new]
  unfold madeCells
  rw [Array.getElem?_map, Array.getElem?_range, if_pos hi]
  simp [Nat.mod_one]
/-- Two rows that are new. -/
structure Two (w0 w : World) (P G : Nat) : Prop where
  o : Only [] w0 w
  hP : w0.heap.size ≤ P ∧ P < w.heap.size
  hG : w0.heap.size ≤ G ∧ G < w.heap.size
  PG : P ≠ G
  cP : ∀ p k, p < 4096 → k < 4 → w.cell? ⟨P, p * 4 + k, none⟩ = #[Value.int .i64 0, .bool false, .bool false, .bool false][k]?
  fP : ∀ j, w.frozen? ⟨P, j, none⟩ = false
  cG : ∀ i, i < 64 → w.cell? ⟨G, i, none⟩ = some (.int .i64 0)
  fG : ∀ j, w.frozen? ⟨G, j, none⟩ = false
theorem two_a (w : World) : Two w ((w.alloc (.cells (madeCells #[.int .i64 0, .bool false, .bool false, .bool false] 16384) 82)).alloc (.cells (madeCells #[.int .i64 0] 64) 3)) w.heap.size (w.heap.size + 1) := by
  have hO := Only.alloc [] (w.alloc (.cells (madeCells #[.int .i64 0, .bool false, .bool false, .bool false] 16384) 82)) (.cells (madeCells #[.int .i64 0] 64) 3)
  have e1 : (w.alloc (.cells (madeCells #[.int .i64 0, .bool false, .bool false, .bool false] 16384) 82)).heap.size = w.heap.size + 1 := World.size_alloc _ _
  refine ⟨(Only.alloc [] w _).trans hO, ⟨Nat.le_refl _, by rw [World.size_alloc, e1]; omega⟩, ⟨by omega, by rw [World.size_alloc, e1]; omega⟩, by omega, fun p k hp hk => ?_, fun j => ?_, fun i hi => ?_, fun j => ?_⟩
  · rw [hO.cell (by rw [e1]; omega) (by simp)]
    exact cell_P w p k hp hk
  · rw [hO.frozen (by rw [e1]; omega) (by simp)]
    exact World.frozen?_alloc_new w _ _ _
  · rw [← e1]
    exact cell_G _ i hi
  · rw [← e1]
    exact World.frozen?_alloc_new _ _ _ _
theorem two_b (w : World) : Two w ((w.alloc (.cells (madeCells #[.int .i64 0] 64) 3)).alloc (.cells (madeCells #[.int .i64 0, .bool false, .bool false, .bool false] 16384) 82)) (w.heap.size + 1) w.heap.size := by
  have hO := Only.alloc [] (w.alloc (.cells (madeCells #[.int .i64 0] 64) 3)) (.cells (madeCells #[.int .i64 0, .bool false, .bool false, .bool false] 16384) 82)
  have e1 : (w.alloc (.cells (madeCells #[.int .i64 0] 64) 3)).heap.size = w.heap.size + 1 := World.size_alloc _ _
  refine ⟨(Only.alloc [] w _).trans hO, ⟨by omega, by rw [World.size_alloc, e1]; omega⟩, ⟨Nat.le_refl _, by rw [World.size_alloc, e1]; omega⟩, by omega, fun p k hp hk => ?_, fun j => ?_, fun i hi => ?_, fun j => ?_⟩
  · rw [← e1]
    exact cell_P _ p k hp hk
  · rw [← e1]
    exact World.frozen?_alloc_new _ _ _ _
  · rw [hO.cell (by rw [e1]; omega) (by simp)]
    exact cell_G w i hi
  · rw [hO.frozen (by rw [e1]; omega) (by simp)]
    exact World.frozen?_alloc_new w _ _ _
/-- How New ends. -/
def RnewEnd (n : Nat) (fr : Int) (w : World) (e : Ending) (w' : World) : Prop :=
  ∃ r P G, e = .returned (.pointer (some ⟨r, 0, none⟩)) ∧ Rs w' r P G n (newR fr) ∧ Only [] w w' ∧ w.heap.size ≤ r ∧ w.heap.size ≤ P ∧ w.heap.size ≤ G
theorem two_rs {w0 w : World} {P G n : Nat} {fr : Int} (h : Two w0 w P G) (hn : n ≤ 1024) : RnewEnd n fr w0 (.returned (.pointer (some ⟨w.heap.size, 0, none⟩))) (w.alloc (.cells #[.slice (some ⟨P, 0, none⟩) 4096 4096, .slice (some ⟨G, 0, none⟩) 64 64, .int .i64 (n : Int), .int .i64 fr] 79)) := by
  have hO := Only.alloc [] w (.cells #[.slice (some ⟨P, 0, none⟩) 4096 4096, .slice (some ⟨G, 0, none⟩) 64 64, .int .i64 (n : Int), .int .i64 fr] 79)
  have hL := Tl.Lay.new w 79 [.slice (some ⟨P, 0, none⟩) 4096 4096, .slice (some ⟨G, 0, none⟩) 64 64, .int .i64 (n : Int), .int .i64 fr]
  have cP := fun p k hp hk => (hO.cell h.hP.2 (by simp) _).trans (h.cP p k hp hk)
  refine ⟨w.heap.size, P, G, rfl, ⟨hL.lt, Nat.lt_of_lt_of_le h.hP.2 hO.size, Nat.lt_of_lt_of_le h.hG.2 hO.size, by have := h.hP.2; omega, by have := h.hG.2; omega, h.PG, hn, hL.cell 0, hL.cell 1, hL.cell 2, hL.cell 3, hL.free 3, fun p hp => cP p 0 hp (by omega), fun p hp => cP p 1 hp (by omega), fun p hp => cP p 2 hp (by omega), fun p hp => cP p 3 hp (by omega), fun j hj => (hO.frozen h.hP.2 (by simp) j).trans (h.fP j), fun i hi => (hO.cell h.hG.2 (by simp) i).trans (h.cG i hi), fun i hi => (hO.frozen h.hG.2 (by simp) i).trans (h.fG i)⟩, h.o.trans hO, h.o.size, h.hP.1, h.hG.1⟩
set_option maxRecDepth 100000 in
set_option maxHeartbeats 1000000 in
theorem rnew_any (n : Nat) (fr : Int) (w : World) (hn : n ≤ 1024) :
    Calls Tryz.prog 8 #[.int .i64 (n : Int), .int .i64 fr] w (RnewEnd n fr w) := by
  have mP := fun wx => made_P wx
  have mG := fun wx => made_G wx
  have HN := Lib.hid hn
  clear hn
  go_enter Tryz.func8, Tryz.ntmps8
  go_wp2_with fail
  have D0 := Lib.hid (Only.drewN [] w 1)
  change Hid (Only [] w w.drew) at D0
  refine wp_region_held_drew (S := fun _ => True) (by kernel_rfl) trivial (fun hHeld => ?_)
  generalize w.drew = q at *
  refine wpAnyH_take (i := 2) (v := (.int .i64 (n : Int))) rfl (by kernel_rfl) (by kernel_rfl) (by kernel_rfl) (fun _ _ _ h => h) (y_run (by kernel_rfl) (fun _ => by kernel_rfl)) hHeld ?_
  try simp only [Act.put, List.setIfInBounds_toArray]
  refine wpAnyH_take (i := 3) (v := (.int .i64 fr)) rfl (by kernel_rfl) (by kernel_rfl) (by kernel_rfl) (fun _ _ _ h => h) (y_run (by kernel_rfl) (fun _ => by kernel_rfl)) hHeld ?_
  try simp only [Act.put]
  refine wpAnyH_ready (rs := [0, 1]) (by kernel_rfl) (by simp) ?_
  refine AllReadyH.cons (o := ⟨some 5, _, _, _, _, _⟩) rfl (fun K hK => ?_) (AllReadyH.cons (o := ⟨some 6, _, _, _, _, _⟩) rfl (fun K hK => ?_) AllReadyH.nil)
  · go_simp
    refine hK.out _ _ trivial (fun hHeld => ?_)
    clear hK K
    try simp only [Act.put, List.setIfInBounds_toArray, List.set_cons_zero, List.set_cons_succ]
    refine wpAnyH_ready (rs := [1]) (by kernel_rfl) (by simp) ?_
    refine AllReadyH.cons (o := ⟨some 6, _, _, _, _, _⟩) rfl (fun K hK => ?_) AllReadyH.nil
    go_simp
    refine hK.out _ _ trivial (fun hHeld => ?_)
    clear hK K
    have T2 := Lib.hid (two_a q)
    obtain ⟨P, hPe⟩ : ∃ P, P = q.heap.size := ⟨_, rfl⟩
    obtain ⟨G, hGe⟩ : ∃ G, G = q.heap.size + 1 := ⟨_, rfl⟩
    rw [← hGe, ← hPe] at T2 ⊢
    clear hPe hGe
    generalize ((q.alloc (.cells (madeCells #[.int .i64 0, .bool false, .bool false, .bool false] 16384) 82)).alloc (.cells (madeCells #[.int .i64 0] 64) 3)) = q2 at *
    try simp only [Act.put, List.setIfInBounds_toArray, List.set_cons_zero, List.set_cons_succ]
    refine wpAnyH_take (i := 4) (v := (.agg #[.slice (some ⟨P, 0, none⟩) 4096 4096, .slice (some ⟨G, 0, none⟩) 64 64, .int .i64 (n : Int), .int .i64 fr])) rfl (by kernel_rfl) (by kernel_rfl) (by kernel_rfl) (fun _ _ _ h => h) (y_run (by kernel_rfl) (fun _ => by kernel_rfl)) hHeld ?_
    try simp only [Act.put, List.setIfInBounds_toArray]
    refine wpAnyH_ready (rs := [5]) (by kernel_rfl) (by simp) ?_
    refine AllReadyH.cons (o := ⟨some 10, _, _, _, _, _⟩) rfl (fun K hK => ?_) AllReadyH.nil
    go_simp
    refine hK.out _ _ trivial (fun hHeld => ?_)
    clear hK K
    try simp only [Act.put, List.setIfInBounds_toArray, List.set_cons_zero, List.set_cons_succ]
    refine wpAnyH_take (i := 6) (v := (.pointer (some ⟨q2.heap.size, 0, none⟩))) rfl (by kernel_rfl) (by kernel_rfl) (by kernel_rfl) (fun _ _ _ h => h) (y_run (by kernel_rfl) (fun _ => by kernel_rfl)) hHeld ?_
    try simp only [Act.put, List.setIfInBounds_toArray]
    refine wpAnyH_done (by kernel_rfl) ?_ _
    obtain ⟨r, P', G', he, hR, hO, h1, h2, h3⟩ := two_rs (n := n) (fr := fr) T2.out HN.out
    injection he with he
    injection he with he
    injection he with he
    injection he with he
    subst he
    have z := D0.out.size
    have F := Lib.hid (show RnewEnd n fr w (.returned (.pointer (some ⟨q2.heap.size, 0, none⟩))) _ from ⟨_, P', G', rfl, hR, D0.out.trans hO, by omega, by omega, by omega⟩)
    clear hR hO h1 h2 h3 z mP mG
    go_wp2_with fail
    go_ret
    exact F.out
  · go_simp
    refine hK.out _ _ trivial (fun hHeld => ?_)
    clear hK K
    try simp only [Act.put, List.setIfInBounds_toArray, List.set_cons_zero, List.set_cons_succ]
    refine wpAnyH_ready (rs := [0]) (by kernel_rfl) (by simp) ?_
    refine AllReadyH.cons (o := ⟨some 5, _, _, _, _, _⟩) rfl (fun K hK => ?_) AllReadyH.nil
    go_simp
    refine hK.out _ _ trivial (fun hHeld => ?_)
    clear hK K
    have T2 := Lib.hid (two_b q)
    obtain ⟨P, hPe⟩ : ∃ P, P = q.heap.size + 1 := ⟨_, rfl⟩
    obtain ⟨G, hGe⟩ : ∃ G, G = q.heap.size := ⟨_, rfl⟩
    rw [← hPe, ← hGe] at T2 ⊢
    clear hPe hGe
    generalize ((q.alloc (.cells (madeCells #[.int .i64 0] 64) 3)).alloc (.cells (madeCells #[.int .i64 0, .bool false, .bool false, .bool false] 16384) 82)) = q2 at *
    try simp only [Act.put, List.setIfInBounds_toArray, List.set_cons_zero, List.set_cons_succ]
    refine wpAnyH_take (i := 4) (v := (.agg #[.slice (some ⟨P, 0, none⟩) 4096 4096, .slice (some ⟨G, 0, none⟩) 64 64, .int .i64 (n : Int), .int .i64 fr])) rfl (by kernel_rfl) (by kernel_rfl) (by kernel_rfl) (fun _ _ _ h => h) (y_run (by kernel_rfl) (fun _ => by kernel_rfl)) hHeld ?_
    try simp only [Act.put, List.setIfInBounds_toArray]
    refine wpAnyH_ready (rs := [5]) (by kernel_rfl) (by simp) ?_
    refine AllReadyH.cons (o := ⟨some 10, _, _, _, _, _⟩) rfl (fun K hK => ?_) AllReadyH.nil
    go_simp
    refine hK.out _ _ trivial (fun hHeld => ?_)
    clear hK K
    try simp only [Act.put, List.setIfInBounds_toArray, List.set_cons_zero, List.set_cons_succ]
    refine wpAnyH_take (i := 6) (v := (.pointer (some ⟨q2.heap.size, 0, none⟩))) rfl (by kernel_rfl) (by kernel_rfl) (by kernel_rfl) (fun _ _ _ h => h) (y_run (by kernel_rfl) (fun _ => by kernel_rfl)) hHeld ?_
    try simp only [Act.put, List.setIfInBounds_toArray]
    refine wpAnyH_done (by kernel_rfl) ?_ _
    obtain ⟨r, P', G', he, hR, hO, h1, h2, h3⟩ := two_rs (n := n) (fr := fr) T2.out HN.out
    injection he with he
    injection he with he
    injection he with he
    injection he with he
    subst he
    have z := D0.out.size
    have F := Lib.hid (show RnewEnd n fr w (.returned (.pointer (some ⟨q2.heap.size, 0, none⟩))) _ from ⟨_, P', G', rfl, hR, D0.out.trans hO, by omega, by omega, by omega⟩)
    clear hR hO h1 h2 h3 z mP mG
    go_wp2_with fail
    go_ret
    exact F.out
end St
end Go.Proofs.YtiiggmfindfkfaaGreat
