/-
  What alu's Done answers, at every state, effect and word.
-/
import Derived.Test.YtlfhcnpbgbnadaaDoorAluStep
namespace Go.Proofs.YtlfhcnpbgbnadaaDoor
open Go.RowKit Isa Nt
namespace Alu

/-- The boxes that Done lays first. -/
theorem done_boxes (w : World) (l : List Value) (k g x y : Int) : Box (((w.alloc (.cells l.toArray 25)).alloc (.cells #[.int .i64 k, .int .i64 g, .int .u32 x, .int .u32 y] 28)).alloc (.cells #[.int .u32 0, .int .u32 0, .int .u32 0, .int .u32 0, .int .u32 0, .int .u32 0, .int .u32 0, .int .u32 0, .int .u32 0, .int .u32 0, .int .u32 0, .int .u32 0, .int .u32 0, .int .u32 0, .int .u32 0, .int .u32 0, .int .u32 0] 25)) w.heap.size l ∧ Box (((w.alloc (.cells l.toArray 25)).alloc (.cells #[.int .i64 k, .int .i64 g, .int .u32 x, .int .u32 y] 28)).alloc (.cells #[.int .u32 0, .int .u32 0, .int .u32 0, .int .u32 0, .int .u32 0, .int .u32 0, .int .u32 0, .int .u32 0, .int .u32 0, .int .u32 0, .int .u32 0, .int .u32 0, .int .u32 0, .int .u32 0, .int .u32 0, .int .u32 0, .int .u32 0] 25)) (w.heap.size + 1 + 1) (stL (fun _ => 0) 0) ∧ Below w.heap.size w (((w.alloc (.cells l.toArray 25)).alloc (.cells #[.int .i64 k, .int .i64 g, .int .u32 x, .int .u32 y] 28)).alloc (.cells #[.int .u32 0, .int .u32 0, .int .u32 0, .int .u32 0, .int .u32 0, .int .u32 0, .int .u32 0, .int .u32 0, .int .u32 0, .int .u32 0, .int .u32 0, .int .u32 0, .int .u32 0, .int .u32 0, .int .u32 0, .int .u32 0, .int .u32 0] 25)) := by
  have Z := Box.new ((w.alloc (.cells l.toArray 25)).alloc (.cells #[.int .i64 k, .int .i64 g, .int .u32 x, .int .u32 y] 28)) (stL (fun _ => 0) 0) 25
  rw [World.size_alloc, World.size_alloc] at Z
  exact ⟨((Box.new w l 25).box _).box _, Z, (((Below.refl _ _).alloc (Nat.le_refl _) _).alloc (by simp) _).alloc (by simp; omega) _⟩
/-- The registers behind a Done. -/
def dR (r : Nat → Int) (k g v : Int) : Nat → Int := fun j => if (k = 1 ∨ k = 7 ∨ k = 9) ∧ (j : Int) = g then v else if k = 2 ∧ (j : Int) = g then v % 256 else r j
theorem done_low (l : List Value) (r : Nat → Int) (pc k g x y v : Int) (w : World) (hl : IsSt l r pc) (hg : g < 0) :
    Calls Tryd.prog 14 #[.agg l.toArray, .agg #[.int .i64 k, .int .i64 g, .int .u32 x, .int .u32 y], .int .u32 v] w fun e w' => e = .returned (.agg l.toArray) ∧ Below w.heap.size w w' := by
  have HL := Lib.hid hl
  have S0 := Lib.hid (done_boxes w l k g x y)
  clear hl
  have d : decide (g < 0) = true := by simpa using hg
  go_enter Tryd.func14, Tryd.ntmps14
  go_wp2_with (first | (refine wl_load (.tmp 3) _ _ rfl rfl rfl S0.out.1 HL.out.size ?_) | (refine wl_store (.tmp 6) (.tmp 15) _ _ _ rfl rfl rfl rfl S0.out.2.1 (stL_is _ _).size HL.out.size HL.out.one ?_))
  refine bodyPost_ret (res_one Tryd.results14 _ rfl (run_load17 Tryd.underlying25 rfl (by rw [HL.out.size]; kernel_rfl) (S0.out.2.1.stored (l' := l) (by rw [HL.out.size, (stL_is _ _).size])))) rfl ⟨rfl, ?_⟩
  exact below_setCells _ _ _ S0.out.2.2 (by omega)
theorem done_high (l : List Value) (r : Nat → Int) (pc k g x y v : Int) (w : World) (hl : IsSt l r pc) (hg : 16 ≤ g) :
    Calls Tryd.prog 14 #[.agg l.toArray, .agg #[.int .i64 k, .int .i64 g, .int .u32 x, .int .u32 y], .int .u32 v] w fun e w' => e = .returned (.agg l.toArray) ∧ Below w.heap.size w w' := by
  have HL := Lib.hid hl
  have S0 := Lib.hid (done_boxes w l k g x y)
  clear hl
  have d : decide (g < 0) = false := by simp; omega
  have d2 : decide (16 ≤ g) = true := by simpa using hg
  go_enter Tryd.func14, Tryd.ntmps14
  go_wp2_with (first | (refine wl_load (.tmp 3) _ _ rfl rfl rfl S0.out.1 HL.out.size ?_) | (refine wl_store (.tmp 6) (.tmp 15) _ _ _ rfl rfl rfl rfl S0.out.2.1 (stL_is _ _).size HL.out.size HL.out.one ?_))
  refine bodyPost_ret (res_one Tryd.results14 _ rfl (run_load17 Tryd.underlying25 rfl (by rw [HL.out.size]; kernel_rfl) (S0.out.2.1.stored (l' := l) (by rw [HL.out.size, (stL_is _ _).size])))) rfl ⟨rfl, ?_⟩
  exact below_setCells _ _ _ S0.out.2.2 (by omega)
theorem done_none (l : List Value) (r : Nat → Int) (pc k g x y v : Int) (w : World) (hl : IsSt l r pc) (h0 : 0 ≤ g) (h1 : g < 16) (k1 : k ≠ 1) (k7 : k ≠ 7) (k9 : k ≠ 9) (k2 : k ≠ 2) :
    Calls Tryd.prog 14 #[.agg l.toArray, .agg #[.int .i64 k, .int .i64 g, .int .u32 x, .int .u32 y], .int .u32 v] w fun e w' => e = .returned (.agg l.toArray) ∧ Below w.heap.size w w' := by
  have HL := Lib.hid hl
  have S0 := Lib.hid (done_boxes w l k g x y)
  clear hl
  have d : decide (g < 0) = false := by simp; omega
  have d2 : decide (16 ≤ g) = false := by simp; omega
  have q1 : (k == 1) = false := by simpa using k1
  have q7 : (k == 7) = false := by simpa using k7
  have q9 : (k == 9) = false := by simpa using k9
  have q2 : (k == 2) = false := by simpa using k2
  clear k1 k7 k9 k2
  go_enter Tryd.func14, Tryd.ntmps14
  go_wp2_with (first | (refine wl_load (.tmp 3) _ _ rfl rfl rfl S0.out.1 HL.out.size ?_) | (refine wl_store (.tmp 6) (.tmp 35) _ _ _ rfl rfl rfl rfl S0.out.2.1 (stL_is _ _).size HL.out.size HL.out.one ?_))
  refine bodyPost_ret (res_one Tryd.results14 _ rfl (run_load17 Tryd.underlying25 rfl (by rw [HL.out.size]; kernel_rfl) (S0.out.2.1.stored (l' := l) (by rw [HL.out.size, (stL_is _ _).size])))) rfl ⟨rfl, ?_⟩
  exact below_setCells _ _ _ S0.out.2.2 (by omega)
set_option maxHeartbeats 1000000 in
theorem done1 (l : List Value) (r : Nat → Int) (pc x y v : Int) (g : Nat) (w : World) (hl : IsSt l r pc) (h1 : g < 16) :
    Calls Tryd.prog 14 #[.agg l.toArray, .agg #[.int .i64 1, .int .i64 g, .int .u32 x, .int .u32 y], .int .u32 v] w fun e w' => e = .returned (.agg (l.set g (.int .u32 v)).toArray) ∧ Below w.heap.size w w' := by
  have HL := Lib.hid hl
  have S1 := Lib.hid (done_boxes w (l.set g (.int .u32 v)) 1 g x y)
  have d : decide ((g : Int) < 0) = false := by simp
  have d2 : decide (16 ≤ (g : Int)) = false := by simp; omega
  have ig : (g : Int) < 16 := by omega
  have c := hl.reg g h1
  have L1 := Lib.hid (hl.setReg g h1 v)
  clear hl
  go_enter Tryd.func14, Tryd.ntmps14
  go_wp2_with (first | (refine wl_load (.tmp 3) _ _ rfl rfl rfl S1.out.1 L1.out.size ?_) | (refine wl_store (.tmp 6) (.tmp 35) _ _ _ rfl rfl rfl rfl S1.out.2.1 (stL_is _ _).size L1.out.size L1.out.one ?_))
  refine bodyPost_ret (res_one Tryd.results14 _ rfl (run_load17 Tryd.underlying25 rfl (by rw [L1.out.size]; kernel_rfl) (S1.out.2.1.stored (by rw [L1.out.size, (stL_is _ _).size])))) rfl ⟨rfl, ?_⟩
  exact below_setCells _ _ _ S1.out.2.2 (by omega)
set_option maxHeartbeats 1000000 in
theorem done7 (l : List Value) (r : Nat → Int) (pc x y v : Int) (g : Nat) (w : World) (hl : IsSt l r pc) (h1 : g < 16) :
    Calls Tryd.prog 14 #[.agg l.toArray, .agg #[.int .i64 7, .int .i64 g, .int .u32 x, .int .u32 y], .int .u32 v] w fun e w' => e = .returned (.agg (l.set g (.int .u32 v)).toArray) ∧ Below w.heap.size w w' := by
  have HL := Lib.hid hl
  have S1 := Lib.hid (done_boxes w (l.set g (.int .u32 v)) 7 g x y)
  have d : decide ((g : Int) < 0) = false := by simp
  have d2 : decide (16 ≤ (g : Int)) = false := by simp; omega
  have ig : (g : Int) < 16 := by omega
  have c := hl.reg g h1
  have L1 := Lib.hid (hl.setReg g h1 v)
  clear hl
  go_enter Tryd.func14, Tryd.ntmps14
  go_wp2_with (first | (refine wl_load (.tmp 3) _ _ rfl rfl rfl S1.out.1 L1.out.size ?_) | (refine wl_store (.tmp 6) (.tmp 35) _ _ _ rfl rfl rfl rfl S1.out.2.1 (stL_is _ _).size L1.out.size L1.out.one ?_))
  refine bodyPost_ret (res_one Tryd.results14 _ rfl (run_load17 Tryd.underlying25 rfl (by rw [L1.out.size]; kernel_rfl) (S1.out.2.1.stored (by rw [L1.out.size, (stL_is _ _).size])))) rfl ⟨rfl, ?_⟩
  exact below_setCells _ _ _ S1.out.2.2 (by omega)
set_option maxHeartbeats 1000000 in
theorem done9 (l : List Value) (r : Nat → Int) (pc x y v : Int) (g : Nat) (w : World) (hl : IsSt l r pc) (h1 : g < 16) :
    Calls Tryd.prog 14 #[.agg l.toArray, .agg #[.int .i64 9, .int .i64 g, .int .u32 x, .int .u32 y], .int .u32 v] w fun e w' => e = .returned (.agg (l.set g (.int .u32 v)).toArray) ∧ Below w.heap.size w w' := by
  have HL := Lib.hid hl
  have S1 := Lib.hid (done_boxes w (l.set g (.int .u32 v)) 9 g x y)
  have d : decide ((g : Int) < 0) = false := by simp
  have d2 : decide (16 ≤ (g : Int)) = false := by simp; omega
  have ig : (g : Int) < 16 := by omega
  have c := hl.reg g h1
  have L1 := Lib.hid (hl.setReg g h1 v)
  clear hl
  go_enter Tryd.func14, Tryd.ntmps14
  go_wp2_with (first | (refine wl_load (.tmp 3) _ _ rfl rfl rfl S1.out.1 L1.out.size ?_) | (refine wl_store (.tmp 6) (.tmp 35) _ _ _ rfl rfl rfl rfl S1.out.2.1 (stL_is _ _).size L1.out.size L1.out.one ?_))
  refine bodyPost_ret (res_one Tryd.results14 _ rfl (run_load17 Tryd.underlying25 rfl (by rw [L1.out.size]; kernel_rfl) (S1.out.2.1.stored (by rw [L1.out.size, (stL_is _ _).size])))) rfl ⟨rfl, ?_⟩
  exact below_setCells _ _ _ S1.out.2.2 (by omega)
set_option maxHeartbeats 1000000 in
theorem done2 (l : List Value) (r : Nat → Int) (pc x y v : Int) (g : Nat) (w : World) (hl : IsSt l r pc) (h1 : g < 16) :
    Calls Tryd.prog 14 #[.agg l.toArray, .agg #[.int .i64 2, .int .i64 g, .int .u32 x, .int .u32 y], .int .u32 v] w fun e w' => e = .returned (.agg (l.set g (.int .u32 (v % 256))).toArray) ∧ Below w.heap.size w w' := by
  have HL := Lib.hid hl
  have S1 := Lib.hid (done_boxes w (l.set g (.int .u32 (v % 256))) 2 g x y)
  have d : decide ((g : Int) < 0) = false := by simp
  have d2 : decide (16 ≤ (g : Int)) = false := by simp; omega
  have ig : (g : Int) < 16 := by omega
  have c := hl.reg g h1
  have L1 := Lib.hid (hl.setReg g h1 (v % 256))
  clear hl
  go_enter Tryd.func14, Tryd.ntmps14
  go_wp2_with fail
  go_region_with (first | (go_at_call 28; refine (lowByte_any _ _).mono ?_; rintro e w' ⟨rfl, rfl⟩))
  all_goals
    go_wp2_with (first | (refine wl_load (.tmp 3) _ _ rfl rfl rfl S1.out.1.drew L1.out.size ?_) | (refine wl_store (.tmp 6) (.tmp 35) _ _ _ rfl rfl rfl rfl S1.out.2.1.drew (stL_is _ _).size L1.out.size L1.out.one ?_))
    refine bodyPost_ret (res_one Tryd.results14 _ rfl (run_load17 Tryd.underlying25 rfl (by rw [L1.out.size]; kernel_rfl) (S1.out.2.1.drew.stored (by rw [L1.out.size, (stL_is _ _).size])))) rfl ⟨rfl, ?_⟩
    exact below_setCells _ _ _ S1.out.2.2.drew (by omega)
theorem done_any (l : List Value) (r : Nat → Int) (pc k g x y v : Int) (w : World) (hl : IsSt l r pc) :
    Calls Tryd.prog 14 #[.agg l.toArray, .agg #[.int .i64 k, .int .i64 g, .int .u32 x, .int .u32 y], .int .u32 v] w fun e w' => e = .returned (.agg (stL (dR r k g v) pc).toArray) ∧ Below w.heap.size w w' := by
  have same : ∀ (h : ∀ j, j < 16 → dR r k g v j = r j), l = stL (dR r k g v) pc := fun h => IsSt.eq ⟨hl.size, fun j hj => by rw [h j hj]; exact hl.reg j hj, hl.pc⟩
  by_cases h0 : g < 0
  · rw [← same (fun j hj => by unfold dR; rw [if_neg (by omega), if_neg (by omega)])]
    exact done_low l r pc k g x y v w hl h0
  by_cases h1 : 16 ≤ g
  · rw [← same (fun j hj => by unfold dR; rw [if_neg (by omega), if_neg (by omega)])]
    exact done_high l r pc k g x y v w hl h1
  obtain ⟨g, rfl⟩ := Int.eq_ofNat_of_zero_le (show 0 ≤ g by omega)
  have hg : g < 16 := by omega
  have turn : ∀ (u : Int), (∀ j, j < 16 → dR r k g v j = if j = g then u else r j) → l.set g (.int .u32 u) = stL (dR r k g v) pc := fun u h =>
    IsSt.eq ⟨by simp [hl.size], fun j hj => by rw [h j hj]; exact (hl.setReg g hg u).reg j hj, (hl.setReg g hg u).pc⟩
  have put : (k = 1 ∨ k = 7 ∨ k = 9) → l.set g (.int .u32 v) = stL (dR r k g v) pc := fun hk => turn v fun j hj => by
    unfold dR
    by_cases e : j = g
    · rw [if_pos ⟨hk, by omega⟩, if_pos e]
    · rw [if_neg (by omega), if_neg (by omega), if_neg e]
  by_cases k1 : k = 1
  · rw [← put (.inl k1), k1]
    exact done1 l r pc x y v g w hl hg
  by_cases k7 : k = 7
  · rw [← put (.inr (.inl k7)), k7]
    exact done7 l r pc x y v g w hl hg
  by_cases k9 : k = 9
  · rw [← put (.inr (.inr k9)), k9]
    exact done9 l r pc x y v g w hl hg
  by_cases k2 : k = 2
  · have : l.set g (.int .u32 (v % 256)) = stL (dR r k g v) pc := turn (v % 256) fun j hj => by
      unfold dR
      rw [if_neg (by omega)]
      by_cases e : j = g
      · rw [if_pos ⟨k2, by omega⟩, if_pos e]
      · rw [if_neg (by omega), if_neg e]
    rw [← this, k2]
    exact done2 l r pc x y v g w hl hg
  rw [← same (fun j hj => by unfold dR; rw [if_neg (by omega), if_neg (by omega)])]
  exact done_none l r pc k g x y v w hl (by omega) (by omega) k1 k7 k9 k2
end Alu
end Go.Proofs.YtlfhcnpbgbnadaaDoor
