/-
  What the document's own Line of layer 2 answers, at every argument; no condition but that each argument is of its Go type.
-/
import Derived.Test.YtebnjhecopmekaaDoorIsaRef
import Derived.Deep.RegionWith
namespace Go.Proofs.YtebnjhecopmekaaDoor
open Go.RowKit Isa Nt

theorem words_at (k : Nat) (w : World) (hk : k < 28) :
    Calls Tryd.prog 31 #[] w fun e w' => e = .returned (.slice (some ⟨w.heap.size, 0, none⟩) 28 28) ∧ w'.cell? ⟨w.heap.size, k, none⟩ = some (.string (opS k)) ∧ Below w.heap.size w w' := by
  go_enter Tryd.func31, Tryd.ntmps31
  go_wp2
  go_ret
  refine ⟨rfl, ?_, (Below.refl _ _).alloc (Nat.le_refl _) _⟩
  rw [World.cell?_alloc_new]
  match k, hk with
  | 0, _ => rfl
  | 1, _ => rfl
  | 2, _ => rfl
  | 3, _ => rfl
  | 4, _ => rfl
  | 5, _ => rfl
  | 6, _ => rfl
  | 7, _ => rfl
  | 8, _ => rfl
  | 9, _ => rfl
  | 10, _ => rfl
  | 11, _ => rfl
  | 12, _ => rfl
  | 13, _ => rfl
  | 14, _ => rfl
  | 15, _ => rfl
  | 16, _ => rfl
  | 17, _ => rfl
  | 18, _ => rfl
  | 19, _ => rfl
  | 20, _ => rfl
  | 21, _ => rfl
  | 22, _ => rfl
  | 23, _ => rfl
  | 24, _ => rfl
  | 25, _ => rfl
  | 26, _ => rfl
  | 27, _ => rfl
  | k + 28, h => exact absurd h (by omega)
theorem itoa_size (n : Int) (h0 : -9223372036854775808 ≤ n) (h1 : n ≤ 9223372036854775807) : (bs (Lib.itoa n)).size ≤ 21 := by
  rw [bs_size]; exact Lib.itoa_length_le n h0 h1
theorem Below.drewB {B : Nat} {w w' : World} (h : Below B w w') : Below B w w'.drew := h.trans ⟨rfl, rfl, rfl, Nat.le_refl _, fun _ _ => rfl⟩
theorem rline_no (op a b imm : Int) (w : World) (h : right op a b imm = false) :
    Calls Tryd.prog 15 #[.agg #[.int .i64 op, .int .i64 a, .int .i64 b, .int .i64 imm]] w fun e w' => e = .returned (.string (bs [])) ∧ Below w.heap.size w w' := by
  go_enter Tryd.func15, Tryd.ntmps15
  go_wp2_with (go_at_call 26; refine (rright_any _ _ _ _ _).mono ?_; rintro e w' ⟨rfl, hb⟩)
  go_ret
  exact ⟨rfl, ((Below.refl _ _).alloc (Nat.le_refl _) _).trans (hb.mono (by simp))⟩
set_option maxHeartbeats 4000000 in
theorem rline_ff0 (k : Nat) (a b imm : Int) (w : World) (hk : k < 28) (h : right k a b imm = true) (hA : opA k = false) (hB : opB k = false) (hI : opI k = 0) :
    Calls Tryd.prog 15 #[.agg #[.int .i64 k, .int .i64 a, .int .i64 b, .int .i64 imm]] w fun e w' => e = .returned (.string (bs (lineL k a b imm))) ∧ Below w.heap.size w w' := by
  have hL := Lib.hid (show lineL k a b imm = opN k by simp [lineL, immL, hA, hB, hI])
  obtain ⟨⟨g0, h0⟩, ⟨g1, h1⟩, ⟨g2, h2⟩, ⟨g3, h3⟩⟩ := right_bounds h
  have hs0 := opS_size k hk
  have sb := sgn_bounds imm
  have hs1 := itoa_size a (by omega) (by omega)
  have hs2 := itoa_size b (by omega) (by omega)
  have hs3 := itoa_size imm (by omega) (by omega)
  have hs4 := itoa_size (sgn imm) (by omega) (by omega)
  go_enter Tryd.func15, Tryd.ntmps15
  go_wp2_with fail
  refine (rright_any _ _ _ _ _).mono ?_
  rintro e w1 ⟨rfl, hb⟩
  have HB := Lib.hid (((Below.refl _ _).alloc (Nat.le_refl _) _).trans (hb.mono (by simp)) : Below w.heap.size w w1)
  have z1 : w1.cell? ⟨w.heap.size, 0, none⟩ = some (.int .i64 k) := keep hb (by simp)
  have z2 : w1.cell? ⟨w.heap.size, 1, none⟩ = some (.int .i64 a) := keep hb (by simp)
  have z3 : w1.cell? ⟨w.heap.size, 2, none⟩ = some (.int .i64 b) := keep hb (by simp)
  have z4 : w1.cell? ⟨w.heap.size, 3, none⟩ = some (.int .i64 imm) := keep hb (by simp)
  clear hb
  go_wp2_with fail
  refine (uses_any _ _ hk).mono ?_
  rintro e w2 ⟨rfl, rfl⟩
  rw [hA, hB, hI]
  clear hA hB hI
  go_wp2_with fail
  have hk2 : (k : Int) < 28 := by omega
  go_region_with (go_at_call 31; refine (words_at k _ hk).mono ?_; rintro e wx ⟨rfl, cx, bx⟩; have zx := keep bx z1; simp only [World.size_drew] at cx)
  all_goals
    have x1 := zx
    have x2 : wx.cell? ⟨w.heap.size, 1, none⟩ = some (.int .i64 a) := keep bx z2
    have x3 : wx.cell? ⟨w.heap.size, 2, none⟩ = some (.int .i64 b) := keep bx z3
    have x4 : wx.cell? ⟨w.heap.size, 3, none⟩ = some (.int .i64 imm) := keep bx z4
    have HB1 := Lib.hid ((Below.drewB HB.out).trans (bx.mono (Below.drewB HB.out).size))
    clear bx zx cx z1 z2 z3 z4
    go_wp2
    go_ret
    refine ⟨ret_str ?_, HB1.out⟩
    rw [hL.out]
    show bs (opN k) = _
    rfl
set_option maxHeartbeats 4000000 in
theorem rline_ff1 (k : Nat) (a b imm : Int) (w : World) (hk : k < 28) (h : right k a b imm = true) (hA : opA k = false) (hB : opB k = false) (hI : opI k = 1) :
    Calls Tryd.prog 15 #[.agg #[.int .i64 k, .int .i64 a, .int .i64 b, .int .i64 imm]] w fun e w' => e = .returned (.string (bs (lineL k a b imm))) ∧ Below w.heap.size w w' := by
  have hL := Lib.hid (show lineL k a b imm = opN k ++ numL imm by simp [lineL, immL, hA, hB, hI])
  obtain ⟨⟨g0, h0⟩, ⟨g1, h1⟩, ⟨g2, h2⟩, ⟨g3, h3⟩⟩ := right_bounds h
  have hs0 := opS_size k hk
  have sb := sgn_bounds imm
  have hs1 := itoa_size a (by omega) (by omega)
  have hs2 := itoa_size b (by omega) (by omega)
  have hs3 := itoa_size imm (by omega) (by omega)
  have hs4 := itoa_size (sgn imm) (by omega) (by omega)
  go_enter Tryd.func15, Tryd.ntmps15
  go_wp2_with fail
  refine (rright_any _ _ _ _ _).mono ?_
  rintro e w1 ⟨rfl, hb⟩
  have HB := Lib.hid (((Below.refl _ _).alloc (Nat.le_refl _) _).trans (hb.mono (by simp)) : Below w.heap.size w w1)
  have z1 : w1.cell? ⟨w.heap.size, 0, none⟩ = some (.int .i64 k) := keep hb (by simp)
  have z2 : w1.cell? ⟨w.heap.size, 1, none⟩ = some (.int .i64 a) := keep hb (by simp)
  have z3 : w1.cell? ⟨w.heap.size, 2, none⟩ = some (.int .i64 b) := keep hb (by simp)
  have z4 : w1.cell? ⟨w.heap.size, 3, none⟩ = some (.int .i64 imm) := keep hb (by simp)
  clear hb
  go_wp2_with fail
  refine (uses_any _ _ hk).mono ?_
  rintro e w2 ⟨rfl, rfl⟩
  rw [hA, hB, hI]
  clear hA hB hI
  go_wp2_with fail
  have hk2 : (k : Int) < 28 := by omega
  go_region_with (go_at_call 31; refine (words_at k _ hk).mono ?_; rintro e wx ⟨rfl, cx, bx⟩; have zx := keep bx z1; simp only [World.size_drew] at cx)
  all_goals
    have x1 := zx
    have x2 : wx.cell? ⟨w.heap.size, 1, none⟩ = some (.int .i64 a) := keep bx z2
    have x3 : wx.cell? ⟨w.heap.size, 2, none⟩ = some (.int .i64 b) := keep bx z3
    have x4 : wx.cell? ⟨w.heap.size, 3, none⟩ = some (.int .i64 imm) := keep bx z4
    have HB1 := Lib.hid ((Below.drewB HB.out).trans (bx.mono (Below.drewB HB.out).size))
    clear bx zx cx z1 z2 z3 z4
    go_wp2_with fail
    refine (dec_any _ _ (by omega) (by omega)).mono ?_
    rintro e w2 ⟨rfl, hb⟩
    have HB2 := Lib.hid (HB1.out.trans (hb.mono HB1.out.size))
    replace x1 := keep hb x1
    replace x2 := keep hb x2
    replace x3 := keep hb x3
    replace x4 := keep hb x4
    clear hb
    go_wp2
    go_ret
    refine ⟨ret_str ?_, HB2.out⟩
    rw [hL.out]
    show bs (opN k) ++ (bs [32] ++ bs (Lib.itoa imm)) = _
    simp only [bs_append]; rfl
set_option maxHeartbeats 4000000 in
theorem rline_tf0 (k : Nat) (a b imm : Int) (w : World) (hk : k < 28) (h : right k a b imm = true) (hA : opA k = true) (hB : opB k = false) (hI : opI k = 0) :
    Calls Tryd.prog 15 #[.agg #[.int .i64 k, .int .i64 a, .int .i64 b, .int .i64 imm]] w fun e w' => e = .returned (.string (bs (lineL k a b imm))) ∧ Below w.heap.size w w' := by
  have hL := Lib.hid (show lineL k a b imm = opN k ++ regL a by simp [lineL, immL, hA, hB, hI])
  obtain ⟨⟨g0, h0⟩, ⟨g1, h1⟩, ⟨g2, h2⟩, ⟨g3, h3⟩⟩ := right_bounds h
  have hs0 := opS_size k hk
  have sb := sgn_bounds imm
  have hs1 := itoa_size a (by omega) (by omega)
  have hs2 := itoa_size b (by omega) (by omega)
  have hs3 := itoa_size imm (by omega) (by omega)
  have hs4 := itoa_size (sgn imm) (by omega) (by omega)
  go_enter Tryd.func15, Tryd.ntmps15
  go_wp2_with fail
  refine (rright_any _ _ _ _ _).mono ?_
  rintro e w1 ⟨rfl, hb⟩
  have HB := Lib.hid (((Below.refl _ _).alloc (Nat.le_refl _) _).trans (hb.mono (by simp)) : Below w.heap.size w w1)
  have z1 : w1.cell? ⟨w.heap.size, 0, none⟩ = some (.int .i64 k) := keep hb (by simp)
  have z2 : w1.cell? ⟨w.heap.size, 1, none⟩ = some (.int .i64 a) := keep hb (by simp)
  have z3 : w1.cell? ⟨w.heap.size, 2, none⟩ = some (.int .i64 b) := keep hb (by simp)
  have z4 : w1.cell? ⟨w.heap.size, 3, none⟩ = some (.int .i64 imm) := keep hb (by simp)
  clear hb
  go_wp2_with fail
  refine (uses_any _ _ hk).mono ?_
  rintro e w2 ⟨rfl, rfl⟩
  rw [hA, hB, hI]
  clear hA hB hI
  go_wp2_with fail
  have hk2 : (k : Int) < 28 := by omega
  go_region_with (go_at_call 31; refine (words_at k _ hk).mono ?_; rintro e wx ⟨rfl, cx, bx⟩; have zx := keep bx z1; simp only [World.size_drew] at cx)
  all_goals
    have x1 := zx
    have x2 : wx.cell? ⟨w.heap.size, 1, none⟩ = some (.int .i64 a) := keep bx z2
    have x3 : wx.cell? ⟨w.heap.size, 2, none⟩ = some (.int .i64 b) := keep bx z3
    have x4 : wx.cell? ⟨w.heap.size, 3, none⟩ = some (.int .i64 imm) := keep bx z4
    have HB1 := Lib.hid ((Below.drewB HB.out).trans (bx.mono (Below.drewB HB.out).size))
    clear bx zx cx z1 z2 z3 z4
    go_wp2_with fail
    refine (dec_any _ _ (by omega) (by omega)).mono ?_
    rintro e w2 ⟨rfl, hb⟩
    have HB2 := Lib.hid (HB1.out.trans (hb.mono HB1.out.size))
    replace x1 := keep hb x1
    replace x2 := keep hb x2
    replace x3 := keep hb x3
    replace x4 := keep hb x4
    clear hb
    go_wp2
    go_ret
    refine ⟨ret_str ?_, HB2.out⟩
    rw [hL.out]
    show bs (opN k) ++ (bs [32, 114] ++ bs (Lib.itoa a)) = _
    simp only [bs_append]; rfl
set_option maxHeartbeats 4000000 in
theorem rline_tf1 (k : Nat) (a b imm : Int) (w : World) (hk : k < 28) (h : right k a b imm = true) (hA : opA k = true) (hB : opB k = false) (hI : opI k = 1) :
    Calls Tryd.prog 15 #[.agg #[.int .i64 k, .int .i64 a, .int .i64 b, .int .i64 imm]] w fun e w' => e = .returned (.string (bs (lineL k a b imm))) ∧ Below w.heap.size w w' := by
  have hL := Lib.hid (show lineL k a b imm = opN k ++ regL a ++ numL imm by simp [lineL, immL, hA, hB, hI])
  obtain ⟨⟨g0, h0⟩, ⟨g1, h1⟩, ⟨g2, h2⟩, ⟨g3, h3⟩⟩ := right_bounds h
  have hs0 := opS_size k hk
  have sb := sgn_bounds imm
  have hs1 := itoa_size a (by omega) (by omega)
  have hs2 := itoa_size b (by omega) (by omega)
  have hs3 := itoa_size imm (by omega) (by omega)
  have hs4 := itoa_size (sgn imm) (by omega) (by omega)
  go_enter Tryd.func15, Tryd.ntmps15
  go_wp2_with fail
  refine (rright_any _ _ _ _ _).mono ?_
  rintro e w1 ⟨rfl, hb⟩
  have HB := Lib.hid (((Below.refl _ _).alloc (Nat.le_refl _) _).trans (hb.mono (by simp)) : Below w.heap.size w w1)
  have z1 : w1.cell? ⟨w.heap.size, 0, none⟩ = some (.int .i64 k) := keep hb (by simp)
  have z2 : w1.cell? ⟨w.heap.size, 1, none⟩ = some (.int .i64 a) := keep hb (by simp)
  have z3 : w1.cell? ⟨w.heap.size, 2, none⟩ = some (.int .i64 b) := keep hb (by simp)
  have z4 : w1.cell? ⟨w.heap.size, 3, none⟩ = some (.int .i64 imm) := keep hb (by simp)
  clear hb
  go_wp2_with fail
  refine (uses_any _ _ hk).mono ?_
  rintro e w2 ⟨rfl, rfl⟩
  rw [hA, hB, hI]
  clear hA hB hI
  go_wp2_with fail
  have hk2 : (k : Int) < 28 := by omega
  go_region_with (go_at_call 31; refine (words_at k _ hk).mono ?_; rintro e wx ⟨rfl, cx, bx⟩; have zx := keep bx z1; simp only [World.size_drew] at cx)
  all_goals
    have x1 := zx
    have x2 : wx.cell? ⟨w.heap.size, 1, none⟩ = some (.int .i64 a) := keep bx z2
    have x3 : wx.cell? ⟨w.heap.size, 2, none⟩ = some (.int .i64 b) := keep bx z3
    have x4 : wx.cell? ⟨w.heap.size, 3, none⟩ = some (.int .i64 imm) := keep bx z4
    have HB1 := Lib.hid ((Below.drewB HB.out).trans (bx.mono (Below.drewB HB.out).size))
    clear bx zx cx z1 z2 z3 z4
    go_wp2_with fail
    refine (dec_any _ _ (by omega) (by omega)).mono ?_
    rintro e w2 ⟨rfl, hb⟩
    have HB2 := Lib.hid (HB1.out.trans (hb.mono HB1.out.size))
    replace x1 := keep hb x1
    replace x2 := keep hb x2
    replace x3 := keep hb x3
    replace x4 := keep hb x4
    clear hb
    go_wp2_with fail
    refine (dec_any _ _ (by omega) (by omega)).mono ?_
    rintro e w3 ⟨rfl, hb⟩
    have HB3 := Lib.hid (HB2.out.trans (hb.mono HB2.out.size))
    replace x1 := keep hb x1
    replace x2 := keep hb x2
    replace x3 := keep hb x3
    replace x4 := keep hb x4
    clear hb
    go_wp2
    go_ret
    refine ⟨ret_str ?_, HB3.out⟩
    rw [hL.out]
    show bs (opN k) ++ (bs [32, 114] ++ bs (Lib.itoa a)) ++ (bs [32] ++ bs (Lib.itoa imm)) = _
    simp only [bs_append]; rfl
set_option maxHeartbeats 4000000 in
theorem rline_tf3 (k : Nat) (a b imm : Int) (w : World) (hk : k < 28) (h : right k a b imm = true) (hA : opA k = true) (hB : opB k = false) (hI : opI k = 3) :
    Calls Tryd.prog 15 #[.agg #[.int .i64 k, .int .i64 a, .int .i64 b, .int .i64 imm]] w fun e w' => e = .returned (.string (bs (lineL k a b imm))) ∧ Below w.heap.size w w' := by
  have hL := Lib.hid (show lineL k a b imm = opN k ++ regL a ++ numL (sgn imm) by simp [lineL, immL, hA, hB, hI])
  obtain ⟨⟨g0, h0⟩, ⟨g1, h1⟩, ⟨g2, h2⟩, ⟨g3, h3⟩⟩ := right_bounds h
  have hs0 := opS_size k hk
  have sb := sgn_bounds imm
  have hs1 := itoa_size a (by omega) (by omega)
  have hs2 := itoa_size b (by omega) (by omega)
  have hs3 := itoa_size imm (by omega) (by omega)
  have hs4 := itoa_size (sgn imm) (by omega) (by omega)
  go_enter Tryd.func15, Tryd.ntmps15
  go_wp2_with fail
  refine (rright_any _ _ _ _ _).mono ?_
  rintro e w1 ⟨rfl, hb⟩
  have HB := Lib.hid (((Below.refl _ _).alloc (Nat.le_refl _) _).trans (hb.mono (by simp)) : Below w.heap.size w w1)
  have z1 : w1.cell? ⟨w.heap.size, 0, none⟩ = some (.int .i64 k) := keep hb (by simp)
  have z2 : w1.cell? ⟨w.heap.size, 1, none⟩ = some (.int .i64 a) := keep hb (by simp)
  have z3 : w1.cell? ⟨w.heap.size, 2, none⟩ = some (.int .i64 b) := keep hb (by simp)
  have z4 : w1.cell? ⟨w.heap.size, 3, none⟩ = some (.int .i64 imm) := keep hb (by simp)
  clear hb
  go_wp2_with fail
  refine (uses_any _ _ hk).mono ?_
  rintro e w2 ⟨rfl, rfl⟩
  rw [hA, hB, hI]
  clear hA hB hI
  go_wp2_with fail
  have hk2 : (k : Int) < 28 := by omega
  go_region_with (go_at_call 31; refine (words_at k _ hk).mono ?_; rintro e wx ⟨rfl, cx, bx⟩; have zx := keep bx z1; simp only [World.size_drew] at cx)
  all_goals
    have x1 := zx
    have x2 : wx.cell? ⟨w.heap.size, 1, none⟩ = some (.int .i64 a) := keep bx z2
    have x3 : wx.cell? ⟨w.heap.size, 2, none⟩ = some (.int .i64 b) := keep bx z3
    have x4 : wx.cell? ⟨w.heap.size, 3, none⟩ = some (.int .i64 imm) := keep bx z4
    have HB1 := Lib.hid ((Below.drewB HB.out).trans (bx.mono (Below.drewB HB.out).size))
    clear bx zx cx z1 z2 z3 z4
    go_wp2_with fail
    refine (dec_any _ _ (by omega) (by omega)).mono ?_
    rintro e w2 ⟨rfl, hb⟩
    have HB2 := Lib.hid (HB1.out.trans (hb.mono HB1.out.size))
    replace x1 := keep hb x1
    replace x2 := keep hb x2
    replace x3 := keep hb x3
    replace x4 := keep hb x4
    clear hb
    go_wp2_with fail
    refine (rsigned_any _ _ _ _ _).mono ?_
    rintro e w3 ⟨rfl, hb⟩
    have HB3 := Lib.hid (HB2.out.trans (hb.mono HB2.out.size))
    replace x1 := keep hb x1
    replace x2 := keep hb x2
    replace x3 := keep hb x3
    replace x4 := keep hb x4
    clear hb
    go_wp2_with fail
    refine (dec_any _ _ (by omega) (by omega)).mono ?_
    rintro e w4 ⟨rfl, hb⟩
    have HB4 := Lib.hid (HB3.out.trans (hb.mono HB3.out.size))
    replace x1 := keep hb x1
    replace x2 := keep hb x2
    replace x3 := keep hb x3
    replace x4 := keep hb x4
    clear hb
    go_wp2
    go_ret
    refine ⟨ret_str ?_, HB4.out⟩
    rw [hL.out]
    show bs (opN k) ++ (bs [32, 114] ++ bs (Lib.itoa a)) ++ (bs [32] ++ bs (Lib.itoa (sgn imm))) = _
    simp only [bs_append]; rfl
set_option maxHeartbeats 4000000 in
theorem rline_tt2 (k : Nat) (a b imm : Int) (w : World) (hk : k < 28) (h : right k a b imm = true) (hA : opA k = true) (hB : opB k = true) (hI : opI k = 2) :
    Calls Tryd.prog 15 #[.agg #[.int .i64 k, .int .i64 a, .int .i64 b, .int .i64 imm]] w fun e w' => e = .returned (.string (bs (lineL k a b imm))) ∧ Below w.heap.size w w' := by
  have hL := Lib.hid (show lineL k a b imm = opN k ++ regL a ++ regL b ++ regL imm by simp [lineL, immL, hA, hB, hI])
  obtain ⟨⟨g0, h0⟩, ⟨g1, h1⟩, ⟨g2, h2⟩, ⟨g3, h3⟩⟩ := right_bounds h
  have hs0 := opS_size k hk
  have sb := sgn_bounds imm
  have hs1 := itoa_size a (by omega) (by omega)
  have hs2 := itoa_size b (by omega) (by omega)
  have hs3 := itoa_size imm (by omega) (by omega)
  have hs4 := itoa_size (sgn imm) (by omega) (by omega)
  go_enter Tryd.func15, Tryd.ntmps15
  go_wp2_with fail
  refine (rright_any _ _ _ _ _).mono ?_
  rintro e w1 ⟨rfl, hb⟩
  have HB := Lib.hid (((Below.refl _ _).alloc (Nat.le_refl _) _).trans (hb.mono (by simp)) : Below w.heap.size w w1)
  have z1 : w1.cell? ⟨w.heap.size, 0, none⟩ = some (.int .i64 k) := keep hb (by simp)
  have z2 : w1.cell? ⟨w.heap.size, 1, none⟩ = some (.int .i64 a) := keep hb (by simp)
  have z3 : w1.cell? ⟨w.heap.size, 2, none⟩ = some (.int .i64 b) := keep hb (by simp)
  have z4 : w1.cell? ⟨w.heap.size, 3, none⟩ = some (.int .i64 imm) := keep hb (by simp)
  clear hb
  go_wp2_with fail
  refine (uses_any _ _ hk).mono ?_
  rintro e w2 ⟨rfl, rfl⟩
  rw [hA, hB, hI]
  clear hA hB hI
  go_wp2_with fail
  have hk2 : (k : Int) < 28 := by omega
  go_region_with (go_at_call 31; refine (words_at k _ hk).mono ?_; rintro e wx ⟨rfl, cx, bx⟩; have zx := keep bx z1; simp only [World.size_drew] at cx)
  all_goals
    have x1 := zx
    have x2 : wx.cell? ⟨w.heap.size, 1, none⟩ = some (.int .i64 a) := keep bx z2
    have x3 : wx.cell? ⟨w.heap.size, 2, none⟩ = some (.int .i64 b) := keep bx z3
    have x4 : wx.cell? ⟨w.heap.size, 3, none⟩ = some (.int .i64 imm) := keep bx z4
    have HB1 := Lib.hid ((Below.drewB HB.out).trans (bx.mono (Below.drewB HB.out).size))
    clear bx zx cx z1 z2 z3 z4
    go_wp2_with fail
    refine (dec_any _ _ (by omega) (by omega)).mono ?_
    rintro e w2 ⟨rfl, hb⟩
    have HB2 := Lib.hid (HB1.out.trans (hb.mono HB1.out.size))
    replace x1 := keep hb x1
    replace x2 := keep hb x2
    replace x3 := keep hb x3
    replace x4 := keep hb x4
    clear hb
    go_wp2_with fail
    refine (dec_any _ _ (by omega) (by omega)).mono ?_
    rintro e w3 ⟨rfl, hb⟩
    have HB3 := Lib.hid (HB2.out.trans (hb.mono HB2.out.size))
    replace x1 := keep hb x1
    replace x2 := keep hb x2
    replace x3 := keep hb x3
    replace x4 := keep hb x4
    clear hb
    go_wp2_with fail
    refine (dec_any _ _ (by omega) (by omega)).mono ?_
    rintro e w4 ⟨rfl, hb⟩
    have HB4 := Lib.hid (HB3.out.trans (hb.mono HB3.out.size))
    replace x1 := keep hb x1
    replace x2 := keep hb x2
    replace x3 := keep hb x3
    replace x4 := keep hb x4
    clear hb
    go_wp2
    go_ret
    refine ⟨ret_str ?_, HB4.out⟩
    rw [hL.out]
    show bs (opN k) ++ (bs [32, 114] ++ bs (Lib.itoa a)) ++ (bs [32, 114] ++ bs (Lib.itoa b)) ++ (bs [32, 114] ++ bs (Lib.itoa imm)) = _
    simp only [bs_append]; rfl
set_option maxHeartbeats 4000000 in
theorem rline_tt3 (k : Nat) (a b imm : Int) (w : World) (hk : k < 28) (h : right k a b imm = true) (hA : opA k = true) (hB : opB k = true) (hI : opI k = 3) :
    Calls Tryd.prog 15 #[.agg #[.int .i64 k, .int .i64 a, .int .i64 b, .int .i64 imm]] w fun e w' => e = .returned (.string (bs (lineL k a b imm))) ∧ Below w.heap.size w w' := by
  have hL := Lib.hid (show lineL k a b imm = opN k ++ regL a ++ regL b ++ numL (sgn imm) by simp [lineL, immL, hA, hB, hI])
  obtain ⟨⟨g0, h0⟩, ⟨g1, h1⟩, ⟨g2, h2⟩, ⟨g3, h3⟩⟩ := right_bounds h
  have hs0 := opS_size k hk
  have sb := sgn_bounds imm
  have hs1 := itoa_size a (by omega) (by omega)
  have hs2 := itoa_size b (by omega) (by omega)
  have hs3 := itoa_size imm (by omega) (by omega)
  have hs4 := itoa_size (sgn imm) (by omega) (by omega)
  go_enter Tryd.func15, Tryd.ntmps15
  go_wp2_with fail
  refine (rright_any _ _ _ _ _).mono ?_
  rintro e w1 ⟨rfl, hb⟩
  have HB := Lib.hid (((Below.refl _ _).alloc (Nat.le_refl _) _).trans (hb.mono (by simp)) : Below w.heap.size w w1)
  have z1 : w1.cell? ⟨w.heap.size, 0, none⟩ = some (.int .i64 k) := keep hb (by simp)
  have z2 : w1.cell? ⟨w.heap.size, 1, none⟩ = some (.int .i64 a) := keep hb (by simp)
  have z3 : w1.cell? ⟨w.heap.size, 2, none⟩ = some (.int .i64 b) := keep hb (by simp)
  have z4 : w1.cell? ⟨w.heap.size, 3, none⟩ = some (.int .i64 imm) := keep hb (by simp)
  clear hb
  go_wp2_with fail
  refine (uses_any _ _ hk).mono ?_
  rintro e w2 ⟨rfl, rfl⟩
  rw [hA, hB, hI]
  clear hA hB hI
  go_wp2_with fail
  have hk2 : (k : Int) < 28 := by omega
  go_region_with (go_at_call 31; refine (words_at k _ hk).mono ?_; rintro e wx ⟨rfl, cx, bx⟩; have zx := keep bx z1; simp only [World.size_drew] at cx)
  all_goals
    have x1 := zx
    have x2 : wx.cell? ⟨w.heap.size, 1, none⟩ = some (.int .i64 a) := keep bx z2
    have x3 : wx.cell? ⟨w.heap.size, 2, none⟩ = some (.int .i64 b) := keep bx z3
    have x4 : wx.cell? ⟨w.heap.size, 3, none⟩ = some (.int .i64 imm) := keep bx z4
    have HB1 := Lib.hid ((Below.drewB HB.out).trans (bx.mono (Below.drewB HB.out).size))
    clear bx zx cx z1 z2 z3 z4
    go_wp2_with fail
    refine (dec_any _ _ (by omega) (by omega)).mono ?_
    rintro e w2 ⟨rfl, hb⟩
    have HB2 := Lib.hid (HB1.out.trans (hb.mono HB1.out.size))
    replace x1 := keep hb x1
    replace x2 := keep hb x2
    replace x3 := keep hb x3
    replace x4 := keep hb x4
    clear hb
    go_wp2_with fail
    refine (dec_any _ _ (by omega) (by omega)).mono ?_
    rintro e w3 ⟨rfl, hb⟩
    have HB3 := Lib.hid (HB2.out.trans (hb.mono HB2.out.size))
    replace x1 := keep hb x1
    replace x2 := keep hb x2
    replace x3 := keep hb x3
    replace x4 := keep hb x4
    clear hb
    go_wp2_with fail
    refine (rsigned_any _ _ _ _ _).mono ?_
    rintro e w4 ⟨rfl, hb⟩
    have HB4 := Lib.hid (HB3.out.trans (hb.mono HB3.out.size))
    replace x1 := keep hb x1
    replace x2 := keep hb x2
    replace x3 := keep hb x3
    replace x4 := keep hb x4
    clear hb
    go_wp2_with fail
    refine (dec_any _ _ (by omega) (by omega)).mono ?_
    rintro e w5 ⟨rfl, hb⟩
    have HB5 := Lib.hid (HB4.out.trans (hb.mono HB4.out.size))
    replace x1 := keep hb x1
    replace x2 := keep hb x2
    replace x3 := keep hb x3
    replace x4 := keep hb x4
    clear hb
    go_wp2
    go_ret
    refine ⟨ret_str ?_, HB5.out⟩
    rw [hL.out]
    show bs (opN k) ++ (bs [32, 114] ++ bs (Lib.itoa a)) ++ (bs [32, 114] ++ bs (Lib.itoa b)) ++ (bs [32] ++ bs (Lib.itoa (sgn imm))) = _
    simp only [bs_append]; rfl
theorem rline_any (op a b imm : Int) (w : World) :
    Calls Tryd.prog 15 #[.agg #[.int .i64 op, .int .i64 a, .int .i64 b, .int .i64 imm]] w fun e w' => e = .returned (.string (bs (lineV op a b imm))) ∧ Below w.heap.size w w' := by
  unfold lineV
  cases h : right op a b imm
  · exact rline_no op a b imm w h
  · obtain ⟨⟨g0, h0⟩, _⟩ := right_bounds h
    obtain ⟨k, rfl⟩ := Int.eq_ofNat_of_zero_le g0
    have hk : k < 28 := by omega
    rcases combos k hk with ⟨hA, hB, hI | hI⟩ | ⟨hA, hB, hI | hI | hI⟩ | ⟨hA, hB, hI | hI⟩
    · exact rline_ff0 k a b imm w hk h hA hB hI
    · exact rline_ff1 k a b imm w hk h hA hB hI
    · exact rline_tf0 k a b imm w hk h hA hB hI
    · exact rline_tf1 k a b imm w hk h hA hB hI
    · exact rline_tf3 k a b imm w hk h hA hB hI
    · exact rline_tt2 k a b imm w hk h hA hB hI
    · exact rline_tt3 k a b imm w hk h hA hB hI
end Go.Proofs.YtebnjhecopmekaaDoor
