/-
  What entry's Both answers, at every argument; no condition but that each argument is of its Go type.
-/
import Derived.Test.YtdjglmfilhodlaaEnEnc
namespace Go.Proofs.Ytdjglmfilhodlaa
open Go.RowKit Nt
namespace En
theorem both1_any (ba bb : Nat) (V W X B : Bool) (F : Int) (V' W' X' B' : Bool) (F' acc : Int) (w : World) (hA : Five w ba V W X B F) (hB : Five w bb V' W' X' B' F') :
    Calls Try.prog 67 #[.int .i64 acc, .pointer (some ⟨ba, 0, none⟩), .pointer (some ⟨bb, 0, none⟩)] w fun e w' => e = .returned (.bool (alw V W X acc && alw V' W' X' acc)) ∧ Below w.heap.size w w' := by
  obtain ⟨a0, a1, a2, a3, a4⟩ := hA
  have HB := Lib.hid hB
  clear hB
  cases h : alw V W X acc
  · have H := Lib.hid h
    clear h
    go_enter Try.func67, Try.ntmps67
    go_wp2_with fail
    refine (allows_any V W X B F acc _).mono ?_
    rintro e w1 ⟨rfl, b1⟩
    rw [H.out]
    have B1 := Lib.hid b1
    clear b1
    go_wp2
    go_ret
    exact ⟨rfl, B1.out⟩
  · have H := Lib.hid h
    clear h
    go_enter Try.func67, Try.ntmps67
    go_wp2_with fail
    refine (allows_any V W X B F acc _).mono ?_
    rintro e w1 ⟨rfl, b1⟩
    rw [H.out]
    have B1 := Lib.hid b1
    obtain ⟨d0, d1, d2, d3, d4⟩ := HB.out.kept' b1
    clear b1
    go_wp2_with fail
    refine (allows_any V' W' X' B' F' acc _).mono ?_
    rintro e w2 ⟨rfl, b2⟩
    have B2 := Lib.hid (B1.out.trans (b2.mono B1.out.size))
    clear b2
    go_wp2
    go_ret
    exact ⟨rfl, B2.out⟩
/-- What two entries allow. -/
def bo (V V' p : Bool) : Bool := V && V' && p
set_option maxHeartbeats 1000000 in
theorem both_any (V W X B : Bool) (F : Int) (V' W' X' B' : Bool) (F' : Int) (w : World) :
    Calls Try.prog 52 #[.agg #[.bool V, .bool W, .bool X, .bool B, .int .i64 F], .agg #[.bool V', .bool W', .bool X', .bool B', .int .i64 F']] w fun e w' =>
      e = .returned (.agg #[.bool (V && V'), .bool (V && V' && (W && W')), .bool (V && V' && (X && X')), .bool false, .int .i64 (if V && V' then F' else 0)]) ∧ Below w.heap.size w w' := by
  have q : alw V W X 0 = V := by unfold alw; cases V <;> rfl
  have q' : alw V' W' X' 0 = V' := by unfold alw; cases V' <;> rfl
  have Q := Lib.hid q
  have Q' := Lib.hid q'
  clear q q'
  obtain ⟨u0, hu0⟩ : ∃ u0, u0 = w.alloc (.cells #[.bool V, .bool W, .bool X, .bool B, .int .i64 F] 50) := ⟨_, rfl⟩
  obtain ⟨u1, hu1⟩ : ∃ u1, u1 = u0.alloc (.cells #[.bool V', .bool W', .bool X', .bool B', .int .i64 F'] 50) := ⟨_, rfl⟩
  obtain ⟨u2, hu2⟩ : ∃ u2, u2 = u1.alloc (.cells #[.bool false, .bool false, .bool false, .bool false, .int .i64 0] 50) := ⟨_, rfl⟩
  have s0 : u0.heap.size = w.heap.size + 1 := by rw [hu0]; simp
  have s1 : u1.heap.size = w.heap.size + 1 + 1 := by rw [hu1]; simp [s0]
  have b0 : Below w.heap.size w u0 := by rw [hu0]; exact (Below.refl _ _).alloc (Nat.le_refl _) _
  have b1 : Below u0.heap.size u0 u1 := by rw [hu1]; exact (Below.refl _ _).alloc (Nat.le_refl _) _
  have b2 : Below u1.heap.size u1 u2 := by rw [hu2]; exact (Below.refl _ _).alloc (Nat.le_refl _) _
  have f0 : Five u2 w.heap.size V W X B F := (((show Five u0 w.heap.size V W X B F from by rw [hu0]; exact five_new _ _ _ _ _ _ _).kept' b1)).kept' b2
  have f1 : Five u2 u0.heap.size V' W' X' B' F' := (show Five u1 u0.heap.size V' W' X' B' F' from by rw [hu1]; exact five_new _ _ _ _ _ _ _).kept' b2
  have f2 : Five u2 u1.heap.size false false false false 0 := by rw [hu2]; exact five_new _ _ _ _ _ _ _
  have bz : Below w.heap.size w u2 := b0.trans ((b1.trans (b2.mono b1.size)).mono b0.size)
  rw [s0] at f1
  have fz : ∀ i, u2.frozen? ⟨u1.heap.size, i, none⟩ = false := fun i => by rw [hu2]; simp
  rw [s1] at f2 fz
  have FZ := Lib.hid fz
  have F0 := Lib.hid f0
  have F1 := Lib.hid f1
  have F2 := Lib.hid f2
  have BZ := Lib.hid bz
  have HU : Hid (u2 = ((w.alloc (.cells #[.bool V, .bool W, .bool X, .bool B, .int .i64 F] 50)).alloc (.cells #[.bool V', .bool W', .bool X', .bool B', .int .i64 F'] 50)).alloc (.cells #[.bool false, .bool false, .bool false, .bool false, .int .i64 0] 50)) := by rw [hu2, hu1, hu0]; rfl
  clear b0 b1 b2 f0 f1 f2 fz bz s0 s1 hu0 hu1 hu2
  cases hv : (V && V')
  all_goals have HV := Lib.hid hv
  all_goals clear hv
  all_goals simp only [Bool.false_and, Bool.true_and, if_true, Bool.false_eq_true, if_false]
  all_goals
    go_enter Try.func52, Try.ntmps52
    go_wp2_with fail
    rw [← HU.out]
    refine (both1_any _ _ V W X B F V' W' X' B' F' 0 _ F0.out F1.out).mono ?_
    rintro e w1 ⟨rfl, b1⟩
    rw [Q.out, Q'.out, HV.out]
    have F3 := Lib.hid (F0.out.kept' b1)
    have F4 := Lib.hid (F1.out.kept' b1)
    have F5 := Lib.hid (F2.out.kept' b1)
    have B1 := Lib.hid (BZ.out.trans (b1.mono BZ.out.size))
    have g4 := F4.out.c4
    obtain ⟨g20, g21, g22, g23, g24⟩ := F5.out
    have GZ := Lib.hid (fun i => (b1.frozen (p := ⟨w.heap.size + 1 + 1, i, none⟩) (show w.heap.size + 1 + 1 < u2.heap.size from block_lt_of_cell F2.out.c0)).trans (FZ.out i))
    have gz0 := GZ.out 0
    have gz1 := GZ.out 1
    have gz2 := GZ.out 2
    have gz3 := GZ.out 3
    have gz4 := GZ.out 4
    clear b1 FZ F0 F1 F2 BZ HU
  · go_wp2
    refine bodyPost_ret (v := .agg #[.bool false, .bool false, .bool false, .bool false, .int .i64 0]) (by simp [results, Try.results52, go_sem, *]) rfl ⟨rfl, ?_⟩
    exact below5 B1.out (by omega) _ _ _ _ _
  · have F3d := Lib.hid (show Five w1.drew w.heap.size V W X B F from F3.out.kept' (Below.refl w1.heap.size w1).drew)
    have F4d := Lib.hid (show Five w1.drew (w.heap.size + 1) V' W' X' B' F' from F4.out.kept' (Below.refl w1.heap.size w1).drew)
    have F5d := Lib.hid (show Five w1.drew (w.heap.size + 1 + 1) false false false false 0 from F5.out.kept' (Below.refl w1.heap.size w1).drew)
    have GZd := Lib.hid (fun i => (show w1.drew.frozen? ⟨w.heap.size + 1 + 1, i, none⟩ = false from GZ.out i))
    have B1d := Lib.hid B1.out.drew
    clear gz0 gz1 gz2 gz3 gz4 g4 g20 g21 g22 g23 g24 F3 F4 F5 GZ B1
    go_wp2_with fail
    go_region_held3 (fun w' => w'.cell? ⟨w.heap.size + 1, 4, none⟩ = some (.int .i64 F')) (first | (with_reducible exact F9.out.c4) | (with_reducible exact F7.out.c4) | (with_reducible exact F4d.out.c4) | go_keep) (first
      | (go_at_call 67; with_reducible refine (both1_any _ _ V W X B F V' W' X' B' F' 1 _ F3d.out F4d.out).mono ?_; rintro e w2 ⟨rfl, b2⟩; have F6 := Lib.hid (F3d.out.kept' b2); have F7 := Lib.hid (F4d.out.kept' b2); have B2 := Lib.hid b2; clear b2)
      | (go_at_call 67; with_reducible refine (both1_any _ _ V W X B F V' W' X' B' F' 2 _ F6.out F7.out).mono ?_; rintro e w3 ⟨rfl, b3⟩; have F9 := Lib.hid (F7.out.kept' b3); have b4 := B2.out.trans (b3.mono B2.out.size); obtain ⟨g20, g21, g22, g23, g24⟩ := F5d.out.kept' b4; have GZ3 := Lib.hid (fun i => (b4.frozen (p := ⟨w.heap.size + 1 + 1, i, none⟩) (show w.heap.size + 1 + 1 < w1.drew.heap.size from block_lt_of_cell F5d.out.c0)).trans (GZd.out i)); have gz0 := GZ3.out 0; have gz1 := GZ3.out 1; have gz2 := GZ3.out 2; have gz3 := GZ3.out 3; have gz4 := GZ3.out 4; have B4 := Lib.hid (B1d.out.trans (b4.mono B1d.out.size)); clear b3 b4 GZ3))
    rename_i hHeld
    clear hHeld
    go_wp2
    refine bodyPost_ret (v := .agg #[.bool true, .bool (alw V W X 1 && alw V' W' X' 1), .bool (alw V W X 2 && alw V' W' X' 2), .bool false, .int .i64 F']) (by simp [results, Try.results52, go_sem, *]) rfl ⟨?_, ?_⟩
    · obtain ⟨rfl, rfl⟩ := Bool.and_eq_true_iff.1 HV.out
      unfold alw
      simp
    · exact below5 B4.out (by omega) _ _ _ _ _
end En
end Go.Proofs.Ytdjglmfilhodlaa
