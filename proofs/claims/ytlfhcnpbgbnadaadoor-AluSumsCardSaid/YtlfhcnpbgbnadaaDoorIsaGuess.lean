/-
  What isa's guess and Read answer, at every argument; the conditions: the tables that the program's text lays lie so.
-/
import Derived.Test.YtlfhcnpbgbnadaaDoorIsaRead
import Derived.Laws.BitsLemmas
namespace Go.Proofs.YtlfhcnpbgbnadaaDoor
open Go.RowKit Isa

theorem and16 (n : Int) : bits .and .i64 n 65535 = n % 65536 := by
  have h1 : (BitVec.ofInt 64 65535).toNat = 2 ^ 16 - 1 := by decide
  have key : (BitVec.ofInt 64 n &&& BitVec.ofInt 64 65535).toNat = (n % ((2 ^ 64 : Nat) : Int)).toNat % 2 ^ 16 := by
    rw [BitVec.toNat_and, BitVec.toNat_ofInt, h1, Nat.and_two_pow_sub_one_eq_mod]
  show IntKind.i64.wrap ((BitVec.ofInt 64 n &&& BitVec.ofInt 64 65535).toNat : Nat) = n % 65536
  rw [key, IntKind.wrap_i64]
  omega
theorem sz_drewN (w : World) (k : Nat) : (w.drewN k).heap.size = w.heap.size := rfl
theorem findV_none {l : List UInt8} (h : findN l = none) : findV l = .tuple #[.int .i64 0, .bool false] := by unfold findV; rw [h]
theorem findV_some {l : List UInt8} {k : Nat} (h : findN l = some k) : findV l = .tuple #[.int .i64 k, .bool true] := by unfold findV; rw [h]
theorem findN_lt {l : List UInt8} {k : Nat} (h : findN l = some k) : k < 28 := by
  unfold findN at h
  have := List.mem_of_find?_eq_some h
  simpa using this
theorem findE (l : List UInt8) (w : World) (hO : OpsIn w) (v : Value) (hv : findV l = v) :
    Calls Tryd.prog 62 #[.string (bs l)] w fun e w' => e = .returned v ∧ w = w' := by
  subst hv; exact find_any (bs l) w hO
set_option maxHeartbeats 1000000 in
theorem guess_none (s : ByteArray) (w : World) (hE : Env w) (hs : s.size ≤ 140737488355328) (hF : findN (cutL 32 s.data.toList).1 = none) :
    Calls Tryd.prog 57 #[.string s] w fun e w' => e = .returned (.tuple #[.agg #[.int .i64 0, .int .i64 0, .int .i64 0, .int .i64 0], .bool false]) ∧ Below w.heap.size w w' := by
  have HE := Lib.hid hE
  have HF := Lib.hid (findV_none hF)
  clear hE hF
  go_enter Tryd.func57, Tryd.ntmps57
  go_wp2_with fail
  refine (cut_any _ _ _ (by omega)).mono ?_
  rintro e w1 ⟨f, rfl, k, rfl⟩
  go_wp2_with fail
  refine (findE _ _ ((HE.out.box _).drewN _).1 _ HF.out).mono ?_
  rintro e w1 ⟨rfl, rfl⟩
  go_wp2
  refine bodyPost_ret (v := .tuple #[.agg #[.int .i64 0, .int .i64 0, .int .i64 0, .int .i64 0], .bool false]) (by simp [results, Tryd.results57, go_sem]) rfl ⟨rfl, ?_⟩
  exact wr4_below (below_drewN ((Below.refl _ _).alloc (Nat.le_refl _) _) _) (Nat.le_refl _) _ _ _ _
set_option maxHeartbeats 4000000 in
theorem guess_ff0 (s : ByteArray) (k : Nat) (w : World) (hE : Env w) (hs : s.size ≤ 140737488355328) (hF : findN (cutL 32 s.data.toList).1 = some k) (hA : opA k = false) (hB : opB k = false) (hI : opI k = 0) :
    Calls Tryd.prog 57 #[.string s] w fun e w' => e = .returned (.tuple #[.agg #[.int .i64 k, .int .i64 0, .int .i64 0, .int .i64 (0)], .bool true]) ∧ Below w.heap.size w w' := by
  have hk := findN_lt hF
  have HE := Lib.hid hE
  have HF := Lib.hid (findV_some hF)
  clear hE hF
  have l0 : (cutL 32 s.data.toList).2.length ≤ 140737488355328 := by
    have := (cutL_len 32 s.data.toList).2; rw [ba_len] at this; omega
  generalize hr : (cutL 32 s.data.toList).2 = r at *
  have l1 := tkR_len r
  have l2 := tkR_len (tkR r).2
  have a16 := Lib.hid and16
  go_enter Tryd.func57, Tryd.ntmps57
  go_wp2_with fail
  refine (cut_any _ _ _ (by omega)).mono ?_
  rintro e w1 ⟨f, rfl, kk, rfl⟩
  rw [hr]
  clear hr
  go_wp2_with fail
  refine (findE _ _ ((HE.out.box _).drewN _).1 _ HF.out).mono ?_
  rintro e w1 ⟨rfl, rfl⟩
  have HE1 := Lib.hid ((HE.out.box (.cells #[.int .i64 0, .int .i64 0, .int .i64 0, .int .i64 0] 50)).drewN kk)
  obtain ⟨c0, c1, c2, c3⟩ := HE1.out.1 k hk
  rw [hA] at c1
  rw [hB] at c2
  rw [hI] at c3
  simp only [World.cell?_drewN] at c0 c1 c2 c3
  have BZ0 : Box4 (((w.alloc (.cells #[.int .i64 0, .int .i64 0, .int .i64 0, .int .i64 0] 50)).drewN kk)) w.heap.size (.int .i64 0) (.int .i64 0) (.int .i64 0) (.int .i64 0) := (Box4.new w (.int .i64 0) (.int .i64 0) (.int .i64 0) (.int .i64 0) 50).drewN kk
  have BA0 := Lib.hid (below_drewN ((Below.refl _ _).alloc (Nat.le_refl _) (.cells #[.int .i64 0, .int .i64 0, .int .i64 0, .int .i64 0] 50)) kk : Below w.heap.size w _)
  have HZ := Lib.hid ((BZ0.box (.cells #[.string (opS k), .bool false, .bool false, .int .i64 0] 88)).box (.cells #[.int .i64 k, .int .i64 0, .int .i64 0, .int .i64 0] 50))
  have BO0 := (Box4.new ((w.alloc (.cells #[.int .i64 0, .int .i64 0, .int .i64 0, .int .i64 0] 50)).drewN kk) (.string (opS k)) (.bool false) (.bool false) (.int .i64 0) 88)
  have BX0 := (Box4.new (((w.alloc (.cells #[.int .i64 0, .int .i64 0, .int .i64 0, .int .i64 0] 50)).drewN kk).alloc (.cells #[.string (opS k), .bool false, .bool false, .int .i64 0] 88)) (.int .i64 k) (.int .i64 0) (.int .i64 0) (.int .i64 0) 50)
  simp only [World.size_alloc, sz_drewN] at BO0 BX0
  have HO := Lib.hid (BO0.box (.cells #[.int .i64 k, .int .i64 0, .int .i64 0, .int .i64 0] 50))
  have HX := Lib.hid BX0
  have HB := Lib.hid ((BA0.out.alloc (by simp) (.cells #[.string (opS k), .bool false, .bool false, .int .i64 0] 88)).alloc (by simp; omega) (.cells #[.int .i64 k, .int .i64 0, .int .i64 0, .int .i64 0] 50))
  have hle := Lib.hid HB.out.size
  clear hA hB hI BZ0 BO0 BX0 BA0
  have F := HZ.out.four
  have FB := Lib.hid (wr4_below HB.out (Nat.le_refl _) (.int .i64 k) (.int .i64 0) (.int .i64 0) (.int .i64 (0)))
  clear F FB
  go_wp2
  have F0 := ((Box4.new w (.int .i64 0) (.int .i64 0) (.int .i64 0) (.int .i64 0) 50).drewN kk).four
  have F2 := wr4_cells F0 (.int .i64 k) (.int .i64 0) (.int .i64 0) (.int .i64 0)
  have hk2 := (((Below.refl _ (wr4 ((w.alloc (.cells #[.int .i64 0, .int .i64 0, .int .i64 0, .int .i64 0] 50)).drewN kk) w.heap.size (.int .i64 k) (.int .i64 0) (.int .i64 0) (.int .i64 0))).alloc (Nat.le_refl _) (.cells #[.string (opS k), .bool false, .bool false, .int .i64 0] 88)).alloc (by simp) (.cells #[.int .i64 k, .int .i64 0, .int .i64 0, .int .i64 0] 50))
  obtain ⟨f0, f1, f2, f3⟩ := F2
  have G0 := keep hk2 f0
  have G1 := keep hk2 f1
  have G2 := keep hk2 f2
  have G3 := keep hk2 f3
  refine bodyPost_ret (v := .tuple #[.agg #[.int .i64 k, .int .i64 0, .int .i64 0, .int .i64 (0)], .bool true]) (w := ((wr4 ((w.alloc (.cells #[.int .i64 0, .int .i64 0, .int .i64 0, .int .i64 0] 50)).drewN kk) w.heap.size (.int .i64 k) (.int .i64 0) (.int .i64 0) (.int .i64 0)).alloc (.cells #[.string (opS k), .bool false, .bool false, .int .i64 0] 88)).alloc (.cells #[.int .i64 k, .int .i64 0, .int .i64 0, .int .i64 0] 50)) (by simp only [results, Tryd.results57]; simp [go_sem, G0, G1, G2, G3]) rfl ⟨rfl, ?_⟩
  exact ((wr4_below (below_drewN ((Below.refl _ _).alloc (Nat.le_refl _) _) _) (Nat.le_refl _) _ _ _ _).alloc (by simp [wr4]) _).alloc (by simp [wr4]; omega) _
set_option maxHeartbeats 4000000 in
theorem guess_ff1 (s : ByteArray) (k : Nat) (w : World) (hE : Env w) (hs : s.size ≤ 140737488355328) (hF : findN (cutL 32 s.data.toList).1 = some k) (hA : opA k = false) (hB : opB k = false) (hI : opI k = 1) :
    Calls Tryd.prog 57 #[.string s] w fun e w' => e = .returned (.tuple #[.agg #[.int .i64 k, .int .i64 0, .int .i64 0, .int .i64 ((tkN (cutL 32 s.data.toList).2).1)], .bool true]) ∧ Below w.heap.size w w' := by
  have hk := findN_lt hF
  have HE := Lib.hid hE
  have HF := Lib.hid (findV_some hF)
  clear hE hF
  have l0 : (cutL 32 s.data.toList).2.length ≤ 140737488355328 := by
    have := (cutL_len 32 s.data.toList).2; rw [ba_len] at this; omega
  generalize hr : (cutL 32 s.data.toList).2 = r at *
  have l1 := tkR_len r
  have l2 := tkR_len (tkR r).2
  have a16 := Lib.hid and16
  go_enter Tryd.func57, Tryd.ntmps57
  go_wp2_with fail
  refine (cut_any _ _ _ (by omega)).mono ?_
  rintro e w1 ⟨f, rfl, kk, rfl⟩
  rw [hr]
  clear hr
  go_wp2_with fail
  refine (findE _ _ ((HE.out.box _).drewN _).1 _ HF.out).mono ?_
  rintro e w1 ⟨rfl, rfl⟩
  have HE1 := Lib.hid ((HE.out.box (.cells #[.int .i64 0, .int .i64 0, .int .i64 0, .int .i64 0] 50)).drewN kk)
  obtain ⟨c0, c1, c2, c3⟩ := HE1.out.1 k hk
  rw [hA] at c1
  rw [hB] at c2
  rw [hI] at c3
  simp only [World.cell?_drewN] at c0 c1 c2 c3
  have BZ0 : Box4 (((w.alloc (.cells #[.int .i64 0, .int .i64 0, .int .i64 0, .int .i64 0] 50)).drewN kk)) w.heap.size (.int .i64 0) (.int .i64 0) (.int .i64 0) (.int .i64 0) := (Box4.new w (.int .i64 0) (.int .i64 0) (.int .i64 0) (.int .i64 0) 50).drewN kk
  have BA0 := Lib.hid (below_drewN ((Below.refl _ _).alloc (Nat.le_refl _) (.cells #[.int .i64 0, .int .i64 0, .int .i64 0, .int .i64 0] 50)) kk : Below w.heap.size w _)
  have HZ := Lib.hid ((BZ0.box (.cells #[.string (opS k), .bool false, .bool false, .int .i64 1] 88)).box (.cells #[.int .i64 k, .int .i64 0, .int .i64 0, .int .i64 0] 50))
  have BO0 := (Box4.new ((w.alloc (.cells #[.int .i64 0, .int .i64 0, .int .i64 0, .int .i64 0] 50)).drewN kk) (.string (opS k)) (.bool false) (.bool false) (.int .i64 1) 88)
  have BX0 := (Box4.new (((w.alloc (.cells #[.int .i64 0, .int .i64 0, .int .i64 0, .int .i64 0] 50)).drewN kk).alloc (.cells #[.string (opS k), .bool false, .bool false, .int .i64 1] 88)) (.int .i64 k) (.int .i64 0) (.int .i64 0) (.int .i64 0) 50)
  simp only [World.size_alloc, sz_drewN] at BO0 BX0
  have HO := Lib.hid (BO0.box (.cells #[.int .i64 k, .int .i64 0, .int .i64 0, .int .i64 0] 50))
  have HX := Lib.hid BX0
  have HB := Lib.hid ((BA0.out.alloc (by simp) (.cells #[.string (opS k), .bool false, .bool false, .int .i64 1] 88)).alloc (by simp; omega) (.cells #[.int .i64 k, .int .i64 0, .int .i64 0, .int .i64 0] 50))
  have hle := Lib.hid HB.out.size
  clear hA hB hI BZ0 BO0 BX0 BA0
  go_wp2_with fail
  refine (takeNumberL (r) _ (HE.out.kept HB.out) (by omega)).mono ?_
  rintro e w2 ⟨rfl, hb⟩
  have Z2 := Lib.hid (HZ.out.kept hb)
  have O2 := Lib.hid (HO.out.kept hb)
  have X2 := Lib.hid (HX.out.kept hb)
  have B2 := Lib.hid (HB.out.trans (hb.mono (HB.out.size)))
  obtain ⟨⟨z0, z1, z2, z3⟩, y0, y1, y2, y3⟩ := Z2.out
  obtain ⟨⟨o0, o1, o2, o3⟩, p0, p1, p2, p3⟩ := O2.out
  obtain ⟨⟨x0, x1, x2, x3⟩, q0, q1, q2, q3⟩ := X2.out
  clear hb p0 p1 p2 p3
  have F := (Z2.out.other (p := ⟨w.heap.size + 1 + 1, 3, none⟩) (by simp; omega) (.int .i64 (tkN (r)).1)).four
  have FB := Lib.hid (wr4_below (B2.out.setCell (p := ⟨w.heap.size + 1 + 1, 3, none⟩) (by simp; omega) (.int .i64 (tkN (r)).1)) (Nat.le_refl _) (.int .i64 k) (.int .i64 0) (.int .i64 0) (.int .i64 ((tkN r).1)))
  have FH := Lib.hid F
  clear F
  go_wp2
  have F2 := wr4_cells FH.out (.int .i64 k) (.int .i64 (0)) (.int .i64 (0)) (.int .i64 ((tkN r).1))
  refine bodyPost_ret (v := .tuple #[.agg #[.int .i64 k, .int .i64 0, .int .i64 0, .int .i64 ((tkN r).1)], .bool true]) (w := wr4 _ w.heap.size _ _ _ _) (by simp [results, Tryd.results57, go_sem, F2]) rfl ⟨rfl, FB.out⟩
set_option maxHeartbeats 4000000 in
theorem guess_tf0 (s : ByteArray) (k : Nat) (w : World) (hE : Env w) (hs : s.size ≤ 140737488355328) (hF : findN (cutL 32 s.data.toList).1 = some k) (hA : opA k = true) (hB : opB k = false) (hI : opI k = 0) :
    Calls Tryd.prog 57 #[.string s] w fun e w' => e = .returned (.tuple #[.agg #[.int .i64 k, .int .i64 (tkR (cutL 32 s.data.toList).2).1, .int .i64 0, .int .i64 (0)], .bool true]) ∧ Below w.heap.size w w' := by
  have hk := findN_lt hF
  have HE := Lib.hid hE
  have HF := Lib.hid (findV_some hF)
  clear hE hF
  have l0 : (cutL 32 s.data.toList).2.length ≤ 140737488355328 := by
    have := (cutL_len 32 s.data.toList).2; rw [ba_len] at this; omega
  generalize hr : (cutL 32 s.data.toList).2 = r at *
  have l1 := tkR_len r
  have l2 := tkR_len (tkR r).2
  have a16 := Lib.hid and16
  go_enter Tryd.func57, Tryd.ntmps57
  go_wp2_with fail
  refine (cut_any _ _ _ (by omega)).mono ?_
  rintro e w1 ⟨f, rfl, kk, rfl⟩
  rw [hr]
  clear hr
  go_wp2_with fail
  refine (findE _ _ ((HE.out.box _).drewN _).1 _ HF.out).mono ?_
  rintro e w1 ⟨rfl, rfl⟩
  have HE1 := Lib.hid ((HE.out.box (.cells #[.int .i64 0, .int .i64 0, .int .i64 0, .int .i64 0] 50)).drewN kk)
  obtain ⟨c0, c1, c2, c3⟩ := HE1.out.1 k hk
  rw [hA] at c1
  rw [hB] at c2
  rw [hI] at c3
  simp only [World.cell?_drewN] at c0 c1 c2 c3
  have BZ0 : Box4 (((w.alloc (.cells #[.int .i64 0, .int .i64 0, .int .i64 0, .int .i64 0] 50)).drewN kk)) w.heap.size (.int .i64 0) (.int .i64 0) (.int .i64 0) (.int .i64 0) := (Box4.new w (.int .i64 0) (.int .i64 0) (.int .i64 0) (.int .i64 0) 50).drewN kk
  have BA0 := Lib.hid (below_drewN ((Below.refl _ _).alloc (Nat.le_refl _) (.cells #[.int .i64 0, .int .i64 0, .int .i64 0, .int .i64 0] 50)) kk : Below w.heap.size w _)
  have HZ := Lib.hid ((BZ0.box (.cells #[.string (opS k), .bool true, .bool false, .int .i64 0] 88)).box (.cells #[.int .i64 k, .int .i64 0, .int .i64 0, .int .i64 0] 50))
  have BO0 := (Box4.new ((w.alloc (.cells #[.int .i64 0, .int .i64 0, .int .i64 0, .int .i64 0] 50)).drewN kk) (.string (opS k)) (.bool true) (.bool false) (.int .i64 0) 88)
  have BX0 := (Box4.new (((w.alloc (.cells #[.int .i64 0, .int .i64 0, .int .i64 0, .int .i64 0] 50)).drewN kk).alloc (.cells #[.string (opS k), .bool true, .bool false, .int .i64 0] 88)) (.int .i64 k) (.int .i64 0) (.int .i64 0) (.int .i64 0) 50)
  simp only [World.size_alloc, sz_drewN] at BO0 BX0
  have HO := Lib.hid (BO0.box (.cells #[.int .i64 k, .int .i64 0, .int .i64 0, .int .i64 0] 50))
  have HX := Lib.hid BX0
  have HB := Lib.hid ((BA0.out.alloc (by simp) (.cells #[.string (opS k), .bool true, .bool false, .int .i64 0] 88)).alloc (by simp; omega) (.cells #[.int .i64 k, .int .i64 0, .int .i64 0, .int .i64 0] 50))
  have hle := Lib.hid HB.out.size
  clear hA hB hI BZ0 BO0 BX0 BA0
  go_wp2_with fail
  refine (takeRegL (r) _ (HE.out.kept HB.out) (by omega)).mono ?_
  rintro e w2 ⟨rfl, hb⟩
  have Z2 := Lib.hid (HZ.out.kept hb)
  have O2 := Lib.hid (HO.out.kept hb)
  have X2 := Lib.hid (HX.out.kept hb)
  have B2 := Lib.hid (HB.out.trans (hb.mono (HB.out.size)))
  obtain ⟨⟨z0, z1, z2, z3⟩, y0, y1, y2, y3⟩ := Z2.out
  obtain ⟨⟨o0, o1, o2, o3⟩, p0, p1, p2, p3⟩ := O2.out
  obtain ⟨⟨x0, x1, x2, x3⟩, q0, q1, q2, q3⟩ := X2.out
  clear hb p0 p1 p2 p3
  have F := (Z2.out.other (p := ⟨w.heap.size + 1 + 1, 1, none⟩) (by simp; omega) (.int .i64 (tkR (r)).1)).four
  have FB := Lib.hid (wr4_below (B2.out.setCell (p := ⟨w.heap.size + 1 + 1, 1, none⟩) (by simp; omega) (.int .i64 (tkR (r)).1)) (Nat.le_refl _) (.int .i64 k) (.int .i64 (tkR r).1) (.int .i64 0) (.int .i64 (0)))
  have FH := Lib.hid F
  clear F
  go_wp2
  have F2 := wr4_cells FH.out (.int .i64 k) (.int .i64 ((tkR r).1)) (.int .i64 (0)) (.int .i64 (0))
  refine bodyPost_ret (v := .tuple #[.agg #[.int .i64 k, .int .i64 (tkR r).1, .int .i64 0, .int .i64 (0)], .bool true]) (w := wr4 _ w.heap.size _ _ _ _) (by simp [results, Tryd.results57, go_sem, F2]) rfl ⟨rfl, FB.out⟩
set_option maxHeartbeats 4000000 in
theorem guess_tf1 (s : ByteArray) (k : Nat) (w : World) (hE : Env w) (hs : s.size ≤ 140737488355328) (hF : findN (cutL 32 s.data.toList).1 = some k) (hA : opA k = true) (hB : opB k = false) (hI : opI k = 1) :
    Calls Tryd.prog 57 #[.string s] w fun e w' => e = .returned (.tuple #[.agg #[.int .i64 k, .int .i64 (tkR (cutL 32 s.data.toList).2).1, .int .i64 0, .int .i64 ((tkN (tkR (cutL 32 s.data.toList).2).2).1)], .bool true]) ∧ Below w.heap.size w w' := by
  have hk := findN_lt hF
  have HE := Lib.hid hE
  have HF := Lib.hid (findV_some hF)
  clear hE hF
  have l0 : (cutL 32 s.data.toList).2.length ≤ 140737488355328 := by
    have := (cutL_len 32 s.data.toList).2; rw [ba_len] at this; omega
  generalize hr : (cutL 32 s.data.toList).2 = r at *
  have l1 := tkR_len r
  have l2 := tkR_len (tkR r).2
  have a16 := Lib.hid and16
  go_enter Tryd.func57, Tryd.ntmps57
  go_wp2_with fail
  refine (cut_any _ _ _ (by omega)).mono ?_
  rintro e w1 ⟨f, rfl, kk, rfl⟩
  rw [hr]
  clear hr
  go_wp2_with fail
  refine (findE _ _ ((HE.out.box _).drewN _).1 _ HF.out).mono ?_
  rintro e w1 ⟨rfl, rfl⟩
  have HE1 := Lib.hid ((HE.out.box (.cells #[.int .i64 0, .int .i64 0, .int .i64 0, .int .i64 0] 50)).drewN kk)
  obtain ⟨c0, c1, c2, c3⟩ := HE1.out.1 k hk
  rw [hA] at c1
  rw [hB] at c2
  rw [hI] at c3
  simp only [World.cell?_drewN] at c0 c1 c2 c3
  have BZ0 : Box4 (((w.alloc (.cells #[.int .i64 0, .int .i64 0, .int .i64 0, .int .i64 0] 50)).drewN kk)) w.heap.size (.int .i64 0) (.int .i64 0) (.int .i64 0) (.int .i64 0) := (Box4.new w (.int .i64 0) (.int .i64 0) (.int .i64 0) (.int .i64 0) 50).drewN kk
  have BA0 := Lib.hid (below_drewN ((Below.refl _ _).alloc (Nat.le_refl _) (.cells #[.int .i64 0, .int .i64 0, .int .i64 0, .int .i64 0] 50)) kk : Below w.heap.size w _)
  have HZ := Lib.hid ((BZ0.box (.cells #[.string (opS k), .bool true, .bool false, .int .i64 1] 88)).box (.cells #[.int .i64 k, .int .i64 0, .int .i64 0, .int .i64 0] 50))
  have BO0 := (Box4.new ((w.alloc (.cells #[.int .i64 0, .int .i64 0, .int .i64 0, .int .i64 0] 50)).drewN kk) (.string (opS k)) (.bool true) (.bool false) (.int .i64 1) 88)
  have BX0 := (Box4.new (((w.alloc (.cells #[.int .i64 0, .int .i64 0, .int .i64 0, .int .i64 0] 50)).drewN kk).alloc (.cells #[.string (opS k), .bool true, .bool false, .int .i64 1] 88)) (.int .i64 k) (.int .i64 0) (.int .i64 0) (.int .i64 0) 50)
  simp only [World.size_alloc, sz_drewN] at BO0 BX0
  have HO := Lib.hid (BO0.box (.cells #[.int .i64 k, .int .i64 0, .int .i64 0, .int .i64 0] 50))
  have HX := Lib.hid BX0
  have HB := Lib.hid ((BA0.out.alloc (by simp) (.cells #[.string (opS k), .bool true, .bool false, .int .i64 1] 88)).alloc (by simp; omega) (.cells #[.int .i64 k, .int .i64 0, .int .i64 0, .int .i64 0] 50))
  have hle := Lib.hid HB.out.size
  clear hA hB hI BZ0 BO0 BX0 BA0
  go_wp2_with fail
  refine (takeRegL (r) _ (HE.out.kept HB.out) (by omega)).mono ?_
  rintro e w2 ⟨rfl, hb⟩
  have Z2 := Lib.hid (HZ.out.kept hb)
  have O2 := Lib.hid (HO.out.kept hb)
  have X2 := Lib.hid (HX.out.kept hb)
  have B2 := Lib.hid (HB.out.trans (hb.mono (HB.out.size)))
  obtain ⟨⟨z0, z1, z2, z3⟩, y0, y1, y2, y3⟩ := Z2.out
  obtain ⟨⟨o0, o1, o2, o3⟩, p0, p1, p2, p3⟩ := O2.out
  obtain ⟨⟨x0, x1, x2, x3⟩, q0, q1, q2, q3⟩ := X2.out
  clear hb p0 p1 p2 p3
  have hx : w.heap.size + 1 + 1 < w2.heap.size := X2.out.lt
  have Z2s := Lib.hid (Z2.out.other (p := ⟨w.heap.size + 1 + 1, 1, none⟩) (by simp; omega) (.int .i64 (tkR (r)).1))
  have O2s := Lib.hid (O2.out.other (p := ⟨w.heap.size + 1 + 1, 1, none⟩) (by simp) (.int .i64 (tkR (r)).1))
  have X2s := Lib.hid (X2.out.set1 (.int .i64 (tkR (r)).1))
  have B2s := Lib.hid (B2.out.setCell (p := ⟨w.heap.size + 1 + 1, 1, none⟩) (by simp; omega) (.int .i64 (tkR (r)).1))
  clear hx
  go_wp2_with fail
  refine (takeNumberL ((tkR r).2) _ (HE.out.kept B2s.out) (by omega)).mono ?_
  rintro e w3 ⟨rfl, hb⟩
  have Z3 := Lib.hid (Z2s.out.kept hb)
  have O3 := Lib.hid (O2s.out.kept hb)
  have X3 := Lib.hid (X2s.out.kept hb)
  have B3 := Lib.hid (B2s.out.trans (hb.mono (B2s.out.size)))
  obtain ⟨⟨z0, z1, z2, z3⟩, y0, y1, y2, y3⟩ := Z3.out
  obtain ⟨⟨o0, o1, o2, o3⟩, p0, p1, p2, p3⟩ := O3.out
  obtain ⟨⟨x0, x1, x2, x3⟩, q0, q1, q2, q3⟩ := X3.out
  clear hb p0 p1 p2 p3
  have F := (Z3.out.other (p := ⟨w.heap.size + 1 + 1, 3, none⟩) (by simp; omega) (.int .i64 (tkN ((tkR r).2)).1)).four
  have FB := Lib.hid (wr4_below (B3.out.setCell (p := ⟨w.heap.size + 1 + 1, 3, none⟩) (by simp; omega) (.int .i64 (tkN ((tkR r).2)).1)) (Nat.le_refl _) (.int .i64 k) (.int .i64 (tkR r).1) (.int .i64 0) (.int .i64 ((tkN (tkR r).2).1)))
  have FH := Lib.hid F
  clear F
  go_wp2
  have F2 := wr4_cells FH.out (.int .i64 k) (.int .i64 ((tkR r).1)) (.int .i64 (0)) (.int .i64 ((tkN (tkR r).2).1))
  refine bodyPost_ret (v := .tuple #[.agg #[.int .i64 k, .int .i64 (tkR r).1, .int .i64 0, .int .i64 ((tkN (tkR r).2).1)], .bool true]) (w := wr4 _ w.heap.size _ _ _ _) (by simp [results, Tryd.results57, go_sem, F2]) rfl ⟨rfl, FB.out⟩
set_option maxHeartbeats 4000000 in
theorem guess_tf3 (s : ByteArray) (k : Nat) (w : World) (hE : Env w) (hs : s.size ≤ 140737488355328) (hF : findN (cutL 32 s.data.toList).1 = some k) (hA : opA k = true) (hB : opB k = false) (hI : opI k = 3) :
    Calls Tryd.prog 57 #[.string s] w fun e w' => e = .returned (.tuple #[.agg #[.int .i64 k, .int .i64 (tkR (cutL 32 s.data.toList).2).1, .int .i64 0, .int .i64 ((tkN (tkR (cutL 32 s.data.toList).2).2).1 % 65536)], .bool true]) ∧ Below w.heap.size w w' := by
  have hk := findN_lt hF
  have HE := Lib.hid hE
  have HF := Lib.hid (findV_some hF)
  clear hE hF
  have l0 : (cutL 32 s.data.toList).2.length ≤ 140737488355328 := by
    have := (cutL_len 32 s.data.toList).2; rw [ba_len] at this; omega
  generalize hr : (cutL 32 s.data.toList).2 = r at *
  have l1 := tkR_len r
  have l2 := tkR_len (tkR r).2
  have a16 := Lib.hid and16
  go_enter Tryd.func57, Tryd.ntmps57
  go_wp2_with fail
  refine (cut_any _ _ _ (by omega)).mono ?_
  rintro e w1 ⟨f, rfl, kk, rfl⟩
  rw [hr]
  clear hr
  go_wp2_with fail
  refine (findE _ _ ((HE.out.box _).drewN _).1 _ HF.out).mono ?_
  rintro e w1 ⟨rfl, rfl⟩
  have HE1 := Lib.hid ((HE.out.box (.cells #[.int .i64 0, .int .i64 0, .int .i64 0, .int .i64 0] 50)).drewN kk)
  obtain ⟨c0, c1, c2, c3⟩ := HE1.out.1 k hk
  rw [hA] at c1
  rw [hB] at c2
  rw [hI] at c3
  simp only [World.cell?_drewN] at c0 c1 c2 c3
  have BZ0 : Box4 (((w.alloc (.cells #[.int .i64 0, .int .i64 0, .int .i64 0, .int .i64 0] 50)).drewN kk)) w.heap.size (.int .i64 0) (.int .i64 0) (.int .i64 0) (.int .i64 0) := (Box4.new w (.int .i64 0) (.int .i64 0) (.int .i64 0) (.int .i64 0) 50).drewN kk
  have BA0 := Lib.hid (below_drewN ((Below.refl _ _).alloc (Nat.le_refl _) (.cells #[.int .i64 0, .int .i64 0, .int .i64 0, .int .i64 0] 50)) kk : Below w.heap.size w _)
  have HZ := Lib.hid ((BZ0.box (.cells #[.string (opS k), .bool true, .bool false, .int .i64 3] 88)).box (.cells #[.int .i64 k, .int .i64 0, .int .i64 0, .int .i64 0] 50))
  have BO0 := (Box4.new ((w.alloc (.cells #[.int .i64 0, .int .i64 0, .int .i64 0, .int .i64 0] 50)).drewN kk) (.string (opS k)) (.bool true) (.bool false) (.int .i64 3) 88)
  have BX0 := (Box4.new (((w.alloc (.cells #[.int .i64 0, .int .i64 0, .int .i64 0, .int .i64 0] 50)).drewN kk).alloc (.cells #[.string (opS k), .bool true, .bool false, .int .i64 3] 88)) (.int .i64 k) (.int .i64 0) (.int .i64 0) (.int .i64 0) 50)
  simp only [World.size_alloc, sz_drewN] at BO0 BX0
  have HO := Lib.hid (BO0.box (.cells #[.int .i64 k, .int .i64 0, .int .i64 0, .int .i64 0] 50))
  have HX := Lib.hid BX0
  have HB := Lib.hid ((BA0.out.alloc (by simp) (.cells #[.string (opS k), .bool true, .bool false, .int .i64 3] 88)).alloc (by simp; omega) (.cells #[.int .i64 k, .int .i64 0, .int .i64 0, .int .i64 0] 50))
  have hle := Lib.hid HB.out.size
  clear hA hB hI BZ0 BO0 BX0 BA0
  go_wp2_with fail
  refine (takeRegL (r) _ (HE.out.kept HB.out) (by omega)).mono ?_
  rintro e w2 ⟨rfl, hb⟩
  have Z2 := Lib.hid (HZ.out.kept hb)
  have O2 := Lib.hid (HO.out.kept hb)
  have X2 := Lib.hid (HX.out.kept hb)
  have B2 := Lib.hid (HB.out.trans (hb.mono (HB.out.size)))
  obtain ⟨⟨z0, z1, z2, z3⟩, y0, y1, y2, y3⟩ := Z2.out
  obtain ⟨⟨o0, o1, o2, o3⟩, p0, p1, p2, p3⟩ := O2.out
  obtain ⟨⟨x0, x1, x2, x3⟩, q0, q1, q2, q3⟩ := X2.out
  clear hb p0 p1 p2 p3
  have hx : w.heap.size + 1 + 1 < w2.heap.size := X2.out.lt
  have Z2s := Lib.hid (Z2.out.other (p := ⟨w.heap.size + 1 + 1, 1, none⟩) (by simp; omega) (.int .i64 (tkR (r)).1))
  have O2s := Lib.hid (O2.out.other (p := ⟨w.heap.size + 1 + 1, 1, none⟩) (by simp) (.int .i64 (tkR (r)).1))
  have X2s := Lib.hid (X2.out.set1 (.int .i64 (tkR (r)).1))
  have B2s := Lib.hid (B2.out.setCell (p := ⟨w.heap.size + 1 + 1, 1, none⟩) (by simp; omega) (.int .i64 (tkR (r)).1))
  clear hx
  go_wp2_with fail
  refine (takeNumberL ((tkR r).2) _ (HE.out.kept B2s.out) (by omega)).mono ?_
  rintro e w3 ⟨rfl, hb⟩
  have Z3 := Lib.hid (Z2s.out.kept hb)
  have O3 := Lib.hid (O2s.out.kept hb)
  have X3 := Lib.hid (X2s.out.kept hb)
  have B3 := Lib.hid (B2s.out.trans (hb.mono (B2s.out.size)))
  obtain ⟨⟨z0, z1, z2, z3⟩, y0, y1, y2, y3⟩ := Z3.out
  obtain ⟨⟨o0, o1, o2, o3⟩, p0, p1, p2, p3⟩ := O3.out
  obtain ⟨⟨x0, x1, x2, x3⟩, q0, q1, q2, q3⟩ := X3.out
  clear hb p0 p1 p2 p3
  have ha := a16.out (tkN ((tkR r).2)).1
  have F := (Z3.out.other (p := ⟨w.heap.size + 1 + 1, 3, none⟩) (by simp; omega) (.int .i64 ((tkN ((tkR r).2)).1 % 65536))).four
  have FB := Lib.hid (wr4_below (B3.out.setCell (p := ⟨w.heap.size + 1 + 1, 3, none⟩) (by simp; omega) (.int .i64 ((tkN ((tkR r).2)).1 % 65536))) (Nat.le_refl _) (.int .i64 k) (.int .i64 (tkR r).1) (.int .i64 0) (.int .i64 ((tkN (tkR r).2).1 % 65536)))
  have FH := Lib.hid F
  clear F
  go_wp2
  have F2 := wr4_cells FH.out (.int .i64 k) (.int .i64 ((tkR r).1)) (.int .i64 (0)) (.int .i64 ((tkN (tkR r).2).1 % 65536))
  refine bodyPost_ret (v := .tuple #[.agg #[.int .i64 k, .int .i64 (tkR r).1, .int .i64 0, .int .i64 ((tkN (tkR r).2).1 % 65536)], .bool true]) (w := wr4 _ w.heap.size _ _ _ _) (by simp [results, Tryd.results57, go_sem, F2]) rfl ⟨rfl, FB.out⟩
set_option maxHeartbeats 4000000 in
theorem guess_tt2 (s : ByteArray) (k : Nat) (w : World) (hE : Env w) (hs : s.size ≤ 140737488355328) (hF : findN (cutL 32 s.data.toList).1 = some k) (hA : opA k = true) (hB : opB k = true) (hI : opI k = 2) :
    Calls Tryd.prog 57 #[.string s] w fun e w' => e = .returned (.tuple #[.agg #[.int .i64 k, .int .i64 (tkR (cutL 32 s.data.toList).2).1, .int .i64 (tkR (tkR (cutL 32 s.data.toList).2).2).1, .int .i64 ((tkR (tkR (tkR (cutL 32 s.data.toList).2).2).2).1)], .bool true]) ∧ Below w.heap.size w w' := by
  have hk := findN_lt hF
  have HE := Lib.hid hE
  have HF := Lib.hid (findV_some hF)
  clear hE hF
  have l0 : (cutL 32 s.data.toList).2.length ≤ 140737488355328 := by
    have := (cutL_len 32 s.data.toList).2; rw [ba_len] at this; omega
  generalize hr : (cutL 32 s.data.toList).2 = r at *
  have l1 := tkR_len r
  have l2 := tkR_len (tkR r).2
  have a16 := Lib.hid and16
  go_enter Tryd.func57, Tryd.ntmps57
  go_wp2_with fail
  refine (cut_any _ _ _ (by omega)).mono ?_
  rintro e w1 ⟨f, rfl, kk, rfl⟩
  rw [hr]
  clear hr
  go_wp2_with fail
  refine (findE _ _ ((HE.out.box _).drewN _).1 _ HF.out).mono ?_
  rintro e w1 ⟨rfl, rfl⟩
  have HE1 := Lib.hid ((HE.out.box (.cells #[.int .i64 0, .int .i64 0, .int .i64 0, .int .i64 0] 50)).drewN kk)
  obtain ⟨c0, c1, c2, c3⟩ := HE1.out.1 k hk
  rw [hA] at c1
  rw [hB] at c2
  rw [hI] at c3
  simp only [World.cell?_drewN] at c0 c1 c2 c3
  have BZ0 : Box4 (((w.alloc (.cells #[.int .i64 0, .int .i64 0, .int .i64 0, .int .i64 0] 50)).drewN kk)) w.heap.size (.int .i64 0) (.int .i64 0) (.int .i64 0) (.int .i64 0) := (Box4.new w (.int .i64 0) (.int .i64 0) (.int .i64 0) (.int .i64 0) 50).drewN kk
  have BA0 := Lib.hid (below_drewN ((Below.refl _ _).alloc (Nat.le_refl _) (.cells #[.int .i64 0, .int .i64 0, .int .i64 0, .int .i64 0] 50)) kk : Below w.heap.size w _)
  have HZ := Lib.hid ((BZ0.box (.cells #[.string (opS k), .bool true, .bool true, .int .i64 2] 88)).box (.cells #[.int .i64 k, .int .i64 0, .int .i64 0, .int .i64 0] 50))
  have BO0 := (Box4.new ((w.alloc (.cells #[.int .i64 0, .int .i64 0, .int .i64 0, .int .i64 0] 50)).drewN kk) (.string (opS k)) (.bool true) (.bool true) (.int .i64 2) 88)
  have BX0 := (Box4.new (((w.alloc (.cells #[.int .i64 0, .int .i64 0, .int .i64 0, .int .i64 0] 50)).drewN kk).alloc (.cells #[.string (opS k), .bool true, .bool true, .int .i64 2] 88)) (.int .i64 k) (.int .i64 0) (.int .i64 0) (.int .i64 0) 50)
  simp only [World.size_alloc, sz_drewN] at BO0 BX0
  have HO := Lib.hid (BO0.box (.cells #[.int .i64 k, .int .i64 0, .int .i64 0, .int .i64 0] 50))
  have HX := Lib.hid BX0
  have HB := Lib.hid ((BA0.out.alloc (by simp) (.cells #[.string (opS k), .bool true, .bool true, .int .i64 2] 88)).alloc (by simp; omega) (.cells #[.int .i64 k, .int .i64 0, .int .i64 0, .int .i64 0] 50))
  have hle := Lib.hid HB.out.size
  clear hA hB hI BZ0 BO0 BX0 BA0
  go_wp2_with fail
  refine (takeRegL (r) _ (HE.out.kept HB.out) (by omega)).mono ?_
  rintro e w2 ⟨rfl, hb⟩
  have Z2 := Lib.hid (HZ.out.kept hb)
  have O2 := Lib.hid (HO.out.kept hb)
  have X2 := Lib.hid (HX.out.kept hb)
  have B2 := Lib.hid (HB.out.trans (hb.mono (HB.out.size)))
  obtain ⟨⟨z0, z1, z2, z3⟩, y0, y1, y2, y3⟩ := Z2.out
  obtain ⟨⟨o0, o1, o2, o3⟩, p0, p1, p2, p3⟩ := O2.out
  obtain ⟨⟨x0, x1, x2, x3⟩, q0, q1, q2, q3⟩ := X2.out
  clear hb p0 p1 p2 p3
  have hx : w.heap.size + 1 + 1 < w2.heap.size := X2.out.lt
  have Z2s := Lib.hid (Z2.out.other (p := ⟨w.heap.size + 1 + 1, 1, none⟩) (by simp; omega) (.int .i64 (tkR (r)).1))
  have O2s := Lib.hid (O2.out.other (p := ⟨w.heap.size + 1 + 1, 1, none⟩) (by simp) (.int .i64 (tkR (r)).1))
  have X2s := Lib.hid (X2.out.set1 (.int .i64 (tkR (r)).1))
  have B2s := Lib.hid (B2.out.setCell (p := ⟨w.heap.size + 1 + 1, 1, none⟩) (by simp; omega) (.int .i64 (tkR (r)).1))
  clear hx
  go_wp2_with fail
  refine (takeRegL ((tkR r).2) _ (HE.out.kept B2s.out) (by omega)).mono ?_
  rintro e w3 ⟨rfl, hb⟩
  have Z3 := Lib.hid (Z2s.out.kept hb)
  have O3 := Lib.hid (O2s.out.kept hb)
  have X3 := Lib.hid (X2s.out.kept hb)
  have B3 := Lib.hid (B2s.out.trans (hb.mono (B2s.out.size)))
  obtain ⟨⟨z0, z1, z2, z3⟩, y0, y1, y2, y3⟩ := Z3.out
  obtain ⟨⟨o0, o1, o2, o3⟩, p0, p1, p2, p3⟩ := O3.out
  obtain ⟨⟨x0, x1, x2, x3⟩, q0, q1, q2, q3⟩ := X3.out
  clear hb p0 p1 p2 p3
  have hx : w.heap.size + 1 + 1 < w3.heap.size := X3.out.lt
  have Z3s := Lib.hid (Z3.out.other (p := ⟨w.heap.size + 1 + 1, 2, none⟩) (by simp; omega) (.int .i64 (tkR ((tkR r).2)).1))
  have O3s := Lib.hid (O3.out.other (p := ⟨w.heap.size + 1 + 1, 2, none⟩) (by simp) (.int .i64 (tkR ((tkR r).2)).1))
  have X3s := Lib.hid (X3.out.set2 (.int .i64 (tkR ((tkR r).2)).1))
  have B3s := Lib.hid (B3.out.setCell (p := ⟨w.heap.size + 1 + 1, 2, none⟩) (by simp; omega) (.int .i64 (tkR ((tkR r).2)).1))
  clear hx
  go_wp2_with fail
  refine (takeRegL ((tkR (tkR r).2).2) _ (HE.out.kept B3s.out) (by omega)).mono ?_
  rintro e w4 ⟨rfl, hb⟩
  have Z4 := Lib.hid (Z3s.out.kept hb)
  have O4 := Lib.hid (O3s.out.kept hb)
  have X4 := Lib.hid (X3s.out.kept hb)
  have B4 := Lib.hid (B3s.out.trans (hb.mono (B3s.out.size)))
  obtain ⟨⟨z0, z1, z2, z3⟩, y0, y1, y2, y3⟩ := Z4.out
  obtain ⟨⟨o0, o1, o2, o3⟩, p0, p1, p2, p3⟩ := O4.out
  obtain ⟨⟨x0, x1, x2, x3⟩, q0, q1, q2, q3⟩ := X4.out
  clear hb p0 p1 p2 p3
  have F := (Z4.out.other (p := ⟨w.heap.size + 1 + 1, 3, none⟩) (by simp; omega) (.int .i64 (tkR ((tkR (tkR r).2).2)).1)).four
  have FB := Lib.hid (wr4_below (B4.out.setCell (p := ⟨w.heap.size + 1 + 1, 3, none⟩) (by simp; omega) (.int .i64 (tkR ((tkR (tkR r).2).2)).1)) (Nat.le_refl _) (.int .i64 k) (.int .i64 (tkR r).1) (.int .i64 (tkR (tkR r).2).1) (.int .i64 ((tkR (tkR (tkR r).2).2).1)))
  have FH := Lib.hid F
  clear F
  go_wp2
  have F2 := wr4_cells FH.out (.int .i64 k) (.int .i64 ((tkR r).1)) (.int .i64 ((tkR (tkR r).2).1)) (.int .i64 ((tkR (tkR (tkR r).2).2).1))
  refine bodyPost_ret (v := .tuple #[.agg #[.int .i64 k, .int .i64 (tkR r).1, .int .i64 (tkR (tkR r).2).1, .int .i64 ((tkR (tkR (tkR r).2).2).1)], .bool true]) (w := wr4 _ w.heap.size _ _ _ _) (by simp [results, Tryd.results57, go_sem, F2]) rfl ⟨rfl, FB.out⟩
set_option maxHeartbeats 4000000 in
theorem guess_tt3 (s : ByteArray) (k : Nat) (w : World) (hE : Env w) (hs : s.size ≤ 140737488355328) (hF : findN (cutL 32 s.data.toList).1 = some k) (hA : opA k = true) (hB : opB k = true) (hI : opI k = 3) :
    Calls Tryd.prog 57 #[.string s] w fun e w' => e = .returned (.tuple #[.agg #[.int .i64 k, .int .i64 (tkR (cutL 32 s.data.toList).2).1, .int .i64 (tkR (tkR (cutL 32 s.data.toList).2).2).1, .int .i64 ((tkN (tkR (tkR (cutL 32 s.data.toList).2).2).2).1 % 65536)], .bool true]) ∧ Below w.heap.size w w' := by
  have hk := findN_lt hF
  have HE := Lib.hid hE
  have HF := Lib.hid (findV_some hF)
  clear hE hF
  have l0 : (cutL 32 s.data.toList).2.length ≤ 140737488355328 := by
    have := (cutL_len 32 s.data.toList).2; rw [ba_len] at this; omega
  generalize hr : (cutL 32 s.data.toList).2 = r at *
  have l1 := tkR_len r
  have l2 := tkR_len (tkR r).2
  have a16 := Lib.hid and16
  go_enter Tryd.func57, Tryd.ntmps57
  go_wp2_with fail
  refine (cut_any _ _ _ (by omega)).mono ?_
  rintro e w1 ⟨f, rfl, kk, rfl⟩
  rw [hr]
  clear hr
  go_wp2_with fail
  refine (findE _ _ ((HE.out.box _).drewN _).1 _ HF.out).mono ?_
  rintro e w1 ⟨rfl, rfl⟩
  have HE1 := Lib.hid ((HE.out.box (.cells #[.int .i64 0, .int .i64 0, .int .i64 0, .int .i64 0] 50)).drewN kk)
  obtain ⟨c0, c1, c2, c3⟩ := HE1.out.1 k hk
  rw [hA] at c1
  rw [hB] at c2
  rw [hI] at c3
  simp only [World.cell?_drewN] at c0 c1 c2 c3
  have BZ0 : Box4 (((w.alloc (.cells #[.int .i64 0, .int .i64 0, .int .i64 0, .int .i64 0] 50)).drewN kk)) w.heap.size (.int .i64 0) (.int .i64 0) (.int .i64 0) (.int .i64 0) := (Box4.new w (.int .i64 0) (.int .i64 0) (.int .i64 0) (.int .i64 0) 50).drewN kk
  have BA0 := Lib.hid (below_drewN ((Below.refl _ _).alloc (Nat.le_refl _) (.cells #[.int .i64 0, .int .i64 0, .int .i64 0, .int .i64 0] 50)) kk : Below w.heap.size w _)
  have HZ := Lib.hid ((BZ0.box (.cells #[.string (opS k), .bool true, .bool true, .int .i64 3] 88)).box (.cells #[.int .i64 k, .int .i64 0, .int .i64 0, .int .i64 0] 50))
  have BO0 := (Box4.new ((w.alloc (.cells #[.int .i64 0, .int .i64 0, .int .i64 0, .int .i64 0] 50)).drewN kk) (.string (opS k)) (.bool true) (.bool true) (.int .i64 3) 88)
  have BX0 := (Box4.new (((w.alloc (.cells #[.int .i64 0, .int .i64 0, .int .i64 0, .int .i64 0] 50)).drewN kk).alloc (.cells #[.string (opS k), .bool true, .bool true, .int .i64 3] 88)) (.int .i64 k) (.int .i64 0) (.int .i64 0) (.int .i64 0) 50)
  simp only [World.size_alloc, sz_drewN] at BO0 BX0
  have HO := Lib.hid (BO0.box (.cells #[.int .i64 k, .int .i64 0, .int .i64 0, .int .i64 0] 50))
  have HX := Lib.hid BX0
  have HB := Lib.hid ((BA0.out.alloc (by simp) (.cells #[.string (opS k), .bool true, .bool true, .int .i64 3] 88)).alloc (by simp; omega) (.cells #[.int .i64 k, .int .i64 0, .int .i64 0, .int .i64 0] 50))
  have hle := Lib.hid HB.out.size
  clear hA hB hI BZ0 BO0 BX0 BA0
  go_wp2_with fail
  refine (takeRegL (r) _ (HE.out.kept HB.out) (by omega)).mono ?_
  rintro e w2 ⟨rfl, hb⟩
  have Z2 := Lib.hid (HZ.out.kept hb)
  have O2 := Lib.hid (HO.out.kept hb)
  have X2 := Lib.hid (HX.out.kept hb)
  have B2 := Lib.hid (HB.out.trans (hb.mono (HB.out.size)))
  obtain ⟨⟨z0, z1, z2, z3⟩, y0, y1, y2, y3⟩ := Z2.out
  obtain ⟨⟨o0, o1, o2, o3⟩, p0, p1, p2, p3⟩ := O2.out
  obtain ⟨⟨x0, x1, x2, x3⟩, q0, q1, q2, q3⟩ := X2.out
  clear hb p0 p1 p2 p3
  have hx : w.heap.size + 1 + 1 < w2.heap.size := X2.out.lt
  have Z2s := Lib.hid (Z2.out.other (p := ⟨w.heap.size + 1 + 1, 1, none⟩) (by simp; omega) (.int .i64 (tkR (r)).1))
  have O2s := Lib.hid (O2.out.other (p := ⟨w.heap.size + 1 + 1, 1, none⟩) (by simp) (.int .i64 (tkR (r)).1))
  have X2s := Lib.hid (X2.out.set1 (.int .i64 (tkR (r)).1))
  have B2s := Lib.hid (B2.out.setCell (p := ⟨w.heap.size + 1 + 1, 1, none⟩) (by simp; omega) (.int .i64 (tkR (r)).1))
  clear hx
  go_wp2_with fail
  refine (takeRegL ((tkR r).2) _ (HE.out.kept B2s.out) (by omega)).mono ?_
  rintro e w3 ⟨rfl, hb⟩
  have Z3 := Lib.hid (Z2s.out.kept hb)
  have O3 := Lib.hid (O2s.out.kept hb)
  have X3 := Lib.hid (X2s.out.kept hb)
  have B3 := Lib.hid (B2s.out.trans (hb.mono (B2s.out.size)))
  obtain ⟨⟨z0, z1, z2, z3⟩, y0, y1, y2, y3⟩ := Z3.out
  obtain ⟨⟨o0, o1, o2, o3⟩, p0, p1, p2, p3⟩ := O3.out
  obtain ⟨⟨x0, x1, x2, x3⟩, q0, q1, q2, q3⟩ := X3.out
  clear hb p0 p1 p2 p3
  have hx : w.heap.size + 1 + 1 < w3.heap.size := X3.out.lt
  have Z3s := Lib.hid (Z3.out.other (p := ⟨w.heap.size + 1 + 1, 2, none⟩) (by simp; omega) (.int .i64 (tkR ((tkR r).2)).1))
  have O3s := Lib.hid (O3.out.other (p := ⟨w.heap.size + 1 + 1, 2, none⟩) (by simp) (.int .i64 (tkR ((tkR r).2)).1))
  have X3s := Lib.hid (X3.out.set2 (.int .i64 (tkR ((tkR r).2)).1))
  have B3s := Lib.hid (B3.out.setCell (p := ⟨w.heap.size + 1 + 1, 2, none⟩) (by simp; omega) (.int .i64 (tkR ((tkR r).2)).1))
  clear hx
  go_wp2_with fail
  refine (takeNumberL ((tkR (tkR r).2).2) _ (HE.out.kept B3s.out) (by omega)).mono ?_
  rintro e w4 ⟨rfl, hb⟩
  have Z4 := Lib.hid (Z3s.out.kept hb)
  have O4 := Lib.hid (O3s.out.kept hb)
  have X4 := Lib.hid (X3s.out.kept hb)
  have B4 := Lib.hid (B3s.out.trans (hb.mono (B3s.out.size)))
  obtain ⟨⟨z0, z1, z2, z3⟩, y0, y1, y2, y3⟩ := Z4.out
  obtain ⟨⟨o0, o1, o2, o3⟩, p0, p1, p2, p3⟩ := O4.out
  obtain ⟨⟨x0, x1, x2, x3⟩, q0, q1, q2, q3⟩ := X4.out
  clear hb p0 p1 p2 p3
  have ha := a16.out (tkN ((tkR (tkR r).2).2)).1
  have F := (Z4.out.other (p := ⟨w.heap.size + 1 + 1, 3, none⟩) (by simp; omega) (.int .i64 ((tkN ((tkR (tkR r).2).2)).1 % 65536))).four
  have FB := Lib.hid (wr4_below (B4.out.setCell (p := ⟨w.heap.size + 1 + 1, 3, none⟩) (by simp; omega) (.int .i64 ((tkN ((tkR (tkR r).2).2)).1 % 65536))) (Nat.le_refl _) (.int .i64 k) (.int .i64 (tkR r).1) (.int .i64 (tkR (tkR r).2).1) (.int .i64 ((tkN (tkR (tkR r).2).2).1 % 65536)))
  have FH := Lib.hid F
  clear F
  go_wp2
  have F2 := wr4_cells FH.out (.int .i64 k) (.int .i64 ((tkR r).1)) (.int .i64 ((tkR (tkR r).2).1)) (.int .i64 ((tkN (tkR (tkR r).2).2).1 % 65536))
  refine bodyPost_ret (v := .tuple #[.agg #[.int .i64 k, .int .i64 (tkR r).1, .int .i64 (tkR (tkR r).2).1, .int .i64 ((tkN (tkR (tkR r).2).2).1 % 65536)], .bool true]) (w := wr4 _ w.heap.size _ _ _ _) (by simp [results, Tryd.results57, go_sem, F2]) rfl ⟨rfl, FB.out⟩
/-- What guess answers. -/
def guessV (l : List UInt8) : Value := match findN (cutL 32 l).1 with
  | none => .tuple #[.agg #[.int .i64 0, .int .i64 0, .int .i64 0, .int .i64 0], .bool false]
  | some k => .tuple #[.agg #[.int .i64 k, .int .i64 (guessK k (cutL 32 l).2).1, .int .i64 (guessK k (cutL 32 l).2).2.1, .int .i64 (guessK k (cutL 32 l).2).2.2], .bool true]
theorem guess_any (s : ByteArray) (w : World) (hE : Env w) (hs : s.size ≤ 140737488355328) :
    Calls Tryd.prog 57 #[.string s] w fun e w' => e = .returned (guessV s.data.toList) ∧ Below w.heap.size w w' := by
  cases hF : findN (cutL 32 s.data.toList).1 with
  | none =>
    refine (guess_none s w hE hs hF).mono ?_
    rintro e w' ⟨rfl, hb⟩
    exact ⟨by simp only [guessV, hF], hb⟩
  | some k =>
    rcases combos k (findN_lt hF) with ⟨hA, hB, hI | hI⟩ | ⟨hA, hB, hI | hI | hI⟩ | ⟨hA, hB, hI | hI⟩
    · refine (guess_ff0 s k w hE hs hF hA hB hI).mono ?_
      rintro e w' ⟨rfl, hb⟩
      exact ⟨by simp [guessV, hF, guessK, gA, gB, gI, hA, hB, hI], hb⟩
    · refine (guess_ff1 s k w hE hs hF hA hB hI).mono ?_
      rintro e w' ⟨rfl, hb⟩
      exact ⟨by simp [guessV, hF, guessK, gA, gB, gI, hA, hB, hI], hb⟩
    · refine (guess_tf0 s k w hE hs hF hA hB hI).mono ?_
      rintro e w' ⟨rfl, hb⟩
      exact ⟨by simp [guessV, hF, guessK, gA, gB, gI, hA, hB, hI], hb⟩
    · refine (guess_tf1 s k w hE hs hF hA hB hI).mono ?_
      rintro e w' ⟨rfl, hb⟩
      exact ⟨by simp [guessV, hF, guessK, gA, gB, gI, hA, hB, hI], hb⟩
    · refine (guess_tf3 s k w hE hs hF hA hB hI).mono ?_
      rintro e w' ⟨rfl, hb⟩
      exact ⟨by simp [guessV, hF, guessK, gA, gB, gI, hA, hB, hI], hb⟩
    · refine (guess_tt2 s k w hE hs hF hA hB hI).mono ?_
      rintro e w' ⟨rfl, hb⟩
      exact ⟨by simp [guessV, hF, guessK, gA, gB, gI, hA, hB, hI], hb⟩
    · refine (guess_tt3 s k w hE hs hF hA hB hI).mono ?_
      rintro e w' ⟨rfl, hb⟩
      exact ⟨by simp [guessV, hF, guessK, gA, gB, gI, hA, hB, hI], hb⟩
end Go.Proofs.YtlfhcnpbgbnadaaDoor
