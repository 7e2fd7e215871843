/-
  What stage's need, slot, indexes, needFirst, needFrame, at, first, isTable, put, drop and take do. Conditions: that a space lies there, and that each argument is of its Go type.
-/
import Derived.Test.YtiiggmfindfkfaaGreatStBase
import Derived.StillTailTactics
namespace Go.Proofs.YtiiggmfindfkfaaGreat
open Go.RowKit Nt
namespace St
open Ph En Wk
/-- A panic with an error's number. -/
def panE (k : Int) : Ending := .panicked [{ v := .iface 29 (.int .i64 k), recovered := false }]
theorem need_yes (e : Int) (w : World) : Calls Tryz.prog 56 #[.bool true, .int .i64 e] w fun E w' => E = .returned (.tuple #[]) ∧ w = w' := by
  go_enter Tryz.func56, Tryz.ntmps56
  go_wp2
  go_end0
  exact ⟨rfl, rfl⟩
theorem need_no (e : Int) (w : World) : Calls Tryz.prog 56 #[.bool false, .int .i64 e] w fun E w' => E = panE e ∧ w = w' := by
  go_enter Tryz.func56, Tryz.ntmps56
  go_wp2
  exact ⟨rfl, rfl, rfl⟩
theorem slot_any (t i : Nat) (w : World) (ht : t < 65536) (hi : i < 64) : Calls Tryz.prog 59 #[.int .i64 t, .int .i64 i] w fun E w' => E = .returned (.int .u32 ((256 * t + 4 * i : Nat) : Int)) ∧ w = w' := by
  have e1 : ((256 * t + 4 * i : Nat) : Int) = 256 * (t : Int) + 4 * i := by omega
  rw [e1]
  go_enter Tryz.func59, Tryz.ntmps59
  go_wp2
  go_ret
  exact ⟨rfl, rfl⟩
theorem indexes_yes (p : Nat) (w : World) (hp : p < 4096) : Calls Tryz.prog 54 #[.int .i64 p] w fun E w' => E = .returned (.tuple #[.int .i64 ((p / 64 : Nat) : Int), .int .i64 ((p % 64 : Nat) : Int)]) ∧ ∃ k, w' = w.drewN k := by
  have e1 : (p : Int) * 256 / 16384 % 64 = ((p / 64 : Nat) : Int) := by omega
  have e2 : (p : Int) * 256 / 256 % 64 = ((p % 64 : Nat) : Int) := by omega
  go_enter Tryz.func54, Tryz.ntmps54
  go_wp2_with (first | (go_at_call 93; refine (join0 p _ (by omega) (by omega)).mono ?_; rintro e w' ⟨rfl, rfl⟩) | (go_at_call 56; refine (need_yes _ _).mono ?_; rintro e w' ⟨rfl, rfl⟩))
  refine (first_any _ _ (by omega) (by omega)).mono ?_
  rintro e w1 ⟨rfl, k1, rfl⟩
  rw [e1]
  go_wp2_with fail
  refine (second_any _ _ (by omega) (by omega)).mono ?_
  rintro e w1 ⟨rfl, k2, rfl⟩
  rw [e2]
  go_wp2
  go_ret2
  exact ⟨rfl, _, rfl⟩
theorem indexes_no (p : Int) (w : World) (hp : ¬ (0 ≤ p ∧ p < 4096)) : Calls Tryz.prog 54 #[.int .i64 p] w fun E w' => E = panE 11 ∧ w = w' := by
  have HP := Lib.hid hp
  clear hp
  go_enter Tryz.func54, Tryz.ntmps54
  go_wp2_with (first | (go_at_call 93; refine (join_no p 0 _ (fun h => HP.out ⟨h.1, h.2.1⟩)).mono ?_; rintro e w' ⟨rfl, rfl⟩) | (go_at_call 56; refine (need_no _ _).mono ?_; rintro e w' ⟨rfl, rfl⟩; unfold panE))
  exact ⟨rfl, rfl, rfl⟩
theorem needFirst_yes (i : Int) (w : World) (h : 0 ≤ i ∧ i < 64) : Calls Tryz.prog 66 #[.int .i64 i] w fun E w' => E = .returned (.tuple #[]) ∧ w = w' := by
  have d1 : decide (0 ≤ i) = true := decide_eq_true h.1
  have d2 : decide (i < 64) = true := decide_eq_true h.2
  clear h
  go_enter Tryz.func66, Tryz.ntmps66
  go_wp2_with (go_at_call 56; refine (need_yes _ _).mono ?_; rintro e w' ⟨rfl, rfl⟩)
  go_end0
  exact ⟨rfl, rfl⟩
theorem needFirst_no (i : Int) (w : World) (h : ¬ (0 ≤ i ∧ i < 64)) : Calls Tryz.prog 66 #[.int .i64 i] w fun E w' => E = panE 11 ∧ w = w' := by
  by_cases h0 : 0 ≤ i
  · have d1 : decide (0 ≤ i) = true := decide_eq_true h0
    have d2 : decide (i < 64) = false := decide_eq_false (by omega)
    clear h
    go_enter Tryz.func66, Tryz.ntmps66
    go_wp2_with (go_at_call 56; refine (need_no _ _).mono ?_; rintro e w' ⟨rfl, rfl⟩; unfold panE)
    exact ⟨rfl, rfl, rfl⟩
  · have d1 : decide (0 ≤ i) = false := decide_eq_false h0
    clear h
    go_enter Tryz.func66, Tryz.ntmps66
    go_wp2_with (go_at_call 56; refine (need_no _ _).mono ?_; rintro e w' ⟨rfl, rfl⟩; unfold panE)
    exact ⟨rfl, rfl, rfl⟩
section
variable {L : Loc} {v : Value} {x : Pl}
theorem needFrame_yes (f : Int) (w : World) (hS : St L w v x) (h : 0 ≤ f ∧ f < L.n) : Calls Tryz.prog 55 #[.pointer (some ⟨L.s, 0, none⟩), .int .i64 f] w fun E w' => E = .returned (.tuple #[]) ∧ w = w' := by
  have d1 : decide (0 ≤ f) = true := decide_eq_true h.1
  have d2 : decide (f < (L.n : Int)) = true := decide_eq_true h.2
  have c0 := hS.c0
  have hh := hS.mem.head
  clear h hS
  go_enter Tryz.func55, Tryz.ntmps55
  go_wp2_with (first | (go_at_call 96; refine (frames_any L.m L.F L.n L.c _ hh).mono ?_; rintro e w' ⟨rfl, rfl⟩) | (go_at_call 56; refine (need_yes _ _).mono ?_; rintro e w' ⟨rfl, rfl⟩))
  go_end0
  exact ⟨rfl, rfl⟩
theorem needFrame_no (f : Int) (w : World) (hS : St L w v x) (h : ¬ (0 ≤ f ∧ f < L.n)) : Calls Tryz.prog 55 #[.pointer (some ⟨L.s, 0, none⟩), .int .i64 f] w fun E w' => E = panE 11 ∧ w = w' := by
  have c0 := hS.c0
  have hh := hS.mem.head
  clear hS
  by_cases h0 : 0 ≤ f
  · have d1 : decide (0 ≤ f) = true := decide_eq_true h0
    have d2 : decide (f < (L.n : Int)) = false := decide_eq_false (by omega)
    clear h
    go_enter Tryz.func55, Tryz.ntmps55
    go_wp2_with (first | (go_at_call 96; refine (frames_any L.m L.F L.n L.c _ hh).mono ?_; rintro e w' ⟨rfl, rfl⟩) | (go_at_call 56; refine (need_no _ _).mono ?_; rintro e w' ⟨rfl, rfl⟩; unfold panE))
    exact ⟨rfl, rfl, rfl⟩
  · have d1 : decide (0 ≤ f) = false := decide_eq_false h0
    clear h
    go_enter Tryz.func55, Tryz.ntmps55
    go_wp2_with (first | (go_at_call 56; refine (need_no _ _).mono ?_; rintro e w' ⟨rfl, rfl⟩; unfold panE))
    exact ⟨rfl, rfl, rfl⟩
theorem decode_at (y : Int) (V W X B : Bool) (f : Int) (w : World) (hy : W32 y) (hE : entOf y = ⟨V, W, X, B, f⟩) :
    Calls Tryz.prog 50 #[.int .u32 y] w fun e w' => e = .returned (.agg #[.bool V, .bool W, .bool X, .bool B, .int .i64 f]) ∧ Below w.heap.size w w' := by
  have h := decode_any y w hy.1 hy.2
  unfold entOf at hE
  injection hE with e0 e1 e2 e3 e4
  rw [e0, e1, e2, e3, e4] at h
  exact h
/-- The entry that stands at an address. -/
theorem at_any (a : Nat) (V W X B : Bool) (f : Int) (w : World) (hS : St L w v x) (ha : a < 4294967296) (hE : entOf (rdw L.n x.z a) = ⟨V, W, X, B, f⟩) :
    Calls Tryz.prog 97 #[.pointer (some ⟨L.s, 0, none⟩), .int .u32 a] w fun e w' => e = .returned (.agg #[.bool V, .bool W, .bool X, .bool B, .int .i64 f]) ∧ Below w.heap.size w w' := by
  have HV := Lib.hid (show W32 (rdw L.n x.z a) from rdw_lt (fun j hj => hS.mem.row.b8 j hj) a)
  have B0 := Lib.hid ((Below.refl w.heap.size w).alloc (Nat.le_refl _) (.cells #[.bool false, .bool false, .bool false, .bool false, .int .i64 0] 62))
  have S1 := Lib.hid (hS.alloc (.cells #[.bool false, .bool false, .bool false, .bool false, .int .i64 0] 62))
  have HF := Lib.hid (five_new w false false false false 0 62)
  have HG := Lib.hid (free_new w #[.bool false, .bool false, .bool false, .bool false, .int .i64 0] 62)
  have EV := Lib.hid hE
  have c0 := S1.out.c0
  clear hS hE
  go_enter Tryz.func97, Tryz.ntmps97
  go_wp2_with fail
  generalize w.alloc (.cells #[.bool false, .bool false, .bool false, .bool false, .int .i64 0] 62) = u at *
  refine (word_any L.m L.F L.n L.c a x.z u S1.out.mem ha).mono ?_
  rintro e w1 ⟨rfl, k1, rfl⟩
  have bd := drewB (Below.refl u.heap.size u) k1
  have B1 := Lib.hid (B0.out.trans (bd.mono B0.out.size))
  have F1 := Lib.hid (HF.out.kept' bd)
  have G1 := Lib.hid (HG.out.kept' bd)
  clear HF HG S1 B0 bd c0
  generalize u.drewN k1 = u1 at *
  go_wp2_with fail
  refine (decode_at _ V W X B f u1 HV.out EV.out).mono ?_
  rintro e u2 ⟨rfl, b2⟩
  obtain ⟨c0, c1, c2, c3, c4⟩ := F1.out.kept' b2
  have G2 := (G1.out.kept' b2).2
  have g0 := G2 0
  have g1 := G2 1
  have g2 := G2 2
  have g3 := G2 3
  have g4 := G2 4
  have B2 := Lib.hid (B1.out.trans (b2.mono B1.out.size))
  clear G2 F1 G1 B1 b2 HV EV
  go_wp2
  refine bodyPost_ret (v := .agg #[.bool V, .bool W, .bool X, .bool B, .int .i64 f]) (by simp [results, Tryz.results97, go_sem, *]) rfl ⟨rfl, ?_⟩
  exact below5 B2.out (Nat.le_refl _) _ _ _ _ _
theorem first_at (i : Nat) (V W X B : Bool) (f : Int) (w : World) (hS : St L w v x) (hr : x.root < L.n) (hi : i < 64) (hE : entOf (wd L.n x.z x.root i) = ⟨V, W, X, B, f⟩) :
    Calls Tryz.prog 57 #[.pointer (some ⟨L.s, 0, none⟩), .int .i64 i] w fun e w' => e = .returned (.agg #[.bool V, .bool W, .bool X, .bool B, .int .i64 f]) ∧ Below w.heap.size w w' := by
  have hf := hS.mem.few
  have B0 := Lib.hid ((Below.refl w.heap.size w).alloc (Nat.le_refl _) (.cells #[.bool false, .bool false, .bool false, .bool false, .int .i64 0] 62))
  have S1 := Lib.hid (hS.alloc (.cells #[.bool false, .bool false, .bool false, .bool false, .int .i64 0] 62))
  have HF := Lib.hid (five_new w false false false false 0 62)
  have HG := Lib.hid (free_new w #[.bool false, .bool false, .bool false, .bool false, .int .i64 0] 62)
  have EV := Lib.hid hE
  have c4 := S1.out.c4
  clear hS hE
  go_enter Tryz.func57, Tryz.ntmps57
  go_wp2_with (go_at_call 59; refine (slot_any x.root i _ (by omega) hi).mono ?_; rintro e w' ⟨rfl, rfl⟩)
  clear c4
  generalize w.alloc (.cells #[.bool false, .bool false, .bool false, .bool false, .int .i64 0] 62) = u at *
  refine (at_any _ V W X B f u S1.out (by omega) EV.out).mono ?_
  rintro e u2 ⟨rfl, b2⟩
  obtain ⟨c0, c1, c2, c3, c4⟩ := HF.out.kept' b2
  have G2 := (HG.out.kept' b2).2
  have g0 := G2 0
  have g1 := G2 1
  have g2 := G2 2
  have g3 := G2 3
  have g4 := G2 4
  have B2 := Lib.hid (B0.out.trans (b2.mono B0.out.size))
  clear G2 HF HG B0 b2 EV S1
  go_wp2
  refine bodyPost_ret (v := .agg #[.bool V, .bool W, .bool X, .bool B, .int .i64 f]) (by simp [results, Tryz.results57, go_sem, *]) rfl ⟨rfl, ?_⟩
  exact below5 B2.out (Nat.le_refl _) _ _ _ _ _
end
theorem isTable_any (V W X B : Bool) (f : Int) (w : World) :
    Calls Tryz.prog 70 #[.agg #[.bool V, .bool W, .bool X, .bool B, .int .i64 f]] w fun e w' => e = .returned (.bool (V && !B)) ∧ Below w.heap.size w w' := by
  have B0 := Lib.hid ((Below.refl w.heap.size w).alloc (Nat.le_refl _) (.cells #[.bool V, .bool W, .bool X, .bool B, .int .i64 f] 62))
  cases V
  · go_enter Tryz.func70, Tryz.ntmps70
    go_wp2
    go_ret
    exact ⟨rfl, B0.out⟩
  · go_enter Tryz.func70, Tryz.ntmps70
    go_wp2
    go_ret
    exact ⟨rfl, B0.out⟩
/-- How a call that changes a space ends: it has returned, and this is the state. -/
def Fin (L : Loc) (v : Value) (w : World) (r : Value) (x' : Pl) (e : Ending) (w' : World) : Prop := e = .returned r ∧ ∃ v', St L w' v' x' ∧ Hop L.S v v' w w'
section
variable {L : Loc} {v : Value} {x : Pl}
set_option maxRecDepth 100000 in
theorem put_any (a : Nat) (y : Int) (w : World) (hS : St L w v x) (ha : hwA L.n a = true) (hy : W32 y) (hl : x.log.length ≤ 1000) :
    Calls Tryz.prog 99 #[.pointer (some ⟨L.s, 0, none⟩), .int .u32 a, .int .u32 y] w (Fin L v w (.tuple #[]) (x.put L.n a y)) := by
  have c0 := hS.c0
  have hf := hS.mem.few
  have HS := Lib.hid hS
  have HA := Lib.hid ha
  have a4 : a < 4294967296 := by unfold hwA at ha; simp at ha; omega
  have HY := Lib.hid hy
  clear hS ha hy
  go_enter Tryz.func99, Tryz.ntmps99
  go_wp2_with fail
  refine (putWord_any L.m L.F L.n L.c a x.z y w HS.out.mem a4 HY.out.1 HY.out.2).mono ?_
  rintro e w1 ⟨rfl, hM, hO⟩
  rw [HA.out]
  have S1 := Lib.hid (HS.out.withMem hM hO)
  have O1 := Lib.hid (hO.mono (S' := L.S) (by simp [Loc.S]))
  have k6 := S1.out.c6
  have l1 := S1.out.lt
  clear hM hO HS c0
  go_wp2_with (first | (go_at_call 56; refine (need_yes _ _).mono ?_; rintro e w' ⟨rfl, rfl⟩) | (at_builtin; refine step_log rfl (.tmp 18) (.tmp 22) rfl L v _ (.put a y) _ _ S1.out hl rfl rfl rfl ?_; intro pa k cap w2 j6 f6 j0 S2 P2))
  go_end0
  exact ⟨rfl, _, S2.out, (Hop.of O1.out v).trans (P2.out.mono (by simp [Loc.S]))⟩
set_option maxRecDepth 100000 in
theorem drop_any (w : World) (hS : St L w v x) (hl : x.log.length ≤ 1000) :
    Calls Tryz.prog 100 #[.pointer (some ⟨L.s, 0, none⟩)] w (Fin L v w (.tuple #[]) (x.drop L.vm)) := by
  have c2 := hS.c2
  have c3 := hS.c3
  have HS := Lib.hid (hS.drewN 1)
  clear hS
  go_enter Tryz.func100, Tryz.ntmps100
  go_wp2_with fail
  go_still_tail 8, (by kernel_rfl)
  change wpList _ _ _ _ _ w.drew
  have O0 := Lib.hid (Only.drewN L.S w 1)
  change Hid (Only L.S w w.drew) at O0
  change Hid (St L w.drew v x) at HS
  generalize w.drew = u at *
  go_wp2_with fail
  refine (Tl.dropAll_any L.p L.pm L.room x.next x.ps (L.vm : Int) u HS.out.tlb).mono ?_
  rintro e w1 ⟨rfl, hT, hO⟩
  have S1 := Lib.hid (HS.out.withTlb hT hO (by simp))
  have O1 := Lib.hid (O0.out.trans (hO.mono (S' := L.S) (by simp [Loc.S])))
  have k6 := S1.out.c6
  have l1 := S1.out.lt
  clear hT hO HS c2 c3 O0
  go_wp2_with (first | (at_builtin; refine step_log rfl (.tmp 15) (.tmp 17) rfl L v _ .drop _ _ S1.out hl rfl rfl rfl ?_; intro pa k cap w2 j6 f6 j0 S2 P2))
  go_end0
  exact ⟨rfl, _, S2.out, (Hop.of O1.out v).trans (P2.out.mono (by simp [Loc.S]))⟩
end
end St
end Go.Proofs.YtiiggmfindfkfaaGreat
