/-
  What the document's own reading of a guest's entry answers, at every argument. Conditions: that the document's memory lies there, and that each argument is of its Go type.
-/
import Derived.Test.YtdjglmfilhodlaaNsRef
namespace Go.Proofs.Ytdjglmfilhodlaa
open Go.RowKit Nt
namespace Ns
open Ph En Wk
/-- How read ends. -/
def ReadEnd (o : Out Ent) (w : World) (e : Ending) (w' : World) : Prop :=
  (match o with
  | .bad r f => e = .returned (.tuple #[e0.val, rv ⟨f, r, 0, 0, false, false⟩, .bool false])
  | .ok r x => ∃ t, e = .returned (.tuple #[x.val, rv t, .bool true]) ∧ t.r = r) ∧ Below w.heap.size w w'
theorem read_bad {o : Out Ent} {r : Int} {f : Flt} {w w' : World} {e : Ending} (T : o = .bad r f) (he : e = .returned (.tuple #[e0.val, rv ⟨f, r, 0, 0, false, false⟩, .bool false])) (hb : Below w.heap.size w w') : ReadEnd o w e w' := by
  subst T
  exact ⟨he, hb⟩
theorem read_ok {o : Out Ent} {r : Int} {x : Ent} (t : Tld) {w w' : World} {e : Ending} (T : o = .ok r x) (he : e = .returned (.tuple #[x.val, rv t, .bool true])) (ht : t.r = r) (hb : Below w.heap.size w w') : ReadEnd o w e w' := by
  subst T
  exact ⟨⟨t, he, ht⟩, hb⟩
set_option maxRecDepth 100000 in
set_option maxHeartbeats 4000000 in
theorem read_any (rb G n : Nat) (z : Nat → Int) (tb p i va rd : Int) (w : World) (hM : RMem w rb G n z) (p0 : 0 ≤ p) (p1 : p < 16777216) (i0 : 0 ≤ i) (i1 : i < 64) (r0 : 0 ≤ rd) (r1 : rd ≤ 50) :
    Calls Try.prog 33 #[.pointer (some ⟨rb, 0, none⟩), .int .i64 tb, .int .i64 p, .int .i64 i, .int .u32 va, .int .i64 rd] w (ReadEnd (slotS n z tb va p i rd) w) := by
  have ha := Only.alloc [] w (.cells #[.bool false, .bool false, .bool false, .bool false, .int .i64 0] 83)
  have hb := Only.alloc [] (w.alloc (.cells #[.bool false, .bool false, .bool false, .bool false, .int .i64 0] 83)) (.cells #[.int .i64 0, .int .i64 0, .int .i64 0, .int .i64 0, .int .u32 0, .int .u32 0, .bool false, .bool false, .bool false] 33)
  have M0 := Lib.hid ((hM.kept ha (by simp) (by simp)).kept hb (by simp) (by simp))
  have O0 := Lib.hid (ha.next hb (by simp))
  have E0 := Lib.hid ((five_new w false false false false 0 83).keptS hb (by simp))
  have F0 := Lib.hid ((free_new w #[.bool false, .bool false, .bool false, .bool false, .int .i64 0] 83).keptO hb (by simp))
  have Z0 := Lib.hid (show RNine ((w.alloc (.cells #[.bool false, .bool false, .bool false, .bool false, .int .i64 0] 83)).alloc (.cells #[.int .i64 0, .int .i64 0, .int .i64 0, .int .i64 0, .int .u32 0, .int .u32 0, .bool false, .bool false, .bool false] 33)) (w.heap.size + 1) t0 from by have h : RNine ((w.alloc (.cells #[.bool false, .bool false, .bool false, .bool false, .int .i64 0] 83)).alloc (.cells #[.int .i64 0, .int .i64 0, .int .i64 0, .int .i64 0, .int .u32 0, .int .u32 0, .bool false, .bool false, .bool false] 33)) (w.alloc (.cells #[.bool false, .bool false, .bool false, .bool false, .int .i64 0] 83)).heap.size t0 := rnine_new _ t0 _; rwa [World.size_alloc] at h)
  have G0 := Lib.hid (show Free ((w.alloc (.cells #[.bool false, .bool false, .bool false, .bool false, .int .i64 0] 83)).alloc (.cells #[.int .i64 0, .int .i64 0, .int .i64 0, .int .i64 0, .int .u32 0, .int .u32 0, .bool false, .bool false, .bool false] 33)) (w.heap.size + 1) from by have h := free_new (w.alloc (.cells #[.bool false, .bool false, .bool false, .bool false, .int .i64 0] 83)) #[.int .i64 0, .int .i64 0, .int .i64 0, .int .i64 0, .int .u32 0, .int .u32 0, .bool false, .bool false, .bool false] 33; simpa using h)
  have hn : n ≤ 1024 := hM.few
  clear ha hb hM
  by_cases hp : 4095 < p
  · have T := Lib.hid (show slotS n z tb va p i rd = .bad rd ⟨1, 1, va, false⟩ by unfold slotS ipaS; rw [if_neg (by omega)]; rfl)
    have dp : decide (4095 < p) = true := by simpa using hp
    go_enter Try.func33, Try.ntmps33
    go_wp2_with fail
    generalize (w.alloc (.cells #[.bool false, .bool false, .bool false, .bool false, .int .i64 0] 83)).alloc (.cells #[.int .i64 0, .int .i64 0, .int .i64 0, .int .i64 0, .int .u32 0, .int .u32 0, .bool false, .bool false, .bool false] 33) = u at *
    have l0 := G0.out.1
    have n1 : ¬ w.heap.size = w.heap.size + 1 := by omega
    have n2 : ¬ w.heap.size + 1 = w.heap.size := by omega
    refine (fault_any 1 1 va false rd u).mono ?_
    rintro e w3 ⟨rfl, b3⟩
    have ho := Only.of b3 []
    obtain ⟨e0', e1, e2, e3, e4⟩ := E0.out.keptS ho (by simp)
    obtain ⟨t0', t1, t2, t3, t4, t5, t6, t7, t8⟩ := Z0.out.keptS ho (by simp)
    simp only [Ns.t0] at t0' t1 t2 t3 t4 t5 t6 t7 t8
    have F3 := F0.out.keptO ho (by simp)
    have f0 := F3.2 0
    have f1 := F3.2 1
    have f2 := F3.2 2
    have f3 := F3.2 3
    have f4 := F3.2 4
    have G3 := G0.out.keptO ho (by simp)
    have g0 := G3.2 0
    have g1 := G3.2 1
    have g2 := G3.2 2
    have g3 := G3.2 3
    have g4 := G3.2 4
    have g5 := G3.2 5
    have g6 := G3.2 6
    have g7 := G3.2 7
    have g8 := G3.2 8
    have B3 := Lib.hid ((O0.out.next ho (by simp)).below (Nat.le_refl _) (by simp))
    clear O0 E0 F0 Z0 G0 M0 ho F3 G3 b3 hp
    go_wp2
    refine bodyPost_ret (v := .tuple #[.agg #[.bool false, .bool false, .bool false, .bool false, .int .i64 0], .agg #[.int .i64 1, .int .i64 1, .int .i64 rd, .int .i64 0, .int .u32 va, .int .u32 0, .bool false, .bool false, .bool false], .bool false]) (by simp [results, Try.results33, go_sem, t0', t1, t2, t3, t4, t5, t6, t7, t8, e0', e1, e2, e3, e4]) rfl (read_bad T.out rfl ?_)
    repeat' (first | (with_reducible exact B3.out) | (with_reducible refine Below.setCell ?_ (by simp) _))
  have dp : decide (4095 < p) = false := by simpa using hp
  have hp1 : p < 4096 := by omega
  have z1 : IntKind.i64.wrap (256 * p) = 256 * p := IntWalk.i64_in _ (by omega)
  have z2 : IntKind.i64.wrap (4 * i) = 4 * i := IntWalk.i64_in _ (by omega)
  have z3 : IntKind.i64.wrap (256 * p + 4 * i) = 256 * p + 4 * i := IntWalk.i64_in _ (by omega)
  have z4 : IntKind.u32.wrap (256 * p + 4 * i) = 256 * p + 4 * i := IntWalk.u32_in _ (by omega)
  obtain ⟨a, ha⟩ : ∃ a, a = 256 * p + 4 * i := ⟨_, rfl⟩
  have TI := Lib.hid (show slotS n z tb va p i rd = (placeS n z tb a 0 true rd).bind fun r s => .ok r (entOf (rdw n z s.A.toNat)) by unfold slotS ipaS; rw [if_pos ⟨p0, hp1⟩, show p * 256 + 4 * i = a by omega]; rfl)
  have a0 : 0 ≤ a := by omega
  have a1 : a < 1048576 := by omega
  rw [← ha] at z3 z4
  have AA := Lib.hid ha
  clear hp ha
  go_enter Try.func33, Try.ntmps33
  go_wp2_with fail
  rw [← AA.out]
  generalize (w.alloc (.cells #[.bool false, .bool false, .bool false, .bool false, .int .i64 0] 83)).alloc (.cells #[.int .i64 0, .int .i64 0, .int .i64 0, .int .i64 0, .int .u32 0, .int .u32 0, .bool false, .bool false, .bool false] 33) = u at *
  have l0 := G0.out.1
  have n1 : ¬ w.heap.size = w.heap.size + 1 := by omega
  have n2 : ¬ w.heap.size + 1 = w.heap.size := by omega
  refine (last_any rb G n z tb a 0 rd u M0.out a0 (by omega) r0 (by omega)).mono ?_
  rintro e w3 ⟨rfl, b3⟩
  obtain ⟨⟨f, r, F', W, X, B⟩, hH⟩ : ∃ H, walkS n z tb a 0 = H := ⟨_, rfl⟩
  have hr := walkS_r n z tb a 0
  have hf0 : Hid (f = 0 → 0 ≤ F' ∧ F' < n) := Lib.hid (fun h => by have := walkS_F (n := n) (z := z) (root := tb) (a := a) (acc := 0) (by rw [hH]; exact h); rw [hH] at this; exact this)
  rw [hH] at hr
  have hr0 : 0 ≤ r := hr.1
  have hr2 : r ≤ 2 := hr.2
  have HH := Lib.hid hH
  clear hr hH z1 z2 z3 z4
  by_cases hf : f = 0
  case neg =>
    have PL := place_f (t := false) (rd := rd) HH.out hf
    have T := Lib.hid (show slotS n z tb va p i rd = .bad (rd + r) ⟨2, f, a, true⟩ by rw [TI.out, place_f (t := true) (rd := rd) HH.out hf]; rfl)
    rw [PL]
    have dk : (f != 0) = true := by simpa using hf
    clear PL TI HH hf0 hf
    dsimp only [lastOf, rv]
    have ho := Only.of b3 []
    have ha := Only.alloc [] w3 (.cells #[.int .i64 2, .int .i64 f, .int .i64 (rd + r), .int .i64 0, .int .u32 a, .int .u32 0, .bool true, .bool false, .bool false] 33)
    have O4 := Lib.hid ((O0.out.next ho (by simp)).next ha (by simp))
    have M4 := Lib.hid ((M0.out.kept ho (by simp) (by simp)).kept ha (by simp) (by simp))
    have E4 := Lib.hid ((E0.out.keptS ho (by simp)).keptS ha (by simp))
    have F4 := Lib.hid ((F0.out.keptO ho (by simp)).keptO ha (by simp))
    have Z4 := Lib.hid ((Z0.out.keptS ho (by simp)).keptS ha (by simp))
    have G4 := Lib.hid ((G0.out.keptO ho (by simp)).keptO ha (by simp))
    have N4 := Lib.hid (show RNine (w3.alloc (.cells #[.int .i64 2, .int .i64 f, .int .i64 (rd + r), .int .i64 0, .int .u32 a, .int .u32 0, .bool true, .bool false, .bool false] 33)) w3.heap.size ⟨⟨2, f, a, true⟩, rd + r, 0, 0, false, false⟩ from rnine_new w3 ⟨⟨2, f, a, true⟩, rd + r, 0, 0, false, false⟩ 33)
    have Y4 := Lib.hid (free_new w3 #[.int .i64 2, .int .i64 f, .int .i64 (rd + r), .int .i64 0, .int .u32 a, .int .u32 0, .bool true, .bool false, .bool false] 33)
    have l4 := Lib.hid (show w.heap.size ≤ w3.heap.size by have := ho.size; omega)
    have b5 := Lib.hid (show w3.heap.size ≠ w.heap.size by have := ho.size; omega)
    have b6 := Lib.hid (show w3.heap.size ≠ w.heap.size + 1 by have := ho.size; omega)
    have k1 := N4.out.c1
    clear O0 M0 E0 F0 Z0 G0 ho ha b3
    go_wp2_with fail
    clear k1
    generalize w3.alloc (.cells #[.int .i64 2, .int .i64 f, .int .i64 (rd + r), .int .i64 0, .int .u32 a, .int .u32 0, .bool true, .bool false, .bool false] 33) = w4 at *
    generalize w3.heap.size = bN at *
    have EF := E4.out
    have ZF := Z4.out
    have FF := F4.out
    have GF := G4.out
    have N5 := N4.out
    have B6 := Lib.hid (O4.out.below (Nat.le_refl _) (by simp))
    clear E4 Z4 F4 G4 O4 N4 Y4 M4
    obtain ⟨c0, c1, c2, c3, c4, c5, c6, c7, c8⟩ := N5
    dsimp only at c0 c1 c2 c3 c4 c5 c6 c7 c8
    have n5 : ¬ bN = w.heap.size := b5.out
    have n6 : ¬ bN = w.heap.size + 1 := b6.out
    have n7 : ¬ w.heap.size = bN := fun x => b5.out x.symm
    have n8 : ¬ w.heap.size + 1 = bN := fun x => b6.out x.symm
    obtain ⟨e0', e1, e2, e3, e4⟩ := EF
    obtain ⟨t0', t1, t2, t3, t4, t5, t6, t7, t8⟩ := ZF
    simp only [Ns.t0] at t0' t1 t2 t3 t4 t5 t6 t7 t8
    have f0 := FF.2 0
    have f1 := FF.2 1
    have f2 := FF.2 2
    have f3 := FF.2 3
    have f4 := FF.2 4
    have g0 := GF.2 0
    have g1 := GF.2 1
    have g2 := GF.2 2
    have g3 := GF.2 3
    have g4 := GF.2 4
    have g5 := GF.2 5
    have g6 := GF.2 6
    have g7 := GF.2 7
    have g8 := GF.2 8
    clear FF GF b5 b6
    go_region
    clear c0 c1 c2 c3 c4 c5 c6 c7 c8 n5 n6 n7 n8
    go_wp2
    refine bodyPost_ret (v := .tuple #[.agg #[.bool false, .bool false, .bool false, .bool false, .int .i64 0], .agg #[.int .i64 2, .int .i64 f, .int .i64 (rd + r), .int .i64 0, .int .u32 a, .int .u32 0, .bool true, .bool false, .bool false], .bool false]) (by simp [results, Try.results33, go_sem, t0', t1, t2, t3, t4, t5, t6, t7, t8, e0', e1, e2, e3, e4]) rfl (read_bad T.out rfl ?_)
    repeat' (first | (with_reducible exact B6.out) | (with_reducible refine Below.drew ?_) | (with_reducible refine Below.setCell ?_ (by simp) _))
  subst hf
  obtain ⟨F0, F1⟩ := hf0.out rfl
  have PL := place_0 (t := false) (rd := rd) HH.out rfl
  have T := Lib.hid (show slotS n z tb va p i rd = .ok (rd + r) (entOf (rdw n z (256 * F' + a % 256).toNat)) by rw [TI.out, place_0 (t := true) (rd := rd) HH.out rfl]; rfl)
  rw [PL]
  clear PL TI HH hf0
  dsimp only [lastOf, rv]
  obtain ⟨A, hA⟩ : ∃ A, A = 256 * F' + a % 256 := ⟨_, rfl⟩
  have A0 : 0 ≤ A := by omega
  have A1 : A < 4294967296 := by omega
  rw [← hA] at T ⊢
  clear hA F0 F1
  have ho := Only.of b3 []
  have ha := Only.alloc [] w3 (.cells #[.int .i64 0, .int .i64 0, .int .i64 (rd + r), .int .i64 (a / 256), .int .u32 0, .int .u32 A, .bool false, .bool W, .bool X] 33)
  have O4 := Lib.hid ((O0.out.next ho (by simp)).next ha (by simp))
  have M4 := Lib.hid ((M0.out.kept ho (by simp) (by simp)).kept ha (by simp) (by simp))
  have E4 := Lib.hid ((E0.out.keptS ho (by simp)).keptS ha (by simp))
  have F4 := Lib.hid ((F0.out.keptO ho (by simp)).keptO ha (by simp))
  have Z4 := Lib.hid ((Z0.out.keptS ho (by simp)).keptS ha (by simp))
  have G4 := Lib.hid ((G0.out.keptO ho (by simp)).keptO ha (by simp))
  have N4 := Lib.hid (show RNine (w3.alloc (.cells #[.int .i64 0, .int .i64 0, .int .i64 (rd + r), .int .i64 (a / 256), .int .u32 0, .int .u32 A, .bool false, .bool W, .bool X] 33)) w3.heap.size ⟨⟨0, 0, 0, false⟩, rd + r, a / 256, A, W, X⟩ from rnine_new w3 ⟨⟨0, 0, 0, false⟩, rd + r, a / 256, A, W, X⟩ 33)
  have Y4 := Lib.hid (free_new w3 #[.int .i64 0, .int .i64 0, .int .i64 (rd + r), .int .i64 (a / 256), .int .u32 0, .int .u32 A, .bool false, .bool W, .bool X] 33)
  have l4 := Lib.hid (show w.heap.size ≤ w3.heap.size by have := ho.size; omega)
  have b5 := Lib.hid (show w3.heap.size ≠ w.heap.size by have := ho.size; omega)
  have b6 := Lib.hid (show w3.heap.size ≠ w.heap.size + 1 by have := ho.size; omega)
  have k1 := N4.out.c1
  clear O0 M0 E0 F0 Z0 G0 ho ha b3
  have k5 := N4.out.c5
  dsimp only at k1 k5
  have a2 := Lib.hid (show A = (A.toNat : Nat) by omega)
  have a3 := Lib.hid (show A.toNat < 4294967296 by omega)
  go_wp2_with fail
  clear k1 k5
  generalize w3.alloc (.cells #[.int .i64 0, .int .i64 0, .int .i64 (rd + r), .int .i64 (a / 256), .int .u32 0, .int .u32 A, .bool false, .bool W, .bool X] 33) = w4 at *
  generalize w3.heap.size = bN at *
  refine (rword_at rb G n A.toNat _ z w4 M4.out a2.out a3.out).mono ?_
  rintro e w5 ⟨rfl, rfl⟩
  have HV := Lib.hid (rdw_lt (n := n) (z := z) (fun j hj => M4.out.row.b8 j hj) A.toNat)
  generalize rdw n z A.toNat = v at *
  clear a2 a3
  go_wp2_with fail
  have ho := Only.drewN [] w4 1
  have E5 := Lib.hid (show Five w4.drew w.heap.size false false false false 0 from E4.out.keptS ho (by simp))
  have Z5 := Lib.hid (show RNine w4.drew (w.heap.size + 1) t0 from Z4.out.keptS ho (by simp))
  have F5 := Lib.hid (show Free w4.drew w.heap.size from F4.out.keptO ho (by simp))
  have G5 := Lib.hid (show Free w4.drew (w.heap.size + 1) from G4.out.keptO ho (by simp))
  have N5 := Lib.hid (show RNine w4.drew bN ⟨⟨0, 0, 0, false⟩, rd + r, a / 256, A, W, X⟩ from N4.out.keptS ho (by simp))
  have q0 : w4.drew.cell? ⟨bN, 0, none⟩ = some (.int .i64 0) ∧ w4.drew.cell? ⟨bN, 1, none⟩ = some (.int .i64 0) ∧ w4.drew.cell? ⟨bN, 2, none⟩ = some (.int .i64 (rd + r)) ∧ w4.drew.cell? ⟨bN, 3, none⟩ = some (.int .i64 (a / 256)) ∧ w4.drew.cell? ⟨bN, 4, none⟩ = some (.int .u32 0) ∧ w4.drew.cell? ⟨bN, 5, none⟩ = some (.int .u32 A) ∧ w4.drew.cell? ⟨bN, 6, none⟩ = some (.bool false) ∧ w4.drew.cell? ⟨bN, 7, none⟩ = some (.bool W) ∧ w4.drew.cell? ⟨bN, 8, none⟩ = some (.bool X) := ⟨N5.out.c0, N5.out.c1, N5.out.c2, N5.out.c3, N5.out.c4, N5.out.c5, N5.out.c6, N5.out.c7, N5.out.c8⟩
  have n5 : ¬ bN = w.heap.size := b5.out
  have n6 : ¬ bN = w.heap.size + 1 := b6.out
  have n7 : ¬ w.heap.size = bN := fun x => b5.out x.symm
  have n8 : ¬ w.heap.size + 1 = bN := fun x => b6.out x.symm
  have B6 := Lib.hid (show Below w.heap.size w w4.drew from (O4.out.below (Nat.le_refl _) (by simp)).drew)
  clear E4 Z4 F4 G4 O4 N4 Y4 M4 ho
  go_region_held3 (fun w' => w'.cell? ⟨bN, 0, none⟩ = some (.int .i64 0) ∧ w'.cell? ⟨bN, 1, none⟩ = some (.int .i64 0) ∧ w'.cell? ⟨bN, 2, none⟩ = some (.int .i64 (rd + r)) ∧ w'.cell? ⟨bN, 3, none⟩ = some (.int .i64 (a / 256)) ∧ w'.cell? ⟨bN, 4, none⟩ = some (.int .u32 0) ∧ w'.cell? ⟨bN, 5, none⟩ = some (.int .u32 A) ∧ w'.cell? ⟨bN, 6, none⟩ = some (.bool false) ∧ w'.cell? ⟨bN, 7, none⟩ = some (.bool W) ∧ w'.cell? ⟨bN, 8, none⟩ = some (.bool X)) (first | (with_reducible exact q0) | (with_reducible exact q9) | go_keep) (first
    | (go_at_call 54; refine (rdecode_any v _ HV.out.1 HV.out.2).mono ?_; rintro e w6 ⟨rfl, b7⟩; have hq := Only.of b7 []; have NN := N5.out.keptS hq (by simp); have q9 : w6.cell? ⟨bN, 0, none⟩ = some (.int .i64 0) ∧ w6.cell? ⟨bN, 1, none⟩ = some (.int .i64 0) ∧ w6.cell? ⟨bN, 2, none⟩ = some (.int .i64 (rd + r)) ∧ w6.cell? ⟨bN, 3, none⟩ = some (.int .i64 (a / 256)) ∧ w6.cell? ⟨bN, 4, none⟩ = some (.int .u32 0) ∧ w6.cell? ⟨bN, 5, none⟩ = some (.int .u32 A) ∧ w6.cell? ⟨bN, 6, none⟩ = some (.bool false) ∧ w6.cell? ⟨bN, 7, none⟩ = some (.bool W) ∧ w6.cell? ⟨bN, 8, none⟩ = some (.bool X) := ⟨NN.c0, NN.c1, NN.c2, NN.c3, NN.c4, NN.c5, NN.c6, NN.c7, NN.c8⟩; obtain ⟨e0', e1, e2, e3, e4⟩ := E5.out.keptS hq (by simp); obtain ⟨t0', t1, t2, t3, t4, t5, t6, t7, t8⟩ := Z5.out.keptS hq (by simp); simp only [Ns.t0] at t0' t1 t2 t3 t4 t5 t6 t7 t8; have FF := F5.out.keptO hq (by simp); have f0 := FF.2 0; have f1 := FF.2 1; have f2 := FF.2 2; have f3 := FF.2 3; have f4 := FF.2 4; have GF := G5.out.keptO hq (by simp); have g0 := GF.2 0; have g1 := GF.2 1; have g2 := GF.2 2; have g3 := GF.2 3; have g4 := GF.2 4; have g5 := GF.2 5; have g6 := GF.2 6; have g7 := GF.2 7; have g8 := GF.2 8; have B7 := Lib.hid (B6.out.trans (b7.mono (show w.heap.size ≤ w4.drew.heap.size from B6.out.size)) : Below w.heap.size w w6); clear NN FF GF hq b7))
  rename_i hHeld
  clear hHeld q0 q9 N5 E5 Z5 F5 G5 n5 n6 n7 n8
  go_wp2
  refine bodyPost_ret (v := .tuple #[.agg #[.bool (dV v), .bool (dW v), .bool (dX v), .bool (dB v), .int .i64 (dF v)], .agg #[.int .i64 0, .int .i64 0, .int .i64 (rd + r), .int .i64 (a / 256), .int .u32 0, .int .u32 A, .bool false, .bool W, .bool X], .bool true]) (by simp [results, Try.results33, go_sem, t0', t1, t2, t3, t4, t5, t6, t7, t8, e0', e1, e2, e3, e4]) rfl (read_ok ⟨⟨0, 0, 0, false⟩, rd + r, a / 256, A, W, X⟩ T.out rfl rfl ?_)
  repeat' (first | (with_reducible exact B7.out) | (with_reducible refine Below.drew ?_) | (with_reducible refine Below.setCell ?_ (by simp) _))
end Ns
end Go.Proofs.Ytdjglmfilhodlaa
