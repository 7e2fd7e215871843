/-
  What nest's slot, tells and own answer, or panic with, at every argument. Conditions: that a memory and a translation on its way lie there, and that each argument is of its Go type.
-/
import Derived.Test.YtdjglmfilhodlaaNsBase
namespace Go.Proofs.Ytdjglmfilhodlaa
open Go.RowKit Nt
namespace Ns
open Ph En Wk
theorem placeS_ok {n : Nat} {z : Nat → Int} {tb a acc : Int} {t : Bool} {rd r : Int} {s : Spot} (h : placeS n z tb a acc t rd = .ok r s) : rd ≤ r ∧ r ≤ rd + 2 ∧ s.h = walkS n z tb a acc ∧ s.h.f = 0 ∧ s.A = 256 * s.h.F + a % 256 ∧ 0 ≤ s.h.F ∧ s.h.F < n := by
  have hr := walkS_r n z tb a acc
  unfold placeS at h
  split at h
  · rename_i hf
    have hF := walkS_F hf
    injection h with h1 h2
    subst h2
    exact ⟨by omega, by omega, rfl, hf, rfl, hF.1, hF.2⟩
  · cases h
theorem placeS_bad {n : Nat} {z : Nat → Int} {tb a acc : Int} {t : Bool} {rd r : Int} {f : Flt} (h : placeS n z tb a acc t rd = .bad r f) : rd ≤ r ∧ r ≤ rd + 2 ∧ f = ⟨2, (walkS n z tb a acc).f, a, t⟩ ∧ (walkS n z tb a acc).f ≠ 0 := by
  have hr := walkS_r n z tb a acc
  unfold placeS at h
  split at h
  · cases h
  · rename_i hf
    injection h with h1 h2
    exact ⟨by omega, by omega, h2.symm, hf⟩
/-- An entry's cells when they are written. -/
def set5 (w : World) (b : Nat) (V W X B : Bool) (F : Int) : World :=
  ((((w.setCell ⟨b, 0, none⟩ (.bool V)).setCell ⟨b, 1, none⟩ (.bool W)).setCell ⟨b, 2, none⟩ (.bool X)).setCell ⟨b, 3, none⟩ (.bool B)).setCell ⟨b, 4, none⟩ (.int .i64 F)
theorem set5_only (w : World) (b : Nat) (V W X B : Bool) (F : Int) : Only [b] w (set5 w b V W X B F) := by
  unfold set5
  exact ((((Only.setCell w (by simp) _ _).trans (Only.setCell _ (by simp) _ _)).trans (Only.setCell _ (by simp) _ _)).trans (Only.setCell _ (by simp) _ _)).trans (Only.setCell _ (by simp) _ _)
set_option maxHeartbeats 2000000 in
theorem slot_any (m F n c cb : Nat) (z : Nat → Int) (tb va rd p i : Int) (w : World) (hM : Mem w m F n c z) (hC : Crs w cb m tb va rd) (hm : m ≠ cb) (hF : F ≠ cb) (h0 : 0 ≤ i) (h1 : i < 64) (r0 : 0 ≤ rd) (r1 : rd ≤ 100) :
    Calls Try.prog 72 #[.pointer (some ⟨cb, 0, none⟩), .int .i64 p, .int .i64 i] w (OutEnd Ent.val (slotS n z tb va p i rd) cb m tb va w) := by
  have hb : Below w.heap.size w (w.alloc (.cells #[.bool false, .bool false, .bool false, .bool false, .int .i64 0] 50)) := (Below.refl _ _).alloc (Nat.le_refl _) _
  have M0 := Lib.hid (hM.kept (Only.of hb []) (by simp) (by simp))
  have C0 := Lib.hid (hC.kept (Only.of hb []) (by simp))
  have O0 := Lib.hid (Only.of hb [cb])
  have Z0 := Lib.hid (five_new w false false false false 0 50)
  have G0 := Lib.hid (free_new w #[.bool false, .bool false, .bool false, .bool false, .int .i64 0] 50)
  have hlt := hC.lt
  have hn : n ≤ 1024 := hM.few
  have hx := hM.lt
  have hy := hM.row.lt
  clear hM hC hb
  go_enter Try.func72, Try.ntmps72
  go_wp2_with fail
  generalize w.alloc (.cells #[.bool false, .bool false, .bool false, .bool false, .int .i64 0] 50) = u at *
  have z1 : IntKind.i64.wrap (4 * i) = 4 * i := IntWalk.i64_in _ (by omega)
  by_cases hp : 0 ≤ p ∧ p < 4096
  case neg =>
    have T := Lib.hid (show slotS n z tb va p i rd = .bad rd ⟨1, 1, va, false⟩ by unfold slotS ipaS; rw [if_neg hp]; rfl)
    refine (ipa_no cb m p _ tb va rd _ C0.out hp).mono ?_
    rintro e w1 ⟨rfl, rfl⟩
    unfold pan
    go_wp2
    exact ⟨rfl, out_bad T.out rfl O0.out C0.out⟩
  obtain ⟨p0, p1⟩ := hp
  refine (ipa_yes cb p (4 * i) _ p0 p1 (by omega) (by omega)).mono ?_
  rintro e w1 ⟨rfl, rfl⟩
  go_wp2_with fail
  refine (place_any m F n c cb z tb va rd (p * 256 + 4 * i) 0 true _ M0.out C0.out (by omega) (by omega) r0 r1).mono ?_
  intro e w1 hE
  cases hP : placeS n z tb (p * 256 + 4 * i) 0 true rd with
  | bad r f =>
    have T := Lib.hid (show slotS n z tb va p i rd = .bad r f by unfold slotS ipaS; rw [if_pos ⟨p0, p1⟩]; simp only [Out.bind, hP])
    rw [hP] at hE
    obtain ⟨rfl, O1, C1⟩ := hE
    have O2 := Lib.hid (O0.out.next O1 (by simp))
    have C2 := Lib.hid C1
    clear O1 C1 hP
    unfold pan
    go_wp2
    exact ⟨rfl, out_bad T.out rfl O2.out C2.out⟩
  | ok r s =>
    obtain ⟨r3, r4, -, hf, hA, hF0, hF1⟩ := placeS_ok hP
    have T := Lib.hid (show slotS n z tb va p i rd = .ok r (entOf (rdw n z s.A.toNat)) by unfold slotS ipaS; rw [if_pos ⟨p0, p1⟩]; simp only [Out.bind, hP])
    rw [hP] at hE
    obtain ⟨rfl, O1, C1⟩ := hE
    obtain ⟨A, f, r', F', W, X, B⟩ := s
    simp only at hf hA hF0 hF1
    subst hf
    have O2 := Lib.hid (O0.out.next O1 (by simp))
    have M2 := Lib.hid (M0.out.kept O1 (by simpa using hm) (by simpa using hF))
    have Z2 := Lib.hid (Z0.out.keptS O1 (by simp; omega))
    have G2 := Lib.hid (G0.out.keptO O1 (by simp; omega))
    have C2 := Lib.hid C1
    have l2 := O1.size
    have TT := Lib.hid hA
    clear O1 C1 hP O0 M0 Z0 G0 C0 hA
    simp only [Spot.val, Hit.val]
    have ha := Only.of ((Below.refl w1.heap.size w1).alloc (Nat.le_refl _) (.cells #[.int .i64 0, .int .i64 r', .int .i64 F', .bool W, .bool X, .bool B] 62)) []
    have M3 := Lib.hid (M2.out.kept ha (by simp) (by simp))
    have C3 := Lib.hid (C2.out.kept ha (by simp))
    have O3 := Lib.hid (O2.out.next ha (by simp))
    have Z3 := Lib.hid (Z2.out.keptS ha (by simp))
    have G3 := Lib.hid (G2.out.keptO ha (by simp))
    have d0 := C3.out.c0
    have e1 := Lib.hid (show A = (A.toNat : Nat) by have := TT.out; omega)
    have e2 : A.toNat < 4294967296 := by have := TT.out; omega
    clear M2 C2 O2 Z2 G2 ha
    go_wp2_with fail
    clear d0
    generalize w1.alloc (.cells #[.int .i64 0, .int .i64 r', .int .i64 F', .bool W, .bool X, .bool B] 62) = w3 at *
    refine (word_at m F n c A.toNat A z w3 M3.out e1.out e2).mono ?_
    rintro e w4 ⟨rfl, k4, rfl⟩
    have HV := Lib.hid (rdw_lt (n := n) (z := z) (fun j hj => M3.out.row.b8 j hj) A.toNat)
    have ho := Only.drewN [] w3 k4
    have C4 := Lib.hid (C3.out.kept ho (by simp))
    have O4 := Lib.hid (O3.out.next ho (by simp))
    have Z4 := Lib.hid (Z3.out.keptS ho (by simp))
    have G4 := Lib.hid (G3.out.keptO ho (by simp))
    clear M3 C3 O3 Z3 G3 ho e1 e2 TT
    generalize w3.drewN k4 = w4 at *
    obtain ⟨v, hv⟩ : ∃ v, v = rdw n z A.toNat := ⟨_, rfl⟩
    rw [← hv] at T HV ⊢
    clear hv
    go_wp2_with fail
    refine (decode_any v w4 HV.out.1 HV.out.2).mono ?_
    rintro e w5 ⟨rfl, b5⟩
    have C5 := Lib.hid (C4.out.kept (Only.of b5 []) (by simp))
    have O5 := Lib.hid (O4.out.next (Only.of b5 []) (by simp))
    obtain ⟨t0, t1, t2, t3, t4⟩ := Z4.out.kept' b5
    have GG := (G4.out.kept' b5).2
    have g0 := GG 0
    have g1 := GG 1
    have g2 := GG 2
    have g3 := GG 3
    have g4 := GG 4
    clear C4 O4 Z4 G4 b5 GG HV
    go_wp2
    have O8 : Only [w.heap.size] w5 (set5 w5 w.heap.size (dV v) (dW v) (dX v) (dB v) (dF v)) := set5_only ..
    refine bodyPost_ret (v := .agg #[.bool (dV v), .bool (dW v), .bool (dX v), .bool (dB v), .int .i64 (dF v)]) (by simp [results, Try.results72, go_sem, t0, t1, t2, t3, t4]) rfl (out_ok T.out rfl (O5.out.next O8 (by simp)) (C5.out.kept O8 (by simp; omega)))
theorem slotS_ok {n : Nat} {z : Nat → Int} {tb va p i rd r : Int} {e : Ent} (h : slotS n z tb va p i rd = .ok r e) : rd ≤ r ∧ r ≤ rd + 2 ∧ 0 ≤ e.F ∧ e.F < 65536 := by
  unfold slotS ipaS at h
  split at h
  · simp only [Out.bind] at h
    split at h
    · rename_i hp
      have := placeS_ok hp
      injection h with h1 h2
      subst h1 h2
      have := dF_lt (rdw n z (Spot.A ‹Spot›).toNat)
      unfold entOf
      exact ⟨by omega, by omega, this.1, this.2⟩
    · cases h
  · simp only [Out.bind] at h
    cases h
set_option maxHeartbeats 2000000 in
theorem tells_any (m F n c cb : Nat) (z : Nat → Int) (tb va rd root : Int) (w : World) (hM : Mem w m F n c z) (hC : Crs w cb m tb va rd) (hm : m ≠ cb) (hF : F ≠ cb) (h0 : 0 ≤ va) (h1 : va < 4294967296) (k0 : 0 ≤ root) (k1 : root < 4294967296) (r0 : 0 ≤ rd) (r1 : rd ≤ 90) :
    Calls Try.prog 66 #[.pointer (some ⟨cb, 0, none⟩), .int .u32 root] w (OutEnd Ent.val (tellsS n z tb va root rd) cb m tb va w) := by
  have hb : Below w.heap.size w (w.alloc (.cells #[.bool false, .bool false, .bool false, .bool false, .int .i64 0] 50)) := (Below.refl _ _).alloc (Nat.le_refl _) _
  have M0 := Lib.hid (hM.kept (Only.of hb []) (by simp) (by simp))
  have C0 := Lib.hid (hC.kept (Only.of hb []) (by simp))
  have O0 := Lib.hid (Only.of hb [cb])
  have Z0 := Lib.hid (five_new w false false false false 0 50)
  have G0 := Lib.hid (free_new w #[.bool false, .bool false, .bool false, .bool false, .int .i64 0] 50)
  have hlt := hC.lt
  have d2 := C0.out.c2
  clear hM hC hb
  go_enter Try.func66, Try.ntmps66
  go_wp2_with fail
  clear d2
  generalize w.alloc (.cells #[.bool false, .bool false, .bool false, .bool false, .int .i64 0] 50) = u at *
  refine (first_any va _ h0 h1).mono ?_
  rintro e w1 ⟨rfl, k, rfl⟩
  have ho := Only.drewN [] u k
  have M1 := Lib.hid (M0.out.kept ho (by simp) (by simp))
  have C1 := Lib.hid (C0.out.kept ho (by simp))
  have O1 := Lib.hid (O0.out.next ho (by simp))
  have Z1 := Lib.hid (Z0.out.keptS ho (by simp))
  have G1 := Lib.hid (G0.out.keptO ho (by simp))
  clear M0 C0 O0 Z0 G0 ho
  generalize u.drewN k = w1 at *
  go_wp2_with fail
  have hw1 := O1.out.size
  have hwl := G1.out.1
  refine (slot_any m F n c cb z tb va rd (root / 256) (va / 16384 % 64) w1 M1.out C1.out hm hF (by omega) (by omega) r0 (by omega)).mono ?_
  intro e w2 hE
  cases hS : slotS n z tb va (root / 256) (va / 16384 % 64) rd with
  | bad r f =>
    have T := Lib.hid (show tellsS n z tb va root rd = .bad r f by unfold tellsS; rw [hS]; rfl)
    rw [hS] at hE
    obtain ⟨rfl, O2, C2⟩ := hE
    have O3 := Lib.hid (O1.out.next O2 (by simp))
    have C3 := Lib.hid C2
    clear O2 C2 hS
    unfold pan
    go_wp2
    exact ⟨rfl, out_bad T.out rfl O3.out C3.out⟩
  | ok r e =>
    obtain ⟨r3, r4, f0, f1⟩ := slotS_ok hS
    rw [hS] at hE
    obtain ⟨rfl, o2, c2⟩ := hE
    obtain ⟨V, W, X, B, f⟩ := e
    simp only at f0 f1
    have HS := Lib.hid hS
    have M2 := M1.out.kept o2 (by simpa using hm) (by simpa using hF)
    have Z2 := Z1.out.keptS o2 (by simp; omega)
    have G2 := G1.out.keptO o2 (by simp; omega)
    have O2 := O1.out.next o2 (by simp)
    have l2 := o2.size
    have ha := Only.of ((Below.refl w2.heap.size w2).alloc (Nat.le_refl _) (.cells #[.bool V, .bool W, .bool X, .bool B, .int .i64 f] 50)) []
    have M3 := Lib.hid (M2.kept ha (by simp) (by simp))
    have C3 := Lib.hid (c2.kept ha (by simp))
    have O3 := Lib.hid (O2.next ha (by simp))
    have Z3 := Lib.hid (Z2.keptS ha (by simp))
    have G3 := Lib.hid (G2.keptO ha (by simp))
    have E3 := Lib.hid (five_new w2 V W X B f 50)
    have F3 := Lib.hid (free_new w2 #[.bool V, .bool W, .bool X, .bool B, .int .i64 f] 50)
    have n1 := Lib.hid (show w2.heap.size ≠ w.heap.size by omega)
    have n2 := Lib.hid (show w2.heap.size ≠ cb by have := c2.lt; omega)
    have n3 := Lib.hid (show w.heap.size ≤ w2.heap.size by omega)
    clear M1 C1 O1 Z1 G1 M2 Z2 G2 O2 c2 ha o2 hS l2 hw1 hwl
    simp only [Ent.val]
    cases V
    case false =>
      have T := Lib.hid (show tellsS n z tb va root rd = .bad r ⟨1, 2, va, false⟩ by unfold tellsS; rw [HS.out]; rfl)
      go_wp2_with fail
      generalize w2.alloc (.cells #[.bool false, .bool W, .bool X, .bool B, .int .i64 f] 50) = w3 at *
      refine (fail_any cb m 2 tb va r w3 C3.out).mono ?_
      rintro e w4 ⟨rfl, rfl⟩
      unfold pan
      go_wp2
      exact ⟨rfl, out_bad T.out rfl O3.out C3.out⟩
    case true =>
      have d2 := C3.out.c2
      go_wp2_with fail
      clear d2
      generalize w2.alloc (.cells #[.bool true, .bool W, .bool X, .bool B, .int .i64 f] 50) = w3 at *
      generalize w2.heap.size = b5 at *
      refine (second_any va w3 h0 h1).mono ?_
      rintro e w4 ⟨rfl, k, rfl⟩
      have ho := Only.drewN [] w3 k
      have M4 := Lib.hid (M3.out.kept ho (by simp) (by simp))
      have C4 := Lib.hid (C3.out.kept ho (by simp))
      have O4 := Lib.hid (O3.out.next ho (by simp))
      have Z4 := Lib.hid (Z3.out.keptS ho (by simp))
      have G4 := Lib.hid (G3.out.keptO ho (by simp))
      have E4 := Lib.hid (E3.out.keptS ho (by simp))
      have F4 := Lib.hid (F3.out.keptO ho (by simp))
      clear M3 C3 O3 Z3 G3 E3 F3 ho
      generalize w3.drewN k = w4 at *
      have v0 : 0 ≤ va / 256 % 64 := by omega
      have v1 : va / 256 % 64 < 64 := by omega
      cases B
      case true =>
        have T := Lib.hid (show tellsS n z tb va root rd = .ok r ⟨true, W, X, true, f + va / 256 % 64⟩ by unfold tellsS; rw [HS.out]; rfl)
        obtain ⟨e0, e1, e2, e3, e4⟩ := E4.out
        have f4 := F4.out.2 4
        obtain ⟨t0, t1, t2, t3, t4⟩ := Z4.out
        have g0 := G4.out.2 0
        have g1 := G4.out.2 1
        have g2 := G4.out.2 2
        have g3 := G4.out.2 3
        have g4 := G4.out.2 4
        have n1' : ¬ b5 = w.heap.size := n1.out
        have n1'' : ¬ w.heap.size = b5 := fun x => n1.out x.symm
        have z1 : IntKind.i64.wrap (f + va / 256 % 64) = f + va / 256 % 64 := IntWalk.i64_in _ (by omega)
        go_wp2
        have h8 := (Only.setCell (S := [b5, w.heap.size]) w4 (by simp) 4 (.int .i64 (f + va / 256 % 64))).trans ((set5_only (w4.setCell ⟨b5, 4, none⟩ (.int .i64 (f + va / 256 % 64))) w.heap.size true W X true (f + va / 256 % 64)).mono (by simp))
        have n4 := n2.out
        have n5 := n3.out
        refine bodyPost_ret (v := .agg #[.bool true, .bool W, .bool X, .bool true, .int .i64 (f + va / 256 % 64)]) (by simp [results, Try.results66, go_sem, t0, t1, t2, t3, t4]) rfl (out_ok T.out rfl (O4.out.next h8 (by simp [n5])) (C4.out.kept h8 (by simp; omega)))
      case false =>
        have e4 := E4.out.c4
        have d3 := E4.out.c3
        go_wp2_with fail
        clear e4 d3 E4 F4
        have l4 := C4.out.lt
        have l5 := G4.out.1
        refine (slot_any m F n c cb z tb va r f (va / 256 % 64) w4 M4.out C4.out hm hF v0 v1 (by omega) (by omega)).mono ?_
        intro e w5 hE
        cases hS2 : slotS n z tb va f (va / 256 % 64) r with
        | bad r' f' =>
          have T := Lib.hid (show tellsS n z tb va root rd = .bad r' f' by unfold tellsS; rw [HS.out]; simp only [Out.bind]; rw [if_neg (by simp), if_neg (by simp), hS2])
          rw [hS2] at hE
          obtain ⟨rfl, o5, c5⟩ := hE
          have O5 := Lib.hid (O4.out.next o5 (by simp))
          have C5 := Lib.hid c5
          clear o5 c5 hS2
          unfold pan
          go_wp2
          exact ⟨rfl, out_bad T.out rfl O5.out C5.out⟩
        | ok r' e' =>
          obtain ⟨V', W', X', B', f'⟩ := e'
          rw [hS2] at hE
          obtain ⟨rfl, o5, c5⟩ := hE
          have Z5 := Z4.out.keptS o5 (by simp; omega)
          have G5 := G4.out.keptO o5 (by simp; omega)
          have O5 := O4.out.next o5 (by simp)
          have l6 := o5.size
          have ha := Only.of ((Below.refl w5.heap.size w5).alloc (Nat.le_refl _) (.cells #[.bool V', .bool W', .bool X', .bool B', .int .i64 f'] 50)) []
          have C6 := Lib.hid (c5.kept ha (by simp))
          have O6 := Lib.hid (O5.next ha (by simp))
          have Z6 := Lib.hid (Z5.keptS ha (by simp))
          have G6 := Lib.hid (G5.keptO ha (by simp))
          have E6 := Lib.hid (five_new w5 V' W' X' B' f' 50)
          have n4 := Lib.hid (show w5.heap.size ≠ w.heap.size by omega)
          have HS2 := Lib.hid hS2
          clear Z5 G5 O5 c5 ha o5 hS2 C4 O4 Z4 G4 M4
          simp only [Ent.val]
          cases V'
          case false =>
            have T := Lib.hid (show tellsS n z tb va root rd = .bad r' ⟨1, 3, va, false⟩ by unfold tellsS; rw [HS.out]; simp only [Out.bind]; rw [if_neg (by simp), if_neg (by simp), HS2.out]; rfl)
            go_wp2_with fail
            generalize w5.alloc (.cells #[.bool false, .bool W', .bool X', .bool B', .int .i64 f'] 50) = w6 at *
            refine (fail_any cb m 3 tb va r' w6 C6.out).mono ?_
            rintro e w7 ⟨rfl, rfl⟩
            unfold pan
            go_wp2
            exact ⟨rfl, out_bad T.out rfl O6.out C6.out⟩
          case true =>
            have T := Lib.hid (show tellsS n z tb va root rd = .ok r' ⟨true, W', X', B', f'⟩ by unfold tellsS; rw [HS.out]; simp only [Out.bind]; rw [if_neg (by simp), if_neg (by simp), HS2.out]; rfl)
            obtain ⟨t0, t1, t2, t3, t4⟩ := Z6.out
            have g0 := G6.out.2 0
            have g1 := G6.out.2 1
            have g2 := G6.out.2 2
            have g3 := G6.out.2 3
            have g4 := G6.out.2 4
            obtain ⟨e0, e1, e2, e3, e4⟩ := E6.out
            have n4' : ¬ w5.heap.size = w.heap.size := n4.out
            have n4'' : ¬ w.heap.size = w5.heap.size := fun x => n4.out x.symm
            generalize hw6 : w5.alloc (.cells #[.bool true, .bool W', .bool X', .bool B', .int .i64 f'] 50) = w6 at *
            go_wp2
            have h8 := set5_only w6 w.heap.size true W' X' B' f'
            refine bodyPost_ret (v := .agg #[.bool true, .bool W', .bool X', .bool B', .int .i64 f']) (by simp [results, Try.results66, go_sem, t0, t1, t2, t3, t4]) rfl (out_ok T.out rfl (O6.out.next h8 (by simp)) (C6.out.kept h8 (by simp; omega)))
theorem tellsS_ok {n : Nat} {z : Nat → Int} {tb va root rd r : Int} {e : Ent} (h : tellsS n z tb va root rd = .ok r e) : rd ≤ r ∧ r ≤ rd + 4 ∧ e.V = true ∧ 0 ≤ e.F ∧ e.F < 65600 := by
  unfold tellsS at h
  cases h1 : slotS n z tb va (root / 256) (va / 16384 % 64) rd with
  | bad r1 f1 => rw [h1] at h; simp only [Out.bind] at h; cases h
  | ok r1 e1 =>
    have b1 := slotS_ok h1
    rw [h1] at h
    simp only [Out.bind] at h
    split at h
    · cases h
    · rename_i hv
      split at h
      · injection h with h2 h3
        subst h2 h3
        exact ⟨by omega, by omega, by simpa using hv, by simp only; omega, by simp only; omega⟩
      · cases h2 : slotS n z tb va e1.F (va / 256 % 64) r1 with
        | bad r2 f2 => rw [h2] at h; simp only at h; cases h
        | ok r2 e2 =>
          have b2 := slotS_ok h2
          rw [h2] at h
          simp only at h
          split at h
          · cases h
          · rename_i hv2
            injection h with h3 h4
            subst h3 h4
            exact ⟨by omega, by omega, by simpa using hv2, b2.2.2.1, by omega⟩
set_option maxHeartbeats 2000000 in
theorem own_any (m F n c cb : Nat) (z : Nat → Int) (tb va rd root acc : Int) (w : World) (hM : Mem w m F n c z) (hC : Crs w cb m tb va rd) (hm : m ≠ cb) (hF : F ≠ cb) (h0 : 0 ≤ va) (h1 : va < 4294967296) (k0 : 0 ≤ root) (k1 : root < 4294967296) (r0 : 0 ≤ rd) (r1 : rd ≤ 90) :
    Calls Try.prog 48 #[.pointer (some ⟨cb, 0, none⟩), .int .u32 root, .int .i64 acc] w (OutEnd Ent.val (ownS n z tb va root acc rd) cb m tb va w) := by
  have hb : Below w.heap.size w (w.alloc (.cells #[.bool false, .bool false, .bool false, .bool false, .int .i64 0] 50)) := (Below.refl _ _).alloc (Nat.le_refl _) _
  have M0 := Lib.hid (hM.kept (Only.of hb []) (by simp) (by simp))
  have C0 := Lib.hid (hC.kept (Only.of hb []) (by simp))
  have O0 := Lib.hid (Only.of hb [cb])
  have Z0 := Lib.hid (five_new w false false false false 0 50)
  have G0 := Lib.hid (free_new w #[.bool false, .bool false, .bool false, .bool false, .int .i64 0] 50)
  have hlt := hC.lt
  have d2 := C0.out.c2
  clear hM hC hb
  go_enter Try.func48, Try.ntmps48
  go_wp2_with fail
  generalize w.alloc (.cells #[.bool false, .bool false, .bool false, .bool false, .int .i64 0] 50) = u at *
  refine (inside_any va u).mono ?_
  rintro e w' ⟨rfl, rfl⟩
  by_cases hv : 1048576 ≤ va
  · have T := Lib.hid (show ownS n z tb va root acc rd = .bad rd ⟨1, 1, va, false⟩ by unfold ownS; rw [if_pos hv])
    have d : decide (va < 1048576) = false := by simp; omega
    go_wp2_with fail
    refine (fail_any cb m 1 tb va rd u C0.out).mono ?_
    rintro e w4 ⟨rfl, rfl⟩
    unfold pan
    go_wp2
    exact ⟨rfl, out_bad T.out rfl O0.out C0.out⟩
  have d : decide (va < 1048576) = true := by simp; omega
  by_cases hr : root = 0
  · subst hr
    have T := Lib.hid (show ownS n z tb va 0 acc rd = .ok rd ⟨true, true, true, false, va / 256 % 4096⟩ by unfold ownS; rw [if_neg hv, if_pos rfl])
    go_wp2_with fail
    refine (pageOf_any va u h0 h1).mono ?_
    rintro e w1 ⟨rfl, k, rfl⟩
    have ho := Only.drewN [] u k
    have C1 := Lib.hid (C0.out.kept ho (by simp))
    have O1 := Lib.hid (O0.out.next ho (by simp))
    obtain ⟨t0, t1, t2, t3, t4⟩ := Z0.out.keptS ho (by simp)
    have G1 := G0.out.keptO ho (by simp)
    have g0 := G1.2 0
    have g1 := G1.2 1
    have g2 := G1.2 2
    have g3 := G1.2 3
    have g4 := G1.2 4
    clear M0 C0 O0 Z0 G0 ho d2 G1 hv d
    generalize u.drewN k = w1 at *
    go_wp2
    have h8 := set5_only w1 w.heap.size true true true false (va / 256 % 4096)
    refine bodyPost_ret (v := .agg #[.bool true, .bool true, .bool true, .bool false, .int .i64 (va / 256 % 4096)]) (by simp [results, Try.results48, go_sem, t0, t1, t2, t3, t4]) rfl (out_ok T.out rfl (O1.out.next h8 (by simp)) (C1.out.kept h8 (by simp; omega)))
  have dr : (root == 0) = false := by simpa using hr
  go_wp2_with fail
  clear d2 d
  have hq : ¬ 1048576 ≤ va := by omega
  have l0 := G0.out.1
  have l1 := C0.out.lt
  refine (tells_any m F n c cb z tb va rd root u M0.out C0.out hm hF h0 h1 k0 k1 r0 r1).mono ?_
  intro e w1 hE
  cases hS : tellsS n z tb va root rd with
  | bad r f =>
    have T := Lib.hid (show ownS n z tb va root acc rd = .bad r f by unfold ownS; rw [if_neg hq, if_neg hr, hS]; rfl)
    rw [hS] at hE
    obtain ⟨rfl, O2, C2⟩ := hE
    have O3 := Lib.hid (O0.out.next O2 (by simp))
    have C3 := Lib.hid C2
    clear O2 C2 hS
    unfold pan
    go_wp2
    exact ⟨rfl, out_bad T.out rfl O3.out C3.out⟩
  | ok r e =>
    have HT := Lib.hid (show ownS n z tb va root acc rd = (if alw e.V e.W e.X acc = false then .bad r ⟨1, 4, va, false⟩ else .ok r e) by unfold ownS; rw [if_neg hq, if_neg hr, hS]; rfl)
    rw [hS] at hE
    obtain ⟨rfl, o2, c2⟩ := hE
    obtain ⟨V, W, X, B, f⟩ := e
    have Z2 := Z0.out.keptS o2 (by simp; omega)
    have G2 := G0.out.keptO o2 (by simp; omega)
    have O2 := O0.out.next o2 (by simp)
    have l2 := o2.size
    have ha := Only.of ((Below.refl w1.heap.size w1).alloc (Nat.le_refl _) (.cells #[.bool V, .bool W, .bool X, .bool B, .int .i64 f] 50)) []
    have C3 := Lib.hid (c2.kept ha (by simp))
    have O3 := Lib.hid (O2.next ha (by simp))
    have Z3 := Lib.hid (Z2.keptS ha (by simp))
    have G3 := Lib.hid (G2.keptO ha (by simp))
    have E3 := Lib.hid (five_new w1 V W X B f 50)
    have n1 := Lib.hid (show w1.heap.size ≠ w.heap.size by omega)
    clear M0 C0 O0 Z0 G0 Z2 G2 O2 c2 ha o2 hS
    simp only [Ent.val]
    go_wp2_with fail
    generalize w1.alloc (.cells #[.bool V, .bool W, .bool X, .bool B, .int .i64 f] 50) = w3 at *
    generalize w1.heap.size = b5 at *
    refine (allows_any V W X B f acc w3).mono ?_
    rintro e w4 ⟨rfl, b4⟩
    have ho := Only.of b4 []
    have C4 := Lib.hid (C3.out.kept ho (by simp))
    have O4 := Lib.hid (O3.out.next ho (by simp))
    obtain ⟨t0, t1, t2, t3, t4⟩ := Z3.out.keptS ho (by simp)
    have G4 := G3.out.keptO ho (by simp)
    have g0 := G4.2 0
    have g1 := G4.2 1
    have g2 := G4.2 2
    have g3 := G4.2 3
    have g4 := G4.2 4
    obtain ⟨e0, e1, e2, e3, e4⟩ := E3.out.keptS ho (by simp)
    have n1' : ¬ b5 = w.heap.size := n1.out
    have n1'' : ¬ w.heap.size = b5 := fun x => n1.out x.symm
    clear C3 O3 Z3 G3 E3 ho b4 G4
    cases ha : alw V W X acc
    case false =>
      have T := Lib.hid (show ownS n z tb va root acc rd = .bad r ⟨1, 4, va, false⟩ by rw [HT.out, if_pos ha])
      clear ha
      go_wp2_with fail
      refine (fail_any cb m 4 tb va r w4 C4.out).mono ?_
      rintro e w5 ⟨rfl, rfl⟩
      unfold pan
      go_wp2
      exact ⟨rfl, out_bad T.out rfl O4.out C4.out⟩
    case true =>
      have T := Lib.hid (show ownS n z tb va root acc rd = .ok r ⟨V, W, X, B, f⟩ by rw [HT.out, if_neg (by simp [ha])])
      clear ha
      go_wp2
      have h8 := set5_only w4 w.heap.size V W X B f
      refine bodyPost_ret (v := .agg #[.bool V, .bool W, .bool X, .bool B, .int .i64 f]) (by simp [results, Try.results48, go_sem, t0, t1, t2, t3, t4]) rfl (out_ok T.out rfl (O4.out.next h8 (by simp)) (C4.out.kept h8 (by simp; omega)))
theorem ownS_ok {n : Nat} {z : Nat → Int} {tb va root acc rd r : Int} {e : Ent} (h : ownS n z tb va root acc rd = .ok r e) : rd ≤ r ∧ r ≤ rd + 4 ∧ e.V = true ∧ 0 ≤ e.F ∧ e.F < 65600 := by
  unfold ownS at h
  split at h
  · cases h
  · split at h
    · injection h with h1 h2
      subst h1 h2
      exact ⟨by omega, by omega, rfl, by simp only; omega, by simp only; omega⟩
    · cases h1 : tellsS n z tb va root rd with
      | bad r1 f1 => rw [h1] at h; simp only [Out.bind] at h; cases h
      | ok r1 e1 =>
        have b1 := tellsS_ok h1
        rw [h1] at h
        simp only [Out.bind] at h
        split at h
        · cases h
        · injection h with h2 h3
          subst h2 h3
          exact b1
end Ns
end Go.Proofs.Ytdjglmfilhodlaa
