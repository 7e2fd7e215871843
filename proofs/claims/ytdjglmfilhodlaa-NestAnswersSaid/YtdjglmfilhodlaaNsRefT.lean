/-
  What the document's own Translate of layer 8 answers, at every argument: what nest's Translate tells. Conditions: that the document's memory lies there, and that each argument is of its Go type.
-/
import Derived.Test.YtdjglmfilhodlaaNsRead
namespace Go.Proofs.Ytdjglmfilhodlaa
open Go.RowKit Nt
namespace Ns
open Ph En Wk
/-- What is told behind the entry of the guest's own stage. -/
def tailT (n : Nat) (z : Nat → Int) (tb va acc r : Int) (W X : Bool) (page : Int) : Tld :=
  if alw true W X acc = false then ⟨⟨1, 4, va, false⟩, r, 0, 0, false, false⟩
  else if 4095 < page then ⟨⟨1, 1, va, false⟩, r, 0, 0, false, false⟩
  else match placeS n z tb (256 * page + va % 256) acc false r with
    | .bad r f => ⟨f, r, 0, 0, false, false⟩
    | .ok r s => ⟨⟨0, 0, 0, false⟩, r, page, s.A, s.h.W && W, s.h.X && X⟩
theorem trans_bad {n : Nat} {z : Nat → Int} {own tb va acc r : Int} {f : Flt} (hv : va < 1048576) (ho : own ≠ 0) (h : tellsS n z tb va own 0 = .bad r f) : transS n z own tb va acc = ⟨f, r, 0, 0, false, false⟩ := by
  unfold transS runS ownS
  rw [if_neg (by omega), if_neg ho, h]
  rfl
theorem trans_tail {n : Nat} {z : Nat → Int} {own tb va acc r page : Int} {W X B : Bool} (hv : va < 1048576) (ho : own ≠ 0) (hp : 0 ≤ page) (h : tellsS n z tb va own 0 = .ok r ⟨true, W, X, B, page⟩) : transS n z own tb va acc = tailT n z tb va acc r W X page := by
  unfold transS runS ownS tailT
  rw [if_neg (by omega), if_neg ho, h]
  simp only [Out.bind]
  by_cases ha : alw true W X acc = false
  · rw [if_pos ha, if_pos ha]; rfl
  · rw [if_neg ha, if_neg ha]
    simp only
    unfold ipaS
    by_cases hq : 4095 < page
    · rw [if_neg (by omega), if_pos hq]; rfl
    · rw [if_pos (by omega), if_neg hq]
      simp only
      rw [show page * 256 + va % 256 = 256 * page + va % 256 by omega]
      cases placeS n z tb (256 * page + va % 256) acc false r with
      | bad r f => rfl
      | ok r s =>
        simp only [toldOf, Bool.true_and]
        rw [Bool.and_comm W, Bool.and_comm X]
theorem trans_off {n : Nat} {z : Nat → Int} {tb va acc : Int} (h0 : 0 ≤ va) (h1 : va < 1048576) : transS n z 0 tb va acc = lastOf va (placeS n z tb va acc false 0) := by
  obtain ⟨h, hw⟩ : ∃ h, walkS n z tb va acc = h := ⟨_, rfl⟩
  rw [off h0 h1 hw]
  by_cases hf : h.f = 0
  · rw [if_pos hf, place_0 hw hf]
    simp only [lastOf]
    rw [show (0 : Int) + h.r = h.r by omega]
  · rw [if_neg hf, place_f hw hf]
    simp only [lastOf]
    rw [show (0 : Int) + h.r = h.r by omega]
theorem trans_high {n : Nat} {z : Nat → Int} {own tb va acc : Int} (h : 1048576 ≤ va) : transS n z own tb va acc = ⟨⟨1, 1, va, false⟩, 0, 0, 0, false, false⟩ := by
  unfold transS runS ownS
  rw [if_pos h]
  rfl
/-- What is told, cell by cell. -/
theorem last_at (rb G n : Nat) (z : Nat → Int) (tb ipa acc rd : Int) (t : Tld) (w : World) (hM : RMem w rb G n z) (h0 : 0 ≤ ipa) (h1 : ipa < 4294967296) (r0 : 0 ≤ rd) (r1 : rd ≤ 100) (ht : lastOf ipa (placeS n z tb ipa acc false rd) = t) :
    Calls Try.prog 32 #[.pointer (some ⟨rb, 0, none⟩), .int .i64 tb, .int .u32 ipa, .int .i64 acc, .int .i64 rd] w fun e w' => e = .returned (.agg #[.int .i64 t.f.st, .int .i64 t.f.kd, .int .i64 t.r, .int .i64 t.P, .int .u32 t.f.ad, .int .u32 t.A, .bool t.f.tb, .bool t.W, .bool t.X]) ∧ Below w.heap.size w w' := by
  subst ht
  exact last_any rb G n z tb ipa acc rd w hM h0 h1 r0 r1
set_option maxRecDepth 100000 in
set_option maxHeartbeats 4000000 in
theorem rtrans_any (rb G n : Nat) (z : Nat → Int) (own tb va acc : Int) (w : World) (hM : RMem w rb G n z) (v0 : 0 ≤ va) (v1 : va < 4294967296) (k0 : 0 ≤ own) (k1 : own < 4294967296) :
    Calls Try.prog 14 #[.pointer (some ⟨rb, 0, none⟩), .int .u32 own, .int .i64 tb, .int .u32 va, .int .i64 acc] w fun e w' => e = .returned (rv (transS n z own tb va acc)) ∧ Below w.heap.size w w' := by
  have ha := Only.alloc [] w (.cells #[.int .i64 0, .int .i64 0, .int .i64 0, .int .i64 0, .int .u32 0, .int .u32 0, .bool false, .bool false, .bool false] 33)
  have M0 := Lib.hid (hM.kept ha (by simp) (by simp))
  have O0 := Lib.hid ha
  have Z0 := Lib.hid (show RNine (w.alloc (.cells #[.int .i64 0, .int .i64 0, .int .i64 0, .int .i64 0, .int .u32 0, .int .u32 0, .bool false, .bool false, .bool false] 33)) w.heap.size t0 from rnine_new w t0 33)
  have G0 := Lib.hid (free_new w #[.int .i64 0, .int .i64 0, .int .i64 0, .int .i64 0, .int .u32 0, .int .u32 0, .bool false, .bool false, .bool false] 33)
  clear ha hM
  by_cases hv : 1048576 ≤ va
  · have T := Lib.hid (trans_high (n := n) (z := z) (own := own) (tb := tb) (acc := acc) hv)
    have d : decide (1048576 ≤ va) = true := by simpa using hv
    go_enter Try.func14, Try.ntmps14
    go_wp2_with fail
    generalize w.alloc (.cells #[.int .i64 0, .int .i64 0, .int .i64 0, .int .i64 0, .int .u32 0, .int .u32 0, .bool false, .bool false, .bool false] 33) = u at *
    refine (fault_any 1 1 va false 0 u).mono ?_
    rintro e w3 ⟨rfl, b3⟩
    have ho := Only.of b3 []
    have M1 := Lib.hid (M0.out.kept ho (by simp) (by simp))
    have O1 := Lib.hid (O0.out.next ho (by simp))
    have Z1 := Lib.hid (Z0.out.keptS ho (by simp))
    have G1 := Lib.hid (G0.out.keptO ho (by simp))
    clear M0 O0 Z0 G0
    clear ho b3
    obtain ⟨t0', t1, t2, t3, t4, t5, t6, t7, t8⟩ := Z1.out
    simp only [Ns.t0] at t0' t1 t2 t3 t4 t5 t6 t7 t8
    have g0 := G1.out.2 0
    have g1 := G1.out.2 1
    have g2 := G1.out.2 2
    have g3 := G1.out.2 3
    have g4 := G1.out.2 4
    have g5 := G1.out.2 5
    have g6 := G1.out.2 6
    have g7 := G1.out.2 7
    have g8 := G1.out.2 8
    have h9 := rset9_only w3 w.heap.size ⟨⟨1, 1, va, false⟩, 0, 0, 0, false, false⟩
    have O9 := Lib.hid (O1.out.next h9 (by simp))
    clear h9
    clear M1 O1 Z1 G1
    go_wp2
    simp only [rset9] at O9
    refine bodyPost_ret (v := .agg #[.int .i64 1, .int .i64 1, .int .i64 0, .int .i64 0, .int .u32 va, .int .u32 0, .bool false, .bool false, .bool false]) (by simp [results, Try.results14, go_sem, t0', t1, t2, t3, t4, t5, t6, t7, t8]) rfl ⟨by rw [T.out]; rfl, O9.out.below (Nat.le_refl _) (by simp)⟩
  have d : decide (1048576 ≤ va) = false := by simp; omega
  have vv : va < 1048576 := by omega
  clear hv
  by_cases hr : own = 0
  · subst hr
    have T := Lib.hid (trans_off (n := n) (z := z) (tb := tb) (acc := acc) v0 vv)
    obtain ⟨t, ht⟩ : ∃ t, lastOf va (placeS n z tb va acc false 0) = t := ⟨_, rfl⟩
    rw [ht] at T
    have HT := Lib.hid ht
    clear ht
    go_enter Try.func14, Try.ntmps14
    go_wp2_with fail
    generalize w.alloc (.cells #[.int .i64 0, .int .i64 0, .int .i64 0, .int .i64 0, .int .u32 0, .int .u32 0, .bool false, .bool false, .bool false] 33) = u at *
    refine (last_at rb G n z tb va acc 0 t u M0.out v0 v1 (by omega) (by omega) HT.out).mono ?_
    rintro e w3 ⟨rfl, b3⟩
    have ho := Only.of b3 []
    have M1 := Lib.hid (M0.out.kept ho (by simp) (by simp))
    have O1 := Lib.hid (O0.out.next ho (by simp))
    have Z1 := Lib.hid (Z0.out.keptS ho (by simp))
    have G1 := Lib.hid (G0.out.keptO ho (by simp))
    clear M0 O0 Z0 G0
    clear ho b3
    obtain ⟨t0', t1, t2, t3, t4, t5, t6, t7, t8⟩ := Z1.out
    simp only [Ns.t0] at t0' t1 t2 t3 t4 t5 t6 t7 t8
    have g0 := G1.out.2 0
    have g1 := G1.out.2 1
    have g2 := G1.out.2 2
    have g3 := G1.out.2 3
    have g4 := G1.out.2 4
    have g5 := G1.out.2 5
    have g6 := G1.out.2 6
    have g7 := G1.out.2 7
    have g8 := G1.out.2 8
    have h9 := rset9_only w3 w.heap.size ⟨⟨t.f.st, t.f.kd, t.f.ad, t.f.tb⟩, t.r, t.P, t.A, t.W, t.X⟩
    have O9 := Lib.hid (O1.out.next h9 (by simp))
    clear h9
    clear M1 O1 Z1 G1
    go_wp2
    simp only [rset9] at O9
    refine bodyPost_ret (v := .agg #[.int .i64 t.f.st, .int .i64 t.f.kd, .int .i64 t.r, .int .i64 t.P, .int .u32 t.f.ad, .int .u32 t.A, .bool t.f.tb, .bool t.W, .bool t.X]) (by simp [results, Try.results14, go_sem, t0', t1, t2, t3, t4, t5, t6, t7, t8]) rfl ⟨by rw [T.out]; rfl, O9.out.below (Nat.le_refl _) (by simp)⟩
  have dr : (own == 0) = false := by simpa using hr
  have e1 : va / 16384 % 64 = va / 16384 := by omega
  have HR := Lib.hid hr
  clear hr
  go_enter Try.func14, Try.ntmps14
  go_wp2_with fail
  generalize w.alloc (.cells #[.int .i64 0, .int .i64 0, .int .i64 0, .int .i64 0, .int .u32 0, .int .u32 0, .bool false, .bool false, .bool false] 33) = u at *
  have l0 := G0.out.1
  refine (read_any rb G n z tb (own / 256) (va / 16384) va 0 u M0.out (by omega) (by omega) (by omega) (by omega) (by omega) (by omega)).mono ?_
  intro e w3 hE
  cases hS : slotS n z tb va (own / 256) (va / 16384) 0 with
  | bad r f =>
    have T := Lib.hid (trans_bad (acc := acc) vv HR.out (show tellsS n z tb va own 0 = .bad r f by unfold tellsS; rw [e1, hS]; rfl))
    rw [hS] at hE
    obtain ⟨rfl, b3⟩ := hE
    have ho := Only.of b3 []
    have l3 := ho.size
    have M1 := Lib.hid (M0.out.kept ho (by simp) (by simp))
    have O1 := Lib.hid (O0.out.next ho (by simp))
    have Z1 := Lib.hid (Z0.out.keptS ho (by simp))
    have G1 := Lib.hid (G0.out.keptO ho (by simp))
    clear M0 O0 Z0 G0
    clear ho b3 hS
    obtain ⟨st, kd, ad, tbl⟩ := f
    dsimp only [Ent.val, e0, rv]
    have hb := Only.alloc [] w3 (.cells #[.bool false, .bool false, .bool false, .bool false, .int .i64 0] 83)
    have hc := Only.alloc [] (w3.alloc (.cells #[.bool false, .bool false, .bool false, .bool false, .int .i64 0] 83)) (.cells #[.int .i64 st, .int .i64 kd, .int .i64 r, .int .i64 0, .int .u32 ad, .int .u32 0, .bool tbl, .bool false, .bool false] 33)
    have O3 := Lib.hid ((O1.out.next hb (by simp)).next hc (by simp))
    have Z3 := Lib.hid ((Z1.out.keptS hb (by simp)).keptS hc (by simp))
    have G3 := Lib.hid ((G1.out.keptO hb (by simp)).keptO hc (by simp))
    clear hb hc O1 Z1 G1 M1
    obtain ⟨t0', t1, t2, t3, t4, t5, t6, t7, t8⟩ := Z3.out
    simp only [Ns.t0] at t0' t1 t2 t3 t4 t5 t6 t7 t8
    have g0 := G3.out.2 0
    have g1 := G3.out.2 1
    have g2 := G3.out.2 2
    have g3 := G3.out.2 3
    have g4 := G3.out.2 4
    have g5 := G3.out.2 5
    have g6 := G3.out.2 6
    have g7 := G3.out.2 7
    have g8 := G3.out.2 8
    have h9 := rset9_only ((w3.alloc (.cells #[.bool false, .bool false, .bool false, .bool false, .int .i64 0] 83)).alloc (.cells #[.int .i64 st, .int .i64 kd, .int .i64 r, .int .i64 0, .int .u32 ad, .int .u32 0, .bool tbl, .bool false, .bool false] 33)) w.heap.size ⟨⟨st, kd, ad, tbl⟩, r, 0, 0, false, false⟩
    have O9 := Lib.hid (O3.out.next h9 (by simp))
    clear h9
    clear O3 Z3 G3
    go_wp2
    simp only [rset9] at O9
    refine bodyPost_ret (v := .agg #[.int .i64 st, .int .i64 kd, .int .i64 r, .int .i64 0, .int .u32 ad, .int .u32 0, .bool tbl, .bool false, .bool false]) (by simp [results, Try.results14, go_sem, t0', t1, t2, t3, t4, t5, t6, t7, t8]) rfl ⟨by rw [T.out]; rfl, O9.out.below (Nat.le_refl _) (by simp)⟩
  | ok r x =>
    obtain ⟨V, W, X, B, f⟩ := x
    have bs := slotS_ok hS
    dsimp only at bs
    rw [hS] at hE
    obtain ⟨⟨t, rfl, ht⟩, b3⟩ := hE
    have HS := Lib.hid hS
    have ho := Only.of b3 []
    have l3 := ho.size
    have M1 := Lib.hid (M0.out.kept ho (by simp) (by simp))
    have O1 := Lib.hid (O0.out.next ho (by simp))
    have Z1 := Lib.hid (Z0.out.keptS ho (by simp))
    have G1 := Lib.hid (G0.out.keptO ho (by simp))
    clear M0 O0 Z0 G0
    clear ho b3 hS
    dsimp only [Ent.val, rv]
    have hb := Only.alloc [] w3 (.cells #[.bool V, .bool W, .bool X, .bool B, .int .i64 f] 83)
    have hc := Only.alloc [] (w3.alloc (.cells #[.bool V, .bool W, .bool X, .bool B, .int .i64 f] 83)) (.cells #[.int .i64 t.f.st, .int .i64 t.f.kd, .int .i64 t.r, .int .i64 t.P, .int .u32 t.f.ad, .int .u32 t.A, .bool t.f.tb, .bool t.W, .bool t.X] 33)
    have M3 := Lib.hid ((M1.out.kept hb (by simp) (by simp)).kept hc (by simp) (by simp))
    have O3 := Lib.hid ((O1.out.next hb (by simp)).next hc (by simp))
    have Z3 := Lib.hid ((Z1.out.keptS hb (by simp)).keptS hc (by simp))
    have G3 := Lib.hid ((G1.out.keptO hb (by simp)).keptO hc (by simp))
    have E3 := Lib.hid ((five_new w3 V W X B f 83).keptS hc (by simp))
    have F3 := Lib.hid ((free_new w3 #[.bool V, .bool W, .bool X, .bool B, .int .i64 f] 83).keptO hc (by simp))
    have N3 := Lib.hid (show RNine ((w3.alloc (.cells #[.bool V, .bool W, .bool X, .bool B, .int .i64 f] 83)).alloc (.cells #[.int .i64 t.f.st, .int .i64 t.f.kd, .int .i64 t.r, .int .i64 t.P, .int .u32 t.f.ad, .int .u32 t.A, .bool t.f.tb, .bool t.W, .bool t.X] 33)) (w3.heap.size + 1) t from by have h : RNine ((w3.alloc (.cells #[.bool V, .bool W, .bool X, .bool B, .int .i64 f] 83)).alloc (.cells #[.int .i64 t.f.st, .int .i64 t.f.kd, .int .i64 t.r, .int .i64 t.P, .int .u32 t.f.ad, .int .u32 t.A, .bool t.f.tb, .bool t.W, .bool t.X] 33)) (w3.alloc (.cells #[.bool V, .bool W, .bool X, .bool B, .int .i64 f] 83)).heap.size t := rnine_new _ t _; rwa [World.size_alloc] at h)
    have Y3 := Lib.hid (show Free ((w3.alloc (.cells #[.bool V, .bool W, .bool X, .bool B, .int .i64 f] 83)).alloc (.cells #[.int .i64 t.f.st, .int .i64 t.f.kd, .int .i64 t.r, .int .i64 t.P, .int .u32 t.f.ad, .int .u32 t.A, .bool t.f.tb, .bool t.W, .bool t.X] 33)) (w3.heap.size + 1) from by have h := free_new (w3.alloc (.cells #[.bool V, .bool W, .bool X, .bool B, .int .i64 f] 83)) #[.int .i64 t.f.st, .int .i64 t.f.kd, .int .i64 t.r, .int .i64 t.P, .int .u32 t.f.ad, .int .u32 t.A, .bool t.f.tb, .bool t.W, .bool t.X] 33; rwa [World.size_alloc] at h)
    have ML := Lib.hid (show rb < w3.heap.size ∧ G < w3.heap.size from ⟨M1.out.lt, M1.out.row.lt⟩)
    clear hb hc O1 Z1 G1 M1
    subst ht
    cases V
    case false =>
      have T := Lib.hid (trans_bad (acc := acc) vv HR.out (show tellsS n z tb va own 0 = .bad t.r ⟨1, 2, va, false⟩ by unfold tellsS; rw [e1, HS.out]; rfl))
      have k2 := N3.out.c2
      obtain ⟨h0, _, _, _, _⟩ := E3.out
      have Z8 := Z3
      have G8 := G3
      have O8 := O3
      have M8 := M3
      have E8 := E3
      clear Z3 G3 O3 M3 E3 F3 N3 Y3
      go_wp2_with fail
      refine (fault_any 1 2 va false (t.r) _).mono ?_
      rintro e w9 ⟨rfl, b9⟩
      have ho := Only.of b9 []
      have Z9 := Z8.out.keptS ho (by simp)
      have G9 := G8.out.keptO ho (by simp)
      have B9 := Lib.hid ((O8.out.next ho (by simp)).below (Nat.le_refl _) (by simp))
      obtain ⟨t0', t1, t2, t3, t4, t5, t6, t7, t8⟩ := Z9
      simp only [Ns.t0] at t0' t1 t2 t3 t4 t5 t6 t7 t8
      have g0 := G9.2 0
      have g1 := G9.2 1
      have g2 := G9.2 2
      have g3 := G9.2 3
      have g4 := G9.2 4
      have g5 := G9.2 5
      have g6 := G9.2 6
      have g7 := G9.2 7
      have g8 := G9.2 8
      clear ho b9 G9 Z8 G8 O8 E8 M8
      go_wp2
      refine bodyPost_ret (v := .agg #[.int .i64 1, .int .i64 2, .int .i64 t.r, .int .i64 0, .int .u32 va, .int .u32 0, .bool false, .bool false, .bool false]) (by simp [results, Try.results14, go_sem, t0', t1, t2, t3, t4, t5, t6, t7, t8]) rfl ⟨by rw [T.out]; rfl, ?_⟩
      repeat' (first | (with_reducible exact B9.out) | (with_reducible refine Below.drew ?_) | (with_reducible refine Below.setCell ?_ ?_ _) | (with_reducible refine Below.alloc ?_ ?_ _) | (with_reducible exact Nat.le_refl _) | assumption)
    have b12 : w3.heap.size ≠ w.heap.size := by omega
    have b13 : w3.heap.size + 1 ≠ w.heap.size := by omega
    have b23 : w3.heap.size ≠ w3.heap.size + 1 := by omega
    have zp : IntKind.i64.wrap (f + va / 256 % 64) = f + va / 256 % 64 := IntWalk.i64_in _ (by omega)
    have k2 := N3.out.c2
    obtain ⟨h0, h1, h2, h3, h4⟩ := E3.out
    cases B
    case true =>
      have TL := Lib.hid (trans_tail (acc := acc) (page := f + va / 256 % 64) vv HR.out (by omega) (show tellsS n z tb va own 0 = .ok t.r ⟨true, W, X, true, f + va / 256 % 64⟩ by unfold tellsS; rw [e1, HS.out]; rfl))
      go_wp2_with fail
      clear h0 h1 h2 h3 h4 k2
      refine (rallows_any true W X true f acc _).mono ?_
      rintro e w8 ⟨rfl, b8⟩
      have ho := Only.of b8 []
      have M8 := Lib.hid (M3.out.kept ho (by simp) (by simp))
      have O8 := Lib.hid (O3.out.next ho (by simp))
      have Z8 := Lib.hid (Z3.out.keptS ho (by simp))
      have G8 := Lib.hid (G3.out.keptO ho (by simp))
      have E8 := Lib.hid (E3.out.keptS ho (by simp))
      have N8 := Lib.hid (N3.out.keptS ho (by simp)).c2
      clear M3 O3 Z3 G3 E3 F3 N3 Y3 ho b8
      cases ha : alw true W X acc
      case false =>
        have T := Lib.hid (show transS n z own tb va acc = ⟨⟨1, 4, va, false⟩, t.r, 0, 0, false, false⟩ by rw [TL.out]; unfold tailT; rw [if_pos ha])
        have k8 := N8.out
        clear ha
        go_wp2_with fail
        refine (fault_any 1 4 va false (t.r) _).mono ?_
        rintro e w9 ⟨rfl, b9⟩
        have ho := Only.of b9 []
        have Z9 := Z8.out.keptS ho (by simp)
        have G9 := G8.out.keptO ho (by simp)
        have B9 := Lib.hid ((O8.out.next ho (by simp)).below (Nat.le_refl _) (by simp))
        obtain ⟨t0', t1, t2, t3, t4, t5, t6, t7, t8⟩ := Z9
        simp only [Ns.t0] at t0' t1 t2 t3 t4 t5 t6 t7 t8
        have g0 := G9.2 0
        have g1 := G9.2 1
        have g2 := G9.2 2
        have g3 := G9.2 3
        have g4 := G9.2 4
        have g5 := G9.2 5
        have g6 := G9.2 6
        have g7 := G9.2 7
        have g8 := G9.2 8
        clear ho b9 G9 Z8 G8 O8 E8 M8
        go_wp2
        refine bodyPost_ret (v := .agg #[.int .i64 1, .int .i64 4, .int .i64 t.r, .int .i64 0, .int .u32 va, .int .u32 0, .bool false, .bool false, .bool false]) (by simp [results, Try.results14, go_sem, t0', t1, t2, t3, t4, t5, t6, t7, t8]) rfl ⟨by rw [T.out]; rfl, ?_⟩
        repeat' (first | (with_reducible exact B9.out) | (with_reducible refine Below.drew ?_) | (with_reducible refine Below.setCell ?_ ?_ _) | (with_reducible refine Below.alloc ?_ ?_ _) | (with_reducible exact Nat.le_refl _) | assumption)
      case true =>
        have ha' : ¬ alw true W X acc = false := by rw [ha]; decide
        by_cases hp : 4095 < (f + va / 256 % 64)
        · have T := Lib.hid (show transS n z own tb va acc = ⟨⟨1, 1, va, false⟩, t.r, 0, 0, false, false⟩ by rw [TL.out]; unfold tailT; rw [if_neg ha', if_pos hp])
          have dp : decide (4095 < (f + va / 256 % 64)) = true := by simpa using hp
          have k8 := N8.out
          clear ha ha' hp
          go_wp2_with fail
          refine (fault_any 1 1 va false (t.r) _).mono ?_
          rintro e w9 ⟨rfl, b9⟩
          have ho := Only.of b9 []
          have Z9 := Z8.out.keptS ho (by simp)
          have G9 := G8.out.keptO ho (by simp)
          have B9 := Lib.hid ((O8.out.next ho (by simp)).below (Nat.le_refl _) (by simp))
          obtain ⟨t0', t1, t2, t3, t4, t5, t6, t7, t8⟩ := Z9
          simp only [Ns.t0] at t0' t1 t2 t3 t4 t5 t6 t7 t8
          have g0 := G9.2 0
          have g1 := G9.2 1
          have g2 := G9.2 2
          have g3 := G9.2 3
          have g4 := G9.2 4
          have g5 := G9.2 5
          have g6 := G9.2 6
          have g7 := G9.2 7
          have g8 := G9.2 8
          clear ho b9 G9 Z8 G8 O8 E8 M8
          go_wp2
          refine bodyPost_ret (v := .agg #[.int .i64 1, .int .i64 1, .int .i64 t.r, .int .i64 0, .int .u32 va, .int .u32 0, .bool false, .bool false, .bool false]) (by simp [results, Try.results14, go_sem, t0', t1, t2, t3, t4, t5, t6, t7, t8]) rfl ⟨by rw [T.out]; rfl, ?_⟩
          repeat' (first | (with_reducible exact B9.out) | (with_reducible refine Below.drew ?_) | (with_reducible refine Below.setCell ?_ ?_ _) | (with_reducible refine Below.alloc ?_ ?_ _) | (with_reducible exact Nat.le_refl _) | assumption)
        have dp : decide (4095 < (f + va / 256 % 64)) = false := by simp; omega
        have TT := Lib.hid (show transS n z own tb va acc = tailT n z tb va acc (t.r) W X ((f + va / 256 % 64)) from TL.out)
        have NA := Lib.hid ha'
        have NP := Lib.hid hp
        have z1 : IntKind.i64.wrap (256 * ((f + va / 256 % 64))) = 256 * ((f + va / 256 % 64)) := IntWalk.i64_in _ (by omega)
        have z2 : IntKind.u32.wrap (256 * ((f + va / 256 % 64))) = 256 * ((f + va / 256 % 64)) := IntWalk.u32_in _ (by omega)
        have z3 : IntKind.u32.wrap (256 * ((f + va / 256 % 64)) + va % 256) = 256 * ((f + va / 256 % 64)) + va % 256 := IntWalk.u32_in _ (by omega)
        have z4 : (256 * ((f + va / 256 % 64)) + va % 256) / 256 = (f + va / 256 % 64) := by omega
        have Z4 := Lib.hid z4
        have p9 : 0 ≤ 256 * ((f + va / 256 % 64)) + va % 256 := by omega
        have q9 : 256 * ((f + va / 256 % 64)) + va % 256 < 4294967296 := by omega
        have k8 := N8.out
        clear ha ha' hp z4
        go_wp2_with fail
        clear k8 z1 z2 z3
        cases hP : placeS n z tb (256 * ((f + va / 256 % 64)) + va % 256) acc false (t.r) with
        | bad r9 f9 =>
          have T := Lib.hid (show transS n z own tb va acc = ⟨f9, r9, 0, 0, false, false⟩ by rw [TT.out]; unfold tailT; rw [if_neg NA.out, if_neg (by have := NP.out; omega), hP])
          obtain ⟨st, kd, ad, tbl⟩ := f9
          refine (last_at rb G n z tb _ acc (t.r) ⟨⟨st, kd, ad, tbl⟩, r9, 0, 0, false, false⟩ _ M8.out p9 q9 (by omega) (by omega) (by rw [hP]; rfl)).mono ?_
          rintro e wA ⟨rfl, bA⟩
          have ho := Only.of bA []
          have EA := Lib.hid (fun o => (E8.out.keptS ho (by simp)).keptS (Only.alloc [] wA o) (by simp))
          have ZA := Lib.hid (fun o => (Z8.out.keptS ho (by simp)).keptS (Only.alloc [] wA o) (by simp))
          have GA := Lib.hid (fun o => (G8.out.keptO ho (by simp)).keptO (Only.alloc [] wA o) (by simp))
          have hA := ((O8.out.next ho (by simp)).below (Nat.le_refl _) (by simp) : Below w.heap.size w wA)
          have BA := Lib.hid hA
          have sA : w.heap.size ≤ wA.heap.size := hA.size
          clear ho bA M8 O8 Z8 G8 E8 hP hA
          have e1 := fun o => (EA.out o).c1
          have e2 := fun o => (EA.out o).c2
          have t0' := fun o => (ZA.out o).c0
          have t1 := fun o => (ZA.out o).c1
          have t2 := fun o => (ZA.out o).c2
          have t3 := fun o => (ZA.out o).c3
          have t4 := fun o => (ZA.out o).c4
          have t5 := fun o => (ZA.out o).c5
          have t6 := fun o => (ZA.out o).c6
          have t7 := fun o => (ZA.out o).c7
          have t8 := fun o => (ZA.out o).c8
          simp only [Ns.t0] at t0' t1 t2 t3 t4 t5 t6 t7 t8
          have g0 := fun o => (GA.out o).2 0
          have g1 := fun o => (GA.out o).2 1
          have g2 := fun o => (GA.out o).2 2
          have g3 := fun o => (GA.out o).2 3
          have g4 := fun o => (GA.out o).2 4
          have g5 := fun o => (GA.out o).2 5
          have g6 := fun o => (GA.out o).2 6
          have g7 := fun o => (GA.out o).2 7
          have g8 := fun o => (GA.out o).2 8
          dsimp only
          go_wp2
          refine bodyPost_ret (v := .agg #[.int .i64 st, .int .i64 kd, .int .i64 r9, .int .i64 0, .int .u32 ad, .int .u32 0, .bool tbl, .bool false, .bool false]) (by simp [results, Try.results14, go_sem, t0', t1, t2, t3, t4, t5, t6, t7, t8]) rfl ⟨by rw [T.out]; rfl, ?_⟩
          repeat' (first | (with_reducible exact BA.out) | (with_reducible refine Below.drew ?_) | (with_reducible refine Below.setCell ?_ ?_ _) | (with_reducible refine Below.alloc ?_ ?_ _) | (with_reducible exact Nat.le_refl _) | assumption)
        | ok r9 s9 =>
          have T := Lib.hid (show transS n z own tb va acc = ⟨⟨0, 0, 0, false⟩, r9, (f + va / 256 % 64), s9.A, s9.h.W && W, s9.h.X && X⟩ by rw [TT.out]; unfold tailT; rw [if_neg NA.out, if_neg (by have := NP.out; omega), hP])
          obtain ⟨A9, hf9, hr9, hF9, hW9, hX9, hB9⟩ := s9
          dsimp only at T
          refine (last_at rb G n z tb _ acc (t.r) ⟨⟨0, 0, 0, false⟩, r9, (f + va / 256 % 64), A9, hW9, hX9⟩ _ M8.out p9 q9 (by omega) (by omega) (by rw [hP]; simp only [lastOf]; rw [Z4.out])).mono ?_
          rintro e wA ⟨rfl, bA⟩
          have ho := Only.of bA []
          have EA := Lib.hid (fun o => (E8.out.keptS ho (by simp)).keptS (Only.alloc [] wA o) (by simp))
          have ZA := Lib.hid (fun o => (Z8.out.keptS ho (by simp)).keptS (Only.alloc [] wA o) (by simp))
          have GA := Lib.hid (fun o => (G8.out.keptO ho (by simp)).keptO (Only.alloc [] wA o) (by simp))
          have hA := ((O8.out.next ho (by simp)).below (Nat.le_refl _) (by simp) : Below w.heap.size w wA)
          have BA := Lib.hid hA
          have sA : w.heap.size ≤ wA.heap.size := hA.size
          clear ho bA M8 O8 Z8 G8 E8 hP hA
          have e1 := fun o => (EA.out o).c1
          have e2 := fun o => (EA.out o).c2
          have t0' := fun o => (ZA.out o).c0
          have t1 := fun o => (ZA.out o).c1
          have t2 := fun o => (ZA.out o).c2
          have t3 := fun o => (ZA.out o).c3
          have t4 := fun o => (ZA.out o).c4
          have t5 := fun o => (ZA.out o).c5
          have t6 := fun o => (ZA.out o).c6
          have t7 := fun o => (ZA.out o).c7
          have t8 := fun o => (ZA.out o).c8
          simp only [Ns.t0] at t0' t1 t2 t3 t4 t5 t6 t7 t8
          have g0 := fun o => (GA.out o).2 0
          have g1 := fun o => (GA.out o).2 1
          have g2 := fun o => (GA.out o).2 2
          have g3 := fun o => (GA.out o).2 3
          have g4 := fun o => (GA.out o).2 4
          have g5 := fun o => (GA.out o).2 5
          have g6 := fun o => (GA.out o).2 6
          have g7 := fun o => (GA.out o).2 7
          have g8 := fun o => (GA.out o).2 8
          dsimp only
          cases hW9
          · cases hX9
            · go_wp2
              refine bodyPost_ret (v := .agg #[.int .i64 0, .int .i64 0, .int .i64 r9, .int .i64 (f + va / 256 % 64), .int .u32 0, .int .u32 A9, .bool false, .bool false, .bool false]) (by simp [results, Try.results14, go_sem, t0', t1, t2, t3, t4, t5, t6, t7, t8]) rfl ⟨by rw [T.out]; rfl, ?_⟩
              repeat' (first | (with_reducible exact BA.out) | (with_reducible refine Below.drew ?_) | (with_reducible refine Below.setCell ?_ ?_ _) | (with_reducible refine Below.alloc ?_ ?_ _) | (with_reducible exact Nat.le_refl _) | assumption)
            · go_wp2
              refine bodyPost_ret (v := .agg #[.int .i64 0, .int .i64 0, .int .i64 r9, .int .i64 (f + va / 256 % 64), .int .u32 0, .int .u32 A9, .bool false, .bool false, .bool X]) (by simp [results, Try.results14, go_sem, t0', t1, t2, t3, t4, t5, t6, t7, t8]) rfl ⟨by rw [T.out]; simp [rv], ?_⟩
              repeat' (first | (with_reducible exact BA.out) | (with_reducible refine Below.drew ?_) | (with_reducible refine Below.setCell ?_ ?_ _) | (with_reducible refine Below.alloc ?_ ?_ _) | (with_reducible exact Nat.le_refl _) | assumption)
          · cases hX9
            · go_wp2
              refine bodyPost_ret (v := .agg #[.int .i64 0, .int .i64 0, .int .i64 r9, .int .i64 (f + va / 256 % 64), .int .u32 0, .int .u32 A9, .bool false, .bool W, .bool false]) (by simp [results, Try.results14, go_sem, t0', t1, t2, t3, t4, t5, t6, t7, t8]) rfl ⟨by rw [T.out]; simp [rv], ?_⟩
              repeat' (first | (with_reducible exact BA.out) | (with_reducible refine Below.drew ?_) | (with_reducible refine Below.setCell ?_ ?_ _) | (with_reducible refine Below.alloc ?_ ?_ _) | (with_reducible exact Nat.le_refl _) | assumption)
            · go_wp2
              refine bodyPost_ret (v := .agg #[.int .i64 0, .int .i64 0, .int .i64 r9, .int .i64 (f + va / 256 % 64), .int .u32 0, .int .u32 A9, .bool false, .bool W, .bool X]) (by simp [results, Try.results14, go_sem, t0', t1, t2, t3, t4, t5, t6, t7, t8]) rfl ⟨by rw [T.out]; simp [rv], ?_⟩
              repeat' (first | (with_reducible exact BA.out) | (with_reducible refine Below.drew ?_) | (with_reducible refine Below.setCell ?_ ?_ _) | (with_reducible refine Below.alloc ?_ ?_ _) | (with_reducible exact Nat.le_refl _) | assumption)
    case false =>
      go_wp2_with fail
      clear h0 h1 h2 h3 h4 k2
      refine (read_any rb G n z tb f (va / 256 % 64) va t.r _ M3.out (by omega) (by omega) (by omega) (by omega) (by omega) (by omega)).mono ?_
      intro e w6 hE
      cases hS2 : slotS n z tb va f (va / 256 % 64) t.r with
      | bad r2 f2 =>
        have T := Lib.hid (trans_bad (acc := acc) vv HR.out (show tellsS n z tb va own 0 = .bad r2 f2 by unfold tellsS; rw [e1, HS.out]; simp only [Out.bind]; rw [if_neg (by simp), if_neg (by simp), hS2]))
        rw [hS2] at hE
        obtain ⟨rfl, b6⟩ := hE
        obtain ⟨st, kd, ad, tbl⟩ := f2
        dsimp only [Ent.val, e0, rv]
        have ho := Only.of b6 []
        obtain ⟨h0, h1, h2, h3, h4⟩ := E3.out.keptS ho (by simp)
        obtain ⟨n0, n1, n2, n3, n4, n5, n6, n7, n8⟩ := N3.out.keptS ho (by simp)
        have Ff := F3.out.keptO ho (by simp)
        have Yf := Y3.out.keptO ho (by simp)
        have Zf := Z3.out.keptS ho (by simp)
        have Gf := G3.out.keptO ho (by simp)
        obtain ⟨t0', t1, t2, t3, t4, t5, t6, t7, t8⟩ := Zf
        simp only [Ns.t0] at t0' t1 t2 t3 t4 t5 t6 t7 t8
        have g0 := Gf.2 0
        have g1 := Gf.2 1
        have g2 := Gf.2 2
        have g3 := Gf.2 3
        have g4 := Gf.2 4
        have g5 := Gf.2 5
        have g6 := Gf.2 6
        have g7 := Gf.2 7
        have g8 := Gf.2 8
        have fE0 := Ff.2 0
        have fE1 := Ff.2 1
        have fE2 := Ff.2 2
        have fE3 := Ff.2 3
        have fE4 := Ff.2 4
        have y0 := Yf.2 0
        have y1 := Yf.2 1
        have y2 := Yf.2 2
        have y3 := Yf.2 3
        have y4 := Yf.2 4
        have y5 := Yf.2 5
        have y6 := Yf.2 6
        have y7 := Yf.2 7
        have y8 := Yf.2 8
        have b12' : ¬ w.heap.size = w3.heap.size := fun x => b12 x.symm
        have b13' : ¬ w.heap.size = w3.heap.size + 1 := fun x => b13 x.symm
        have b23' : ¬ w3.heap.size + 1 = w3.heap.size := fun x => b23 x.symm
        clear Ff Yf Gf
        have B6 := Lib.hid ((O3.out.next ho (by simp)).below (Nat.le_refl _) (by simp))
        have hs12 : w.heap.size ≤ w3.heap.size := by omega
        have hs13 : w.heap.size ≤ w3.heap.size + 1 := by omega
        clear ho b6 M3 O3 Z3 G3 E3 F3 N3 Y3 hS2
        go_wp2
        refine bodyPost_ret (v := .agg #[.int .i64 st, .int .i64 kd, .int .i64 r2, .int .i64 0, .int .u32 ad, .int .u32 0, .bool tbl, .bool false, .bool false]) (by simp [results, Try.results14, go_sem, t0', t1, t2, t3, t4, t5, t6, t7, t8]) rfl ⟨by rw [T.out]; rfl, ?_⟩
        repeat' (first | (with_reducible exact B6.out) | (with_reducible refine Below.drew ?_) | (with_reducible refine Below.setCell ?_ ?_ _) | (with_reducible refine Below.alloc ?_ ?_ _) | (with_reducible exact Nat.le_refl _) | assumption)
      | ok r2 x2 =>
        obtain ⟨V2, W2, X2, B2, f2⟩ := x2
        have bs2 := slotS_ok hS2
        dsimp only at bs2
        rw [hS2] at hE
        obtain ⟨⟨t2', rfl, ht2⟩, b6⟩ := hE
        subst ht2
        have HS2 := Lib.hid hS2
        dsimp only [Ent.val, rv]
        have ho := Only.of b6 []
        obtain ⟨h0, h1, h2, h3, h4⟩ := E3.out.keptS ho (by simp)
        obtain ⟨n0, n1, n2, n3, n4, n5, n6, n7, n8⟩ := N3.out.keptS ho (by simp)
        have Ff := F3.out.keptO ho (by simp)
        have Yf := Y3.out.keptO ho (by simp)
        have Zf := Z3.out.keptS ho (by simp)
        have Gf := G3.out.keptO ho (by simp)
        obtain ⟨t0', t1, t2, t3, t4, t5, t6, t7, t8⟩ := Zf
        simp only [Ns.t0] at t0' t1 t2 t3 t4 t5 t6 t7 t8
        have g0 := Gf.2 0
        have g1 := Gf.2 1
        have g2 := Gf.2 2
        have g3 := Gf.2 3
        have g4 := Gf.2 4
        have g5 := Gf.2 5
        have g6 := Gf.2 6
        have g7 := Gf.2 7
        have g8 := Gf.2 8
        have fE0 := Ff.2 0
        have fE1 := Ff.2 1
        have fE2 := Ff.2 2
        have fE3 := Ff.2 3
        have fE4 := Ff.2 4
        have y0 := Yf.2 0
        have y1 := Yf.2 1
        have y2 := Yf.2 2
        have y3 := Yf.2 3
        have y4 := Yf.2 4
        have y5 := Yf.2 5
        have y6 := Yf.2 6
        have y7 := Yf.2 7
        have y8 := Yf.2 8
        have b12' : ¬ w.heap.size = w3.heap.size := fun x => b12 x.symm
        have b13' : ¬ w.heap.size = w3.heap.size + 1 := fun x => b13 x.symm
        have b23' : ¬ w3.heap.size + 1 = w3.heap.size := fun x => b23 x.symm
        clear Ff Yf Gf
        have hq1 := set5_only w6 w3.heap.size V2 W2 X2 B2 f2
        have hq2 := rset9_only (set5 w6 w3.heap.size V2 W2 X2 B2 f2) (w3.heap.size + 1) t2'
        have M7 := Lib.hid (((M3.out.kept ho (by simp) (by simp)).kept hq1 (by have : rb < w3.heap.size := ML.out.1; simp; omega) (by have : G < w3.heap.size := ML.out.2; simp; omega)).kept hq2 (by have : rb < w3.heap.size := ML.out.1; simp; omega) (by have : G < w3.heap.size := ML.out.2; simp; omega))
        have O7 := Lib.hid (((O3.out.next ho (by simp)).next hq1 (by simp; omega)).next hq2 (by simp; omega))
        have Z7 := Lib.hid (((Z3.out.keptS ho (by simp)).keptS hq1 (by simp; omega)).keptS hq2 (by simp; omega))
        have G7 := Lib.hid (((G3.out.keptO ho (by simp)).keptO hq1 (by simp; omega)).keptO hq2 (by simp; omega))
        have E7 := Lib.hid ((five_set (E3.out.keptS ho (by simp)) V2 W2 X2 B2 f2).keptS hq2 (by simp))
        have N7 := Lib.hid (rset9_nine (t' := t2') ((N3.out.keptS ho (by simp)).keptS hq1 (by simp)))
        simp only [set5, rset9] at M7 O7 Z7 G7 E7 N7
        clear hq1 hq2 ho b6 M3 O3 Z3 G3 E3 F3 N3 Y3 hS2
        cases V2
        case false =>
          have T := Lib.hid (trans_bad (acc := acc) vv HR.out (show tellsS n z tb va own 0 = .bad t2'.r ⟨1, 3, va, false⟩ by unfold tellsS; rw [e1, HS.out]; simp only [Out.bind]; rw [if_neg (by simp), if_neg (by simp), HS2.out]; rfl))
          have Z8 := Z7
          have G8 := G7
          have O8 := O7
          have M8 := M7
          have E8 := E7
          clear Z7 G7 O7 M7 E7 N7
          go_wp2_with fail
          refine (fault_any 1 3 va false (t2'.r) _).mono ?_
          rintro e w9 ⟨rfl, b9⟩
          have ho := Only.of b9 []
          have Z9 := Z8.out.keptS ho (by simp)
          have G9 := G8.out.keptO ho (by simp)
          have B9 := Lib.hid ((O8.out.next ho (by simp)).below (Nat.le_refl _) (by simp))
          obtain ⟨t0', t1, t2, t3, t4, t5, t6, t7, t8⟩ := Z9
          simp only [Ns.t0] at t0' t1 t2 t3 t4 t5 t6 t7 t8
          have g0 := G9.2 0
          have g1 := G9.2 1
          have g2 := G9.2 2
          have g3 := G9.2 3
          have g4 := G9.2 4
          have g5 := G9.2 5
          have g6 := G9.2 6
          have g7 := G9.2 7
          have g8 := G9.2 8
          clear ho b9 G9 Z8 G8 O8 E8 M8
          go_wp2
          refine bodyPost_ret (v := .agg #[.int .i64 1, .int .i64 3, .int .i64 t2'.r, .int .i64 0, .int .u32 va, .int .u32 0, .bool false, .bool false, .bool false]) (by simp [results, Try.results14, go_sem, t0', t1, t2, t3, t4, t5, t6, t7, t8]) rfl ⟨by rw [T.out]; rfl, ?_⟩
          repeat' (first | (with_reducible exact B9.out) | (with_reducible refine Below.drew ?_) | (with_reducible refine Below.setCell ?_ ?_ _) | (with_reducible refine Below.alloc ?_ ?_ _) | (with_reducible exact Nat.le_refl _) | assumption)
        case true =>
          have TL := Lib.hid (trans_tail (acc := acc) (page := f2) vv HR.out (by omega) (show tellsS n z tb va own 0 = .ok t2'.r ⟨true, W2, X2, B2, f2⟩ by unfold tellsS; rw [e1, HS.out]; simp only [Out.bind]; rw [if_neg (by simp), if_neg (by simp), HS2.out]; rfl))
          go_wp2_with fail
          clear t0' t1 t2 t3 t4 t5 t6 t7 t8 g0 g1 g2 g3 g4 g5 g6 g7 g8 h0 h1 h2 h3 h4 n0 n1 n2 n3 n4 n5 n6 n7 n8 fE0 fE1 fE2 fE3 fE4 y0 y1 y2 y3 y4 y5 y6 y7 y8
          refine (rallows_any true W2 X2 B2 f2 acc _).mono ?_
          rintro e w8 ⟨rfl, b8⟩
          have ho := Only.of b8 []
          have M8 := Lib.hid (M7.out.kept ho (by simp) (by simp))
          have O8 := Lib.hid (O7.out.next ho (by simp))
          have Z8 := Lib.hid (Z7.out.keptS ho (by simp))
          have G8 := Lib.hid (G7.out.keptO ho (by simp))
          have E8 := Lib.hid (E7.out.keptS ho (by simp))
          have N8 := Lib.hid (N7.out.keptS ho (by simp)).c2
          clear M7 O7 Z7 G7 E7 N7 ho b8
          cases ha : alw true W2 X2 acc
          case false =>
            have T := Lib.hid (show transS n z own tb va acc = ⟨⟨1, 4, va, false⟩, t2'.r, 0, 0, false, false⟩ by rw [TL.out]; unfold tailT; rw [if_pos ha])
            have k8 := N8.out
            clear ha
            go_wp2_with fail
            refine (fault_any 1 4 va false (t2'.r) _).mono ?_
            rintro e w9 ⟨rfl, b9⟩
            have ho := Only.of b9 []
            have Z9 := Z8.out.keptS ho (by simp)
            have G9 := G8.out.keptO ho (by simp)
            have B9 := Lib.hid ((O8.out.next ho (by simp)).below (Nat.le_refl _) (by simp))
            obtain ⟨t0', t1, t2, t3, t4, t5, t6, t7, t8⟩ := Z9
            simp only [Ns.t0] at t0' t1 t2 t3 t4 t5 t6 t7 t8
            have g0 := G9.2 0
            have g1 := G9.2 1
            have g2 := G9.2 2
            have g3 := G9.2 3
            have g4 := G9.2 4
            have g5 := G9.2 5
            have g6 := G9.2 6
            have g7 := G9.2 7
            have g8 := G9.2 8
            clear ho b9 G9 Z8 G8 O8 E8 M8
            go_wp2
            refine bodyPost_ret (v := .agg #[.int .i64 1, .int .i64 4, .int .i64 t2'.r, .int .i64 0, .int .u32 va, .int .u32 0, .bool false, .bool false, .bool false]) (by simp [results, Try.results14, go_sem, t0', t1, t2, t3, t4, t5, t6, t7, t8]) rfl ⟨by rw [T.out]; rfl, ?_⟩
            repeat' (first | (with_reducible exact B9.out) | (with_reducible refine Below.drew ?_) | (with_reducible refine Below.setCell ?_ ?_ _) | (with_reducible refine Below.alloc ?_ ?_ _) | (with_reducible exact Nat.le_refl _) | assumption)
          case true =>
            have ha' : ¬ alw true W2 X2 acc = false := by rw [ha]; decide
            by_cases hp : 4095 < f2
            · have T := Lib.hid (show transS n z own tb va acc = ⟨⟨1, 1, va, false⟩, t2'.r, 0, 0, false, false⟩ by rw [TL.out]; unfold tailT; rw [if_neg ha', if_pos hp])
              have dp : decide (4095 < f2) = true := by simpa using hp
              have k8 := N8.out
              clear ha ha' hp
              go_wp2_with fail
              refine (fault_any 1 1 va false (t2'.r) _).mono ?_
              rintro e w9 ⟨rfl, b9⟩
              have ho := Only.of b9 []
              have Z9 := Z8.out.keptS ho (by simp)
              have G9 := G8.out.keptO ho (by simp)
              have B9 := Lib.hid ((O8.out.next ho (by simp)).below (Nat.le_refl _) (by simp))
              obtain ⟨t0', t1, t2, t3, t4, t5, t6, t7, t8⟩ := Z9
              simp only [Ns.t0] at t0' t1 t2 t3 t4 t5 t6 t7 t8
              have g0 := G9.2 0
              have g1 := G9.2 1
              have g2 := G9.2 2
              have g3 := G9.2 3
              have g4 := G9.2 4
              have g5 := G9.2 5
              have g6 := G9.2 6
              have g7 := G9.2 7
              have g8 := G9.2 8
              clear ho b9 G9 Z8 G8 O8 E8 M8
              go_wp2
              refine bodyPost_ret (v := .agg #[.int .i64 1, .int .i64 1, .int .i64 t2'.r, .int .i64 0, .int .u32 va, .int .u32 0, .bool false, .bool false, .bool false]) (by simp [results, Try.results14, go_sem, t0', t1, t2, t3, t4, t5, t6, t7, t8]) rfl ⟨by rw [T.out]; rfl, ?_⟩
              repeat' (first | (with_reducible exact B9.out) | (with_reducible refine Below.drew ?_) | (with_reducible refine Below.setCell ?_ ?_ _) | (with_reducible refine Below.alloc ?_ ?_ _) | (with_reducible exact Nat.le_refl _) | assumption)
            have dp : decide (4095 < f2) = false := by simp; omega
            have TT := Lib.hid (show transS n z own tb va acc = tailT n z tb va acc (t2'.r) W2 X2 (f2) from TL.out)
            have NA := Lib.hid ha'
            have NP := Lib.hid hp
            have z1 : IntKind.i64.wrap (256 * (f2)) = 256 * (f2) := IntWalk.i64_in _ (by omega)
            have z2 : IntKind.u32.wrap (256 * (f2)) = 256 * (f2) := IntWalk.u32_in _ (by omega)
            have z3 : IntKind.u32.wrap (256 * (f2) + va % 256) = 256 * (f2) + va % 256 := IntWalk.u32_in _ (by omega)
            have z4 : (256 * (f2) + va % 256) / 256 = f2 := by omega
            have Z4 := Lib.hid z4
            have p9 : 0 ≤ 256 * (f2) + va % 256 := by omega
            have q9 : 256 * (f2) + va % 256 < 4294967296 := by omega
            have k8 := N8.out
            clear ha ha' hp z4
            go_wp2_with fail
            clear k8 z1 z2 z3
            cases hP : placeS n z tb (256 * (f2) + va % 256) acc false (t2'.r) with
            | bad r9 f9 =>
              have T := Lib.hid (show transS n z own tb va acc = ⟨f9, r9, 0, 0, false, false⟩ by rw [TT.out]; unfold tailT; rw [if_neg NA.out, if_neg (by have := NP.out; omega), hP])
              obtain ⟨st, kd, ad, tbl⟩ := f9
              refine (last_at rb G n z tb _ acc (t2'.r) ⟨⟨st, kd, ad, tbl⟩, r9, 0, 0, false, false⟩ _ M8.out p9 q9 (by omega) (by omega) (by rw [hP]; rfl)).mono ?_
              rintro e wA ⟨rfl, bA⟩
              have ho := Only.of bA []
              have EA := Lib.hid (fun o => (E8.out.keptS ho (by simp)).keptS (Only.alloc [] wA o) (by simp))
              have ZA := Lib.hid (fun o => (Z8.out.keptS ho (by simp)).keptS (Only.alloc [] wA o) (by simp))
              have GA := Lib.hid (fun o => (G8.out.keptO ho (by simp)).keptO (Only.alloc [] wA o) (by simp))
              have hA := ((O8.out.next ho (by simp)).below (Nat.le_refl _) (by simp) : Below w.heap.size w wA)
              have BA := Lib.hid hA
              have sA : w.heap.size ≤ wA.heap.size := hA.size
              clear ho bA M8 O8 Z8 G8 E8 hP hA
              have e1 := fun o => (EA.out o).c1
              have e2 := fun o => (EA.out o).c2
              have t0' := fun o => (ZA.out o).c0
              have t1 := fun o => (ZA.out o).c1
              have t2 := fun o => (ZA.out o).c2
              have t3 := fun o => (ZA.out o).c3
              have t4 := fun o => (ZA.out o).c4
              have t5 := fun o => (ZA.out o).c5
              have t6 := fun o => (ZA.out o).c6
              have t7 := fun o => (ZA.out o).c7
              have t8 := fun o => (ZA.out o).c8
              simp only [Ns.t0] at t0' t1 t2 t3 t4 t5 t6 t7 t8
              have g0 := fun o => (GA.out o).2 0
              have g1 := fun o => (GA.out o).2 1
              have g2 := fun o => (GA.out o).2 2
              have g3 := fun o => (GA.out o).2 3
              have g4 := fun o => (GA.out o).2 4
              have g5 := fun o => (GA.out o).2 5
              have g6 := fun o => (GA.out o).2 6
              have g7 := fun o => (GA.out o).2 7
              have g8 := fun o => (GA.out o).2 8
              dsimp only
              go_wp2
              refine bodyPost_ret (v := .agg #[.int .i64 st, .int .i64 kd, .int .i64 r9, .int .i64 0, .int .u32 ad, .int .u32 0, .bool tbl, .bool false, .bool false]) (by simp [results, Try.results14, go_sem, t0', t1, t2, t3, t4, t5, t6, t7, t8]) rfl ⟨by rw [T.out]; rfl, ?_⟩
              repeat' (first | (with_reducible exact BA.out) | (with_reducible refine Below.drew ?_) | (with_reducible refine Below.setCell ?_ ?_ _) | (with_reducible refine Below.alloc ?_ ?_ _) | (with_reducible exact Nat.le_refl _) | assumption)
            | ok r9 s9 =>
              have T := Lib.hid (show transS n z own tb va acc = ⟨⟨0, 0, 0, false⟩, r9, f2, s9.A, s9.h.W && W2, s9.h.X && X2⟩ by rw [TT.out]; unfold tailT; rw [if_neg NA.out, if_neg (by have := NP.out; omega), hP])
              obtain ⟨A9, hf9, hr9, hF9, hW9, hX9, hB9⟩ := s9
              dsimp only at T
              refine (last_at rb G n z tb _ acc (t2'.r) ⟨⟨0, 0, 0, false⟩, r9, f2, A9, hW9, hX9⟩ _ M8.out p9 q9 (by omega) (by omega) (by rw [hP]; simp only [lastOf]; rw [Z4.out])).mono ?_
              rintro e wA ⟨rfl, bA⟩
              have ho := Only.of bA []
              have EA := Lib.hid (fun o => (E8.out.keptS ho (by simp)).keptS (Only.alloc [] wA o) (by simp))
              have ZA := Lib.hid (fun o => (Z8.out.keptS ho (by simp)).keptS (Only.alloc [] wA o) (by simp))
              have GA := Lib.hid (fun o => (G8.out.keptO ho (by simp)).keptO (Only.alloc [] wA o) (by simp))
              have hA := ((O8.out.next ho (by simp)).below (Nat.le_refl _) (by simp) : Below w.heap.size w wA)
              have BA := Lib.hid hA
              have sA : w.heap.size ≤ wA.heap.size := hA.size
              clear ho bA M8 O8 Z8 G8 E8 hP hA
              have e1 := fun o => (EA.out o).c1
              have e2 := fun o => (EA.out o).c2
              have t0' := fun o => (ZA.out o).c0
              have t1 := fun o => (ZA.out o).c1
              have t2 := fun o => (ZA.out o).c2
              have t3 := fun o => (ZA.out o).c3
              have t4 := fun o => (ZA.out o).c4
              have t5 := fun o => (ZA.out o).c5
              have t6 := fun o => (ZA.out o).c6
              have t7 := fun o => (ZA.out o).c7
              have t8 := fun o => (ZA.out o).c8
              simp only [Ns.t0] at t0' t1 t2 t3 t4 t5 t6 t7 t8
              have g0 := fun o => (GA.out o).2 0
              have g1 := fun o => (GA.out o).2 1
              have g2 := fun o => (GA.out o).2 2
              have g3 := fun o => (GA.out o).2 3
              have g4 := fun o => (GA.out o).2 4
              have g5 := fun o => (GA.out o).2 5
              have g6 := fun o => (GA.out o).2 6
              have g7 := fun o => (GA.out o).2 7
              have g8 := fun o => (GA.out o).2 8
              dsimp only
              cases hW9
              · cases hX9
                · go_wp2
                  refine bodyPost_ret (v := .agg #[.int .i64 0, .int .i64 0, .int .i64 r9, .int .i64 f2, .int .u32 0, .int .u32 A9, .bool false, .bool false, .bool false]) (by simp [results, Try.results14, go_sem, t0', t1, t2, t3, t4, t5, t6, t7, t8]) rfl ⟨by rw [T.out]; rfl, ?_⟩
                  repeat' (first | (with_reducible exact BA.out) | (with_reducible refine Below.drew ?_) | (with_reducible refine Below.setCell ?_ ?_ _) | (with_reducible refine Below.alloc ?_ ?_ _) | (with_reducible exact Nat.le_refl _) | assumption)
                · go_wp2
                  refine bodyPost_ret (v := .agg #[.int .i64 0, .int .i64 0, .int .i64 r9, .int .i64 f2, .int .u32 0, .int .u32 A9, .bool false, .bool false, .bool X2]) (by simp [results, Try.results14, go_sem, t0', t1, t2, t3, t4, t5, t6, t7, t8]) rfl ⟨by rw [T.out]; simp [rv], ?_⟩
                  repeat' (first | (with_reducible exact BA.out) | (with_reducible refine Below.drew ?_) | (with_reducible refine Below.setCell ?_ ?_ _) | (with_reducible refine Below.alloc ?_ ?_ _) | (with_reducible exact Nat.le_refl _) | assumption)
              · cases hX9
                · go_wp2
                  refine bodyPost_ret (v := .agg #[.int .i64 0, .int .i64 0, .int .i64 r9, .int .i64 f2, .int .u32 0, .int .u32 A9, .bool false, .bool W2, .bool false]) (by simp [results, Try.results14, go_sem, t0', t1, t2, t3, t4, t5, t6, t7, t8]) rfl ⟨by rw [T.out]; simp [rv], ?_⟩
                  repeat' (first | (with_reducible exact BA.out) | (with_reducible refine Below.drew ?_) | (with_reducible refine Below.setCell ?_ ?_ _) | (with_reducible refine Below.alloc ?_ ?_ _) | (with_reducible exact Nat.le_refl _) | assumption)
                · go_wp2
                  refine bodyPost_ret (v := .agg #[.int .i64 0, .int .i64 0, .int .i64 r9, .int .i64 f2, .int .u32 0, .int .u32 A9, .bool false, .bool W2, .bool X2]) (by simp [results, Try.results14, go_sem, t0', t1, t2, t3, t4, t5, t6, t7, t8]) rfl ⟨by rw [T.out]; simp [rv], ?_⟩
                  repeat' (first | (with_reducible exact BA.out) | (with_reducible refine Below.drew ?_) | (with_reducible refine Below.setCell ?_ ?_ _) | (with_reducible refine Below.alloc ?_ ?_ _) | (with_reducible exact Nat.le_refl _) | assumption)
end Ns
end Go.Proofs.Ytdjglmfilhodlaa
