/-
  What the document's own in, read and Walk answer, at every argument; conditions: that such a memory lies there, and that each argument is of its Go type.
-/
import Derived.Test.YtdjglmfilhodlaaWkPages
namespace Go.Proofs.Ytdjglmfilhodlaa
open Go.RowKit Nt
namespace Wk
open Ph En
/-! ### What tells an address, by cases -/
theorem tell_addr {n : Nat} {z : Nat → Int} {root a : Int} (h : 1048576 ≤ a) : tellS n z root a = ⟨e0, 0, 1⟩ := by unfold tellS; rw [if_pos h]
theorem tell_root {n : Nat} {z : Nat → Int} {root a : Int} (h : a < 1048576) (hr : inM n root = false) : tellS n z root a = ⟨e0, 0, 5⟩ := by unfold tellS; rw [if_neg (by omega), if_pos hr]
theorem tell_first {n : Nat} {z : Nat → Int} {root a : Int} {W X B : Bool} {f : Int} (h : a < 1048576) (hr : inM n root = true) (hE : slotE n z root (a / 16384 % 64) = ⟨false, W, X, B, f⟩) : tellS n z root a = ⟨e0, 1, 2⟩ := by
  unfold tellS; rw [if_neg (by omega), if_neg (by rw [hr]; decide), hE, if_pos rfl]
theorem tell_block {n : Nat} {z : Nat → Int} {root a : Int} {W X : Bool} {f : Int} (h : a < 1048576) (hr : inM n root = true) (hE : slotE n z root (a / 16384 % 64) = ⟨true, W, X, true, f⟩) : tellS n z root a = ⟨⟨true, W, X, true, f + a / 256 % 64⟩, 1, 0⟩ := by
  unfold tellS; rw [if_neg (by omega), if_neg (by rw [hr]; decide), hE, if_neg (show ¬ (true = false) by decide), if_pos rfl]
theorem tell_bus {n : Nat} {z : Nat → Int} {root a : Int} {W X : Bool} {f : Int} (h : a < 1048576) (hr : inM n root = true) (hE : slotE n z root (a / 16384 % 64) = ⟨true, W, X, false, f⟩) (hs : inM n f = false) : tellS n z root a = ⟨e0, 1, 5⟩ := by
  unfold tellS; rw [if_neg (by omega), if_neg (by rw [hr]; decide), hE, if_neg (show ¬ (true = false) by decide), if_neg (show ¬ (false = true) by decide), if_pos hs]
theorem tell_second {n : Nat} {z : Nat → Int} {root a : Int} {W X W' X' B' : Bool} {f f' : Int} (h : a < 1048576) (hr : inM n root = true) (hE : slotE n z root (a / 16384 % 64) = ⟨true, W, X, false, f⟩) (hs : inM n f = true) (hE' : slotE n z f (a / 256 % 64) = ⟨false, W', X', B', f'⟩) : tellS n z root a = ⟨e0, 2, 3⟩ := by
  unfold tellS; rw [if_neg (by omega), if_neg (by rw [hr]; decide), hE, if_neg (show ¬ (true = false) by decide), if_neg (show ¬ (false = true) by decide), if_neg (by rw [hs]; decide), hE', if_pos rfl]
theorem tell_page {n : Nat} {z : Nat → Int} {root a : Int} {W X W' X' B' : Bool} {f f' : Int} (h : a < 1048576) (hr : inM n root = true) (hE : slotE n z root (a / 16384 % 64) = ⟨true, W, X, false, f⟩) (hs : inM n f = true) (hE' : slotE n z f (a / 256 % 64) = ⟨true, W', X', B', f'⟩) : tellS n z root a = ⟨⟨true, W', X', false, f'⟩, 2, 0⟩ := by
  unfold tellS; rw [if_neg (by omega), if_neg (by rw [hr]; decide), hE, if_neg (show ¬ (true = false) by decide), if_neg (show ¬ (false = true) by decide), if_neg (by rw [hs]; decide), hE', if_neg (show ¬ (true = false) by decide)]
theorem hit_fault {n : Nat} {e : Ent} {r f acc : Int} (h : f ≠ 0) : hitOf n ⟨e, r, f⟩ acc = ⟨f, r, 0, false, false, false⟩ := by unfold hitOf; rw [if_pos h]
theorem hit_check {n : Nat} {e : Ent} {r acc : Int} (h : checkS n e acc ≠ 0) : hitOf n ⟨e, r, 0⟩ acc = ⟨checkS n e acc, r, 0, false, false, false⟩ := by unfold hitOf; rw [if_neg (show ¬ ((0 : Int) ≠ 0) by decide), if_pos h]
theorem hit_ok {n : Nat} {e : Ent} {r acc : Int} (h : checkS n e acc = 0) : hitOf n ⟨e, r, 0⟩ acc = ⟨0, r, e.F, e.W, e.X, e.B⟩ := by unfold hitOf; rw [if_neg (show ¬ ((0 : Int) ≠ 0) by decide), if_neg (by rw [h]; decide)]
theorem check_no {n : Nat} {e : Ent} {acc : Int} (h : alw e.V e.W e.X acc = false) : checkS n e acc = 4 := by unfold checkS; rw [if_pos h]
theorem check_bus {n : Nat} {e : Ent} {acc : Int} (h : alw e.V e.W e.X acc = true) (hk : inM n e.F = false) : checkS n e acc = 5 := by unfold checkS; rw [if_neg (by rw [h]; decide), if_pos hk]
theorem check_ok {n : Nat} {e : Ent} {acc : Int} (h : alw e.V e.W e.X acc = true) (hk : inM n e.F = true) : checkS n e acc = 0 := by unfold checkS; rw [if_neg (by rw [h]; decide), if_neg (by rw [hk]; decide)]
theorem five_set {w : World} {b : Nat} {V W X B : Bool} {f : Int} (h : Five w b V W X B f) (V' W' X' B' : Bool) (f' : Int) : Five (((((w.setCell ⟨b, 0, none⟩ (.bool V')).setCell ⟨b, 1, none⟩ (.bool W')).setCell ⟨b, 2, none⟩ (.bool X')).setCell ⟨b, 3, none⟩ (.bool B')).setCell ⟨b, 4, none⟩ (.int .i64 f')) b V' W' X' B' f' := by
  obtain ⟨c0, c1, c2, c3, c4⟩ := h
  constructor <;> simp [go_sem, c0, c1, c2, c3, c4]
theorem set5_only (w : World) (b : Nat) (v0 v1 v2 v3 v4 : Value) : Only [b] w (((((w.setCell ⟨b, 0, none⟩ v0).setCell ⟨b, 1, none⟩ v1).setCell ⟨b, 2, none⟩ v2).setCell ⟨b, 3, none⟩ v3).setCell ⟨b, 4, none⟩ v4) :=
  ((((Only.setCell _ (List.mem_singleton.2 rfl) _ _).trans (Only.setCell _ (List.mem_singleton.2 rfl) _ _)).trans (Only.setCell _ (List.mem_singleton.2 rfl) _ _)).trans (Only.setCell _ (List.mem_singleton.2 rfl) _ _)).trans (Only.setCell _ (List.mem_singleton.2 rfl) _ _)
theorem Six.keptB {w w' : World} {b N : Nat} {f r F : Int} {W X B : Bool} (h : Six w b f r F W X B) (hb : Below N w w') (hlt : b < N) : Six w' b f r F W X B :=
  ⟨(hb.cell (p := ⟨b, 0, none⟩) hlt).trans h.c0, (hb.cell (p := ⟨b, 1, none⟩) hlt).trans h.c1, (hb.cell (p := ⟨b, 2, none⟩) hlt).trans h.c2, (hb.cell (p := ⟨b, 3, none⟩) hlt).trans h.c3, (hb.cell (p := ⟨b, 4, none⟩) hlt).trans h.c4, (hb.cell (p := ⟨b, 5, none⟩) hlt).trans h.c5⟩
theorem rin_any (r G n : Nat) (z : Nat → Int) (k : Int) (w : World) (hM : RMem w r G n z) :
    Calls Try.prog 68 #[.pointer (some ⟨r, 0, none⟩), .int .i64 k] w fun e w' => e = .returned (.bool (inM n k)) ∧ w = w' := by
  have hh := hM.head
  have hf := hM.few
  clear hM
  have eq : (256 * (n : Int)) / 256 = n := by omega
  have et : (256 * (n : Int)).tdiv 256 = n := by rw [Int.tdiv_eq_ediv_of_nonneg (by omega)]; exact eq
  by_cases h0 : 0 ≤ k
  · by_cases h1 : k < n
    · rw [inM_yes ⟨h0, h1⟩]
      have d : decide (0 ≤ k) = true := by simpa using h0
      have d1 : decide (k < (n : Int)) = true := by simpa using h1
      go_enter Try.func68, Try.ntmps68
      go_wp2
      go_ret
      exact ⟨rfl, rfl⟩
    · rw [inM_no (fun h => h1 h.2)]
      have d : decide (0 ≤ k) = true := by simpa using h0
      have d1 : decide (k < (n : Int)) = false := by simpa using h1
      go_enter Try.func68, Try.ntmps68
      go_wp2
      go_ret
      exact ⟨rfl, rfl⟩
  · rw [inM_no (fun h => h0 h.1)]
    have d : decide (0 ≤ k) = false := by simpa using h0
    clear eq et
    go_enter Try.func68, Try.ntmps68
    go_wp2
    go_ret
    exact ⟨rfl, rfl⟩
theorem rword_at (r G n a : Nat) (A : Int) (z : Nat → Int) (w : World) (hM : RMem w r G n z) (hA : A = a) (ha : a < 4294967296) :
    Calls Try.prog 17 #[.pointer (some ⟨r, 0, none⟩), .int .u32 A] w fun e w' => e = .returned (.tuple #[.int .u32 (rdw n z a), .bool (hwA n a)]) ∧ w = w' := by
  subst hA
  exact rword_any r G n a z w hM ha
set_option maxHeartbeats 1000000 in
theorem rread_yes (r G n : Nat) (z : Nat → Int) (k i : Int) (w : World) (hM : RMem w r G n z) (hk : inM n k = true) (hi0 : 0 ≤ i) (hi1 : i < 64) :
    Calls Try.prog 69 #[.pointer (some ⟨r, 0, none⟩), .int .i64 k, .int .i64 i] w fun e w' => e = .returned (slotE n z k i).val ∧ Below w.heap.size w w' := by
  obtain ⟨k0, k1⟩ := inM_true hk
  obtain ⟨q, rfl⟩ := Int.eq_ofNat_of_zero_le k0
  obtain ⟨i, rfl⟩ := Int.eq_ofNat_of_zero_le hi0
  have hf := hM.few
  have hq : q < n := by omega
  have hi : i < 64 := by omega
  have HW := Lib.hid (hwA_at hq hi)
  have ho := Only.alloc [] w (.cells #[.bool false, .bool false, .bool false, .bool false, .int .i64 0] 83)
  have M1 := Lib.hid (hM.kept ho (by simp) (by simp))
  have B0 := Lib.hid ((Below.refl w.heap.size w).alloc (Nat.le_refl _) (.cells #[.bool false, .bool false, .bool false, .bool false, .int .i64 0] 83))
  have HV := Lib.hid (rdw_lt (n := n) (z := z) (fun j hj => hM.row.b8 j hj) (256 * q + 4 * i))
  have e1 : wAt n z q i = rdw n z (256 * q + 4 * i) := by unfold wAt; congr 1
  obtain ⟨v, hv⟩ : ∃ v, v = rdw n z (256 * q + 4 * i) := ⟨_, rfl⟩
  unfold slotE
  rw [e1, ← hv]
  rw [← hv] at HV
  have EV := Lib.hid hv
  have f1 := five_new w false false false false 0 83
  have f2 := free_new w #[.bool false, .bool false, .bool false, .bool false, .int .i64 0] 83
  obtain ⟨u, hu⟩ : ∃ u, u = w.alloc (.cells #[.bool false, .bool false, .bool false, .bool false, .int .i64 0] 83) := ⟨_, rfl⟩
  rw [← hu] at M1 B0 f1 f2
  have HU := Lib.hid hu
  have HF := Lib.hid f1
  have HG := Lib.hid f2
  clear hM ho k0 k1 e1 hv hu f1 f2
  go_enter Try.func69, Try.ntmps69
  go_wp2_with (go_at_call 17; rw [← HU.out]; refine (rword_at r G n (256 * q + 4 * i) _ z _ M1.out (by omega) (by omega)).mono ?_; rintro e w' ⟨rfl, rfl⟩; rw [HW.out, ← EV.out])
  refine (rdecode_any v u HV.out.1 HV.out.2).mono ?_
  rintro e u2 ⟨rfl, b2⟩
  obtain ⟨c0, c1, c2, c3, c4⟩ := HF.out.kept' b2
  have G2 := (HG.out.kept' b2).2
  have g0 := G2 0
  have g1 := G2 1
  have g2 := G2 2
  have g3 := G2 3
  have g4 := G2 4
  have B2 := Lib.hid (B0.out.trans (b2.mono B0.out.size))
  clear G2 HF HG B0 b2 HU M1
  go_wp2
  refine bodyPost_ret (v := .agg #[.bool (dV v), .bool (dW v), .bool (dX v), .bool (dB v), .int .i64 (dF v)]) (by simp [results, Try.results69, go_sem, c0, c1, c2, c3, c4]) rfl ⟨rfl, ?_⟩
  exact below5 B2.out (Nat.le_refl _) _ _ _ _ _
theorem rread_of (r G n : Nat) (z : Nat → Int) (k i : Int) (V W X B : Bool) (f : Int) (w : World) (hM : RMem w r G n z) (hk : inM n k = true) (hi0 : 0 ≤ i) (hi1 : i < 64) (hE : slotE n z k i = ⟨V, W, X, B, f⟩) :
    Calls Try.prog 69 #[.pointer (some ⟨r, 0, none⟩), .int .i64 k, .int .i64 i] w fun e w' => e = .returned (.agg #[.bool V, .bool W, .bool X, .bool B, .int .i64 f]) ∧ Below w.heap.size w w' := by
  have h := rread_yes r G n z k i w hM hk hi0 hi1
  rw [hE] at h
  exact h
set_option maxRecDepth 100000 in
set_option maxHeartbeats 4000000 in
theorem rwalk_any (r G n : Nat) (z : Nat → Int) (root a acc : Int) (w : World) (hM : RMem w r G n z) (h0 : 0 ≤ a) (h1 : a < 4294967296) :
    Calls Try.prog 53 #[.pointer (some ⟨r, 0, none⟩), .int .i64 root, .int .u32 a, .int .i64 acc] w (HitEnd (walkS n z root a acc) w) := by
  have hb : Below w.heap.size w (w.alloc (.cells #[.int .i64 0, .int .i64 0, .int .i64 0, .bool false, .bool false, .bool false] 112)) := (Below.refl _ _).alloc (Nat.le_refl _) _
  have M0 := Lib.hid (hM.kept (Only.of hb []) (by simp) (by simp))
  have B0 := Lib.hid hb
  have S0 := Lib.hid (six_new w 0 0 0 false false false 112)
  have G0 := Lib.hid (free_new w #[.int .i64 0, .int .i64 0, .int .i64 0, .bool false, .bool false, .bool false] 112)
  obtain ⟨u, hu⟩ : ∃ u, u = w.alloc (.cells #[.int .i64 0, .int .i64 0, .int .i64 0, .bool false, .bool false, .bool false] 112) := ⟨_, rfl⟩
  rw [← hu] at M0 B0 S0 G0
  have HU := Lib.hid hu
  clear hM hb hu
  by_cases ha : 1048576 ≤ a
  · have d : decide (1048576 ≤ a) = true := by simpa using ha
    have T := Lib.hid (show walkS n z root a acc = ⟨1, 0, 0, false, false, false⟩ by unfold walkS; rw [tell_addr ha]; exact hit_fault (by decide))
    have BB := Lib.hid (Below.refl w.heap.size w)
    clear M0 B0 S0 G0 HU
    go_enter Try.func53, Try.ntmps53
    go_wp2
    refine bodyPost_ret (v := .agg #[.int .i64 1, .int .i64 0, .int .i64 0, .bool false, .bool false, .bool false]) (by simp [results, Try.results53, go_sem]) rfl ⟨by rw [T.out]; rfl, ?_⟩
    repeat' (first | (with_reducible exact BB.out) | (with_reducible refine drewB ?_ _) | (with_reducible refine Below.setCell ?_ ?_ _) | (with_reducible refine Below.alloc ?_ ?_ _) | (with_reducible exact Nat.le_refl _) | (simp; omega) | exact Nat.le_refl _ | omega)
  have d : decide (1048576 ≤ a) = false := by simpa using ha
  have A1 : 0 ≤ a / 16384 := by omega
  have A2 : a / 16384 < 64 := by omega
  have A3 : 0 ≤ a / 256 % 64 := by omega
  have A4 : a / 256 % 64 < 64 := by omega
  have EA := Lib.hid (show a / 16384 % 64 = a / 16384 by omega)
  have HA := Lib.hid ha
  clear ha
  cases hr : inM n root
  case false =>
    have T := Lib.hid (show walkS n z root a acc = ⟨5, 0, 0, false, false, false⟩ by unfold walkS; rw [tell_root (by omega) hr]; exact hit_fault (by decide))
    have HR := Lib.hid hr
    have BB := B0
    obtain ⟨c0, c1, c2, c3, c4, c5⟩ := S0.out
    have GG := G0.out.2
    have g0 := GG 0
    have g1 := GG 1
    have g2 := GG 2
    have g3 := GG 3
    have g4 := GG 4
    have g5 := GG 5
    clear GG S0 G0 B0 hr
    go_enter Try.func53, Try.ntmps53
    go_wp2_with (go_at_call 68; rw [← HU.out]; refine (rin_any r G n z root _ M0.out).mono ?_; rintro e w' ⟨rfl, rfl⟩; rw [HR.out])
    refine bodyPost_ret (v := .agg #[.int .i64 5, .int .i64 0, .int .i64 0, .bool false, .bool false, .bool false]) (by simp [results, Try.results53, go_sem, c0, c1, c2, c3, c4, c5]) rfl ⟨by rw [T.out]; rfl, ?_⟩
    repeat' (first | (with_reducible exact BB.out) | (with_reducible refine drewB ?_ _) | (with_reducible refine Below.setCell ?_ ?_ _) | (with_reducible refine Below.alloc ?_ ?_ _) | (with_reducible exact Nat.le_refl _) | (simp; omega) | exact Nat.le_refl _ | omega)
  case true =>
    obtain ⟨⟨V, W, X, B, f⟩, hE⟩ : ∃ E, slotE n z root (a / 16384) = E := ⟨_, rfl⟩
    have hfr := slotE_lt n z root (a / 16384)
    rw [hE] at hfr
    have ff0 : 0 ≤ f := hfr.1
    have ff1 : f < 65536 := hfr.2
    have HR := Lib.hid hr
    have HE := Lib.hid hE
    have HE0 : Hid (slotE n z root (a / 16384 % 64) = ⟨V, W, X, B, f⟩) := Lib.hid (by rw [EA.out]; exact hE)
    clear hfr hE
    go_enter Try.func53, Try.ntmps53
    go_wp2_with (go_at_call 68; rw [← HU.out]; refine (rin_any r G n z root _ M0.out).mono ?_; rintro e w' ⟨rfl, rfl⟩; rw [HR.out])
    refine (rread_of r G n z root (a / 16384) V W X B f u M0.out hr A1 A2 HE.out).mono ?_
    rintro e u2 ⟨rfl, b2⟩
    have B2 := Lib.hid (B0.out.trans (b2.mono B0.out.size))
    have S2 := Lib.hid (S0.out.kept' b2)
    have G2 := Lib.hid (G0.out.kept' b2)
    have M2 := Lib.hid (M0.out.kept (Only.of b2 []) (by simp) (by simp))
    have ltu := G2.out.1
    have ltr := M2.out.lt
    have ltG := M2.out.row.lt
    clear S0 G0 B0 b2 M0 HU hr
    cases V
    case false =>
      have T := Lib.hid (show walkS n z root a acc = ⟨2, 1, 0, false, false, false⟩ by unfold walkS; rw [tell_first (by have := HA.out; omega) HR.out HE0.out]; exact hit_fault (by decide))
      have BB := B2
      obtain ⟨c0, c1, c2, c3, c4, c5⟩ := S2.out
      have lt2 := G2.out.1
      have GG := G2.out.2
      have g0 := GG 0
      have g1 := GG 1
      have g2 := GG 2
      have g3 := GG 3
      have g4 := GG 4
      have g5 := GG 5
      clear GG S2 G2 B2
      go_wp2
      refine bodyPost_ret (v := .agg #[.int .i64 2, .int .i64 1, .int .i64 0, .bool false, .bool false, .bool false]) (by simp [results, Try.results53, go_sem, c0, c1, c2, c3, c4, c5, lt2]) rfl ⟨by rw [T.out]; rfl, ?_⟩
      repeat' (first | (with_reducible exact BB.out) | (with_reducible refine drewB ?_ _) | (with_reducible refine Below.setCell ?_ ?_ _) | (with_reducible refine Below.alloc ?_ ?_ _) | (with_reducible exact Nat.le_refl _) | (simp; omega) | exact Nat.le_refl _ | omega)
    case true =>
      cases B
      case true =>
        have T0 := Lib.hid (show walkS n z root a acc = hitOf n ⟨⟨true, W, X, true, f + a / 256 % 64⟩, 1, 0⟩ acc by unfold walkS; rw [tell_block (by have := HA.out; omega) HR.out HE0.out])
        go_wp2_with fail
        have bx : Below u2.heap.size u2 (u2.alloc (.cells #[.bool true, .bool W, .bool X, .bool true, .int .i64 (f + a / 256 % 64)] 83)) := (Below.refl _ _).alloc (Nat.le_refl _) _
        have H3 := Lib.hid (five_new u2 true W X true (f + a / 256 % 64) 83)
        have B3 := Lib.hid (B2.out.trans (bx.mono B2.out.size))
        have S3 := Lib.hid (S2.out.kept' bx)
        have G3 := Lib.hid (G2.out.kept' bx)
        have M3 := Lib.hid (M2.out.kept (Only.of bx []) (by simp) (by simp))
        clear S2 G2 B2 M2 bx
        generalize (u2.alloc (.cells #[.bool true, .bool W, .bool X, .bool true, .int .i64 (f + a / 256 % 64)] 83)) = u3 at *
        refine (rallows_any true W X true (f + a / 256 % 64) acc _).mono ?_
        rintro e u6 ⟨rfl, b6⟩
        have BB := Lib.hid (B3.out.trans (b6.mono B3.out.size))
        obtain ⟨c0, c1, c2, c3, c4, c5⟩ := S3.out.kept' b6
        have GG := (G3.out.kept' b6).2
        have g0 := GG 0
        have g1 := GG 1
        have g2 := GG 2
        have g3 := GG 3
        have g4 := GG 4
        have g5 := GG 5
        have M6 := Lib.hid (M3.out.kept (Only.of b6 []) (by simp) (by simp))
        obtain ⟨d0, d1, d2, d3, d4⟩ := H3.out.kept' b6
        clear S3 G3 B3 M3 H3 b6 GG d0 d3
        cases hal : alw true W X acc
        case false =>
          have T := Lib.hid (show walkS n z root a acc = ⟨4, 1, 0, false, false, false⟩ by rw [T0.out, hit_check (by rw [check_no hal]; decide), check_no hal])
          clear hal T0
          go_wp2
          refine bodyPost_ret (v := .agg #[.int .i64 4, .int .i64 1, .int .i64 0, .bool false, .bool false, .bool false]) (by simp [results, Try.results53, go_sem, c0, c1, c2, c3, c4, c5]) rfl ⟨by rw [T.out]; rfl, ?_⟩
          repeat' (first | (with_reducible exact BB.out) | (with_reducible refine drewB ?_ _) | (with_reducible refine Below.setCell ?_ ?_ _) | (with_reducible refine Below.alloc ?_ ?_ _) | (with_reducible exact Nat.le_refl _) | (simp; omega) | exact Nat.le_refl _ | omega)
        case true =>
          cases hin : inM n (f + a / 256 % 64)
          case false =>
            have T := Lib.hid (show walkS n z root a acc = ⟨5, 1, 0, false, false, false⟩ by rw [T0.out, hit_check (by rw [check_bus hal hin]; decide), check_bus hal hin])
            have HI := Lib.hid hin
            clear hal T0 hin
            go_wp2_with (go_at_call 68; refine (rin_any r G n z (f + a / 256 % 64) _ M6.out).mono ?_; rintro e w' ⟨rfl, rfl⟩; rw [HI.out])
            refine bodyPost_ret (v := .agg #[.int .i64 5, .int .i64 1, .int .i64 0, .bool false, .bool false, .bool false]) (by simp [results, Try.results53, go_sem, c0, c1, c2, c3, c4, c5]) rfl ⟨by rw [T.out]; rfl, ?_⟩
            repeat' (first | (with_reducible exact BB.out) | (with_reducible refine drewB ?_ _) | (with_reducible refine Below.setCell ?_ ?_ _) | (with_reducible refine Below.alloc ?_ ?_ _) | (with_reducible exact Nat.le_refl _) | (simp; omega) | exact Nat.le_refl _ | omega)
          case true =>
            have T := Lib.hid (show walkS n z root a acc = ⟨0, 1, f + a / 256 % 64, W, X, true⟩ by rw [T0.out, hit_ok (check_ok hal hin)])
            have HI := Lib.hid hin
            clear hal T0 hin
            go_wp2_with (go_at_call 68; refine (rin_any r G n z (f + a / 256 % 64) _ M6.out).mono ?_; rintro e w' ⟨rfl, rfl⟩; rw [HI.out])
            refine bodyPost_ret (v := .agg #[.int .i64 0, .int .i64 1, .int .i64 (f + a / 256 % 64), .bool W, .bool X, .bool true]) (by simp [results, Try.results53, go_sem, c0, c1, c2, c3, c4, c5]) rfl ⟨by rw [T.out]; rfl, ?_⟩
            repeat' (first | (with_reducible exact BB.out) | (with_reducible refine drewB ?_ _) | (with_reducible refine Below.setCell ?_ ?_ _) | (with_reducible refine Below.alloc ?_ ?_ _) | (with_reducible exact Nat.le_refl _) | (simp; omega) | exact Nat.le_refl _ | omega)
      case false =>
        go_wp2_with fail
        have bx : Below u2.heap.size u2 (u2.alloc (.cells #[.bool true, .bool W, .bool X, .bool false, .int .i64 f] 83)) := (Below.refl _ _).alloc (Nat.le_refl _) _
        have H3 := Lib.hid (five_new u2 true W X false f 83)
        have K3 := Lib.hid (free_new u2 #[.bool true, .bool W, .bool X, .bool false, .int .i64 f] 83)
        have B3 := Lib.hid (B2.out.trans (bx.mono B2.out.size))
        have S3 := Lib.hid (S2.out.kept' bx)
        have G3 := Lib.hid (G2.out.kept' bx)
        have M3 := Lib.hid (M2.out.kept (Only.of bx []) (by simp) (by simp))
        clear S2 G2 B2 M2 bx
        generalize u2.alloc (.cells #[.bool true, .bool W, .bool X, .bool false, .int .i64 f] 83) = u3 at *
        refine (rin_any r G n z f u3 M3.out).mono ?_
        rintro e w' ⟨rfl, rfl⟩
        cases hs : inM n f
        case false =>
          have T := Lib.hid (show walkS n z root a acc = ⟨5, 1, 0, false, false, false⟩ by unfold walkS; rw [tell_bus (by have := HA.out; omega) HR.out HE0.out hs]; exact hit_fault (by decide))
          have BB := B3
          obtain ⟨c0, c1, c2, c3, c4, c5⟩ := S3.out
          have lt2 := G3.out.1
          have GG := G3.out.2
          have g0 := GG 0
          have g1 := GG 1
          have g2 := GG 2
          have g3 := GG 3
          have g4 := GG 4
          have g5 := GG 5
          clear GG S3 G3 B3 H3 K3 hs
          go_wp2
          refine bodyPost_ret (v := .agg #[.int .i64 5, .int .i64 1, .int .i64 0, .bool false, .bool false, .bool false]) (by simp [results, Try.results53, go_sem, c0, c1, c2, c3, c4, c5]) rfl ⟨by rw [T.out]; rfl, ?_⟩
          repeat' (first | (with_reducible exact BB.out) | (with_reducible refine drewB ?_ _) | (with_reducible refine Below.setCell ?_ ?_ _) | (with_reducible refine Below.alloc ?_ ?_ _) | (with_reducible exact Nat.le_refl _) | (simp; omega) | exact Nat.le_refl _ | omega)
        case true =>
          obtain ⟨⟨V', W', X', B', f'⟩, hE⟩ : ∃ E, slotE n z f (a / 256 % 64) = E := ⟨_, rfl⟩
          have HS := Lib.hid hs
          have HE' := Lib.hid hE
          have hfr := slotE_lt n z f (a / 256 % 64)
          rw [hE] at hfr
          have d4 := H3.out.c4
          clear hE hfr
          go_wp2_with fail
          clear d4
          refine (rread_of r G n z f (a / 256 % 64) V' W' X' B' f' u3 M3.out hs A3 A4 HE'.out).mono ?_
          rintro e u4 ⟨rfl, b4⟩
          have B4 := Lib.hid (B3.out.trans (b4.mono B3.out.size))
          have S4 := Lib.hid (S3.out.kept' b4)
          have G4 := Lib.hid (G3.out.kept' b4)
          have M4 := Lib.hid (M3.out.kept (Only.of b4 []) (by simp) (by simp))
          have H4 := Lib.hid (H3.out.kept' b4)
          have K4 := Lib.hid (K3.out.kept' b4)
          clear S3 G3 B3 M3 H3 K3 b4 hs
          have nb : w.heap.size ≠ u2.heap.size := by omega
          obtain ⟨d0, d1, d2, d3, d4⟩ := H4.out
          have KK := K4.out.2
          have q0 := KK 0
          have q1 := KK 1
          have q2 := KK 2
          have q3 := KK 3
          have q4 := KK 4
          cases V'
          case false =>
            have T := Lib.hid (show walkS n z root a acc = ⟨3, 2, 0, false, false, false⟩ by unfold walkS; rw [tell_second (by have := HA.out; omega) HR.out HE0.out HS.out HE'.out]; exact hit_fault (by decide))
            have BB := B4
            obtain ⟨c0, c1, c2, c3, c4, c5⟩ := S4.out
            have lt2 := G4.out.1
            have GG := G4.out.2
            have g0 := GG 0
            have g1 := GG 1
            have g2 := GG 2
            have g3 := GG 3
            have g4 := GG 4
            have g5 := GG 5
            clear GG KK S4 G4 B4 H4 K4
            go_wp2
            refine bodyPost_ret (v := .agg #[.int .i64 3, .int .i64 2, .int .i64 0, .bool false, .bool false, .bool false]) (by simp [results, Try.results53, go_sem, c0, c1, c2, c3, c4, c5]) rfl ⟨by rw [T.out]; rfl, ?_⟩
            repeat' (first | (with_reducible exact BB.out) | (with_reducible refine drewB ?_ _) | (with_reducible refine Below.setCell ?_ ?_ _) | (with_reducible refine Below.alloc ?_ ?_ _) | (with_reducible exact Nat.le_refl _) | (simp; omega) | exact Nat.le_refl _ | omega)
          case true =>
            have T0 := Lib.hid (show walkS n z root a acc = hitOf n ⟨⟨true, W', X', false, f'⟩, 2, 0⟩ acc by unfold walkS; rw [tell_page (by have := HA.out; omega) HR.out HE0.out HS.out HE'.out])
            go_wp2_with fail
            clear d0 d1 d2 d3 d4 q0 q1 q2 q3 q4 KK
            have bx : Below u2.heap.size u4 (((((u4.setCell ⟨u2.heap.size, 0, none⟩ (.bool true)).setCell ⟨u2.heap.size, 1, none⟩ (.bool W')).setCell ⟨u2.heap.size, 2, none⟩ (.bool X')).setCell ⟨u2.heap.size, 3, none⟩ (.bool B')).setCell ⟨u2.heap.size, 4, none⟩ (.int .i64 f')) := below5 (Below.mono (Below.refl u4.heap.size u4) (Nat.le_of_lt K4.out.1)) (Nat.le_refl _) _ _ _ _ _
            have H3 := Lib.hid (five_set H4.out true W' X' B' f')
            have B3 := Lib.hid (B4.out.trans (bx.mono (Nat.le_of_lt ltu)))
            have S3 := Lib.hid (S4.out.keptB bx ltu)
            have G3 := Lib.hid (G4.out.kept bx ltu)
            have M3 := Lib.hid (M4.out.kept (set5_only u4 u2.heap.size (.bool true) (.bool W') (.bool X') (.bool B') (.int .i64 f')) (by simp; omega) (by simp; omega))
            clear S4 G4 B4 M4 bx H4 K4
            generalize ((((u4.setCell ⟨u2.heap.size, 0, none⟩ (.bool true)).setCell ⟨u2.heap.size, 1, none⟩ (.bool W')).setCell ⟨u2.heap.size, 2, none⟩ (.bool X')).setCell ⟨u2.heap.size, 3, none⟩ (.bool B')).setCell ⟨u2.heap.size, 4, none⟩ (.int .i64 f') = u5 at *
            refine (rallows_any true W' X' B' f' acc _).mono ?_
            rintro e u6 ⟨rfl, b6⟩
            have BB := Lib.hid (B3.out.trans (b6.mono B3.out.size))
            obtain ⟨c0, c1, c2, c3, c4, c5⟩ := S3.out.kept' b6
            have GG := (G3.out.kept' b6).2
            have g0 := GG 0
            have g1 := GG 1
            have g2 := GG 2
            have g3 := GG 3
            have g4 := GG 4
            have g5 := GG 5
            have M6 := Lib.hid (M3.out.kept (Only.of b6 []) (by simp) (by simp))
            obtain ⟨d0, d1, d2, d3, d4⟩ := H3.out.kept' b6
            clear S3 G3 B3 M3 H3 b6 GG d0 d3
            cases hal : alw true W' X' acc
            case false =>
              have T := Lib.hid (show walkS n z root a acc = ⟨4, 2, 0, false, false, false⟩ by rw [T0.out, hit_check (by rw [check_no hal]; decide), check_no hal])
              clear hal T0
              go_wp2
              refine bodyPost_ret (v := .agg #[.int .i64 4, .int .i64 2, .int .i64 0, .bool false, .bool false, .bool false]) (by simp [results, Try.results53, go_sem, c0, c1, c2, c3, c4, c5]) rfl ⟨by rw [T.out]; rfl, ?_⟩
              repeat' (first | (with_reducible exact BB.out) | (with_reducible refine drewB ?_ _) | (with_reducible refine Below.setCell ?_ ?_ _) | (with_reducible refine Below.alloc ?_ ?_ _) | (with_reducible exact Nat.le_refl _) | (simp; omega) | exact Nat.le_refl _ | omega)
            case true =>
              cases hin : inM n f'
              case false =>
                have T := Lib.hid (show walkS n z root a acc = ⟨5, 2, 0, false, false, false⟩ by rw [T0.out, hit_check (by rw [check_bus hal hin]; decide), check_bus hal hin])
                have HI := Lib.hid hin
                clear hal T0 hin
                go_wp2_with (go_at_call 68; refine (rin_any r G n z f' _ M6.out).mono ?_; rintro e w' ⟨rfl, rfl⟩; rw [HI.out])
                refine bodyPost_ret (v := .agg #[.int .i64 5, .int .i64 2, .int .i64 0, .bool false, .bool false, .bool false]) (by simp [results, Try.results53, go_sem, c0, c1, c2, c3, c4, c5]) rfl ⟨by rw [T.out]; rfl, ?_⟩
                repeat' (first | (with_reducible exact BB.out) | (with_reducible refine drewB ?_ _) | (with_reducible refine Below.setCell ?_ ?_ _) | (with_reducible refine Below.alloc ?_ ?_ _) | (with_reducible exact Nat.le_refl _) | (simp; omega) | exact Nat.le_refl _ | omega)
              case true =>
                have T := Lib.hid (show walkS n z root a acc = ⟨0, 2, f', W', X', false⟩ by rw [T0.out, hit_ok (check_ok hal hin)])
                have HI := Lib.hid hin
                clear hal T0 hin
                go_wp2_with (go_at_call 68; refine (rin_any r G n z f' _ M6.out).mono ?_; rintro e w' ⟨rfl, rfl⟩; rw [HI.out])
                refine bodyPost_ret (v := .agg #[.int .i64 0, .int .i64 2, .int .i64 f', .bool W', .bool X', .bool false]) (by simp [results, Try.results53, go_sem, c0, c1, c2, c3, c4, c5]) rfl ⟨by rw [T.out]; rfl, ?_⟩
                repeat' (first | (with_reducible exact BB.out) | (with_reducible refine drewB ?_ _) | (with_reducible refine Below.setCell ?_ ?_ _) | (with_reducible refine Below.alloc ?_ ?_ _) | (with_reducible exact Nat.le_refl _) | (simp; omega) | exact Nat.le_refl _ | omega)
end Wk
end Go.Proofs.Ytdjglmfilhodlaa
