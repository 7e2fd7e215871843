/-
  What walk's tells answers, at every argument; conditions: that a memory lies there, and that each argument is of its Go type.
-/
import Derived.Test.YtdjglmfilhodlaaWkBase
namespace Go.Proofs.Ytdjglmfilhodlaa
open Go.RowKit Nt
namespace Wk
open Ph En
/-! ### tells -/
/-- How it ends. -/
def TellEnd (t : Tell) (w : World) (e : Ending) (w' : World) : Prop := e = .returned (.tuple #[t.e.val, .int .i64 t.r, .int .i64 t.f]) ∧ Below w.heap.size w w'
set_option maxHeartbeats 2000000 in
theorem tells_any (m F n c : Nat) (z : Nat → Int) (root a : Int) (w : World) (hM : Mem w m F n c z) (h0 : 0 ≤ a) (h1 : a < 4294967296) :
    Calls Try.prog 45 #[.pointer (some ⟨m, 0, none⟩), .int .i64 root, .int .u32 a] w (TellEnd (tellS n z root a) w) := by
  have hf := hM.few
  have ho := Only.alloc [] w (.cells #[.bool false, .bool false, .bool false, .bool false, .int .i64 0] 50)
  have M0 := Lib.hid (hM.kept ho (by simp) (by simp))
  have B0 := Lib.hid ((Below.refl w.heap.size w).alloc (Nat.le_refl _) (.cells #[.bool false, .bool false, .bool false, .bool false, .int .i64 0] 50))
  have f1 := five_new w false false false false 0 50
  have f2 := free_new w #[.bool false, .bool false, .bool false, .bool false, .int .i64 0] 50
  obtain ⟨u, hu⟩ : ∃ u, u = w.alloc (.cells #[.bool false, .bool false, .bool false, .bool false, .int .i64 0] 50) := ⟨_, rfl⟩
  rw [← hu] at M0 B0 f1 f2
  have HF := Lib.hid f1
  have HG := Lib.hid f2
  have HU := Lib.hid hu
  clear hM ho hu f1 f2
  by_cases ha : 1048576 ≤ a
  · have d : decide (a < 1048576) = false := by simp; omega
    have T : tellS n z root a = ⟨e0, 0, 1⟩ := by unfold tellS; rw [if_pos ha]
    rw [T]
    clear T
    go_enter Try.func45, Try.ntmps45
    go_wp2_with (go_at_call 59; rw [← HU.out]; refine (inside_any a _).mono ?_; rintro e w' ⟨rfl, rfl⟩; obtain ⟨c0, c1, c2, c3, c4⟩ := HF.out; have G2 := HG.out.2; have g0 := G2 0; have g1 := G2 1; have g2 := G2 2; have g3 := G2 3; have g4 := G2 4; clear G2)
    refine bodyPost_ret (v := .tuple #[.agg #[.bool false, .bool false, .bool false, .bool false, .int .i64 0], .int .i64 0, .int .i64 1]) (by simp [results, Try.results45, go_sem, c0, c1, c2, c3, c4]) rfl ⟨rfl, ?_⟩
    first | exact below5 B0.out (Nat.le_refl _) _ _ _ _ _ | exact B0.out
  have d : decide (a < 1048576) = true := by simp; omega
  have A1 : 0 ≤ a / 16384 % 64 := by omega
  have A2 : a / 16384 % 64 < 64 := by omega
  have A3 : 0 ≤ a / 256 % 64 := by omega
  have A4 : a / 256 % 64 < 64 := by omega
  have HA := Lib.hid ha
  clear ha
  go_enter Try.func45, Try.ntmps45
  go_wp2_with (go_at_call 59; rw [← HU.out]; refine (inside_any a _).mono ?_; rintro e w' ⟨rfl, rfl⟩)
  refine (first_any a u h0 h1).mono ?_
  rintro e w' ⟨rfl, k1, rfl⟩
  have bd := drewB (Below.refl u.heap.size u) k1
  have B1 := Lib.hid (B0.out.trans (bd.mono B0.out.size))
  have F1 := Lib.hid (HF.out.kept' bd)
  have G1 := Lib.hid (HG.out.kept' bd)
  have M1 := Lib.hid (M0.out.kept (Only.of bd []) (by simp) (by simp))
  clear HF HG M0 B0 bd HU
  generalize u.drewN k1 = u1 at *
  by_cases hr : inM n root = true
  case neg =>
    have hr' : inM n root = false := by simpa using hr
    have T := Lib.hid (show tellS n z root a = ⟨e0, 0, 5⟩ by unfold tellS; rw [if_neg (by have := HA.out; omega), if_pos hr'])
    clear hr
    go_wp2_with fail
    refine (slot_not m F n c z root (a / 16384 % 64) u1 M1.out hr').mono ?_
    rintro e u2 ⟨rfl, b2⟩
    obtain ⟨c0, c1, c2, c3, c4⟩ := F1.out.kept' b2
    have lt2 := (G1.out.kept' b2).1
    have G2 := (G1.out.kept' b2).2
    have g0 := G2 0
    have g1 := G2 1
    have g2 := G2 2
    have g3 := G2 3
    have g4 := G2 4
    have BB := Lib.hid (B1.out.trans (b2.mono B1.out.size))
    clear G2 F1 G1 B1 b2
    go_wp2
    refine bodyPost_ret (v := .tuple #[.agg #[.bool false, .bool false, .bool false, .bool false, .int .i64 0], .int .i64 0, .int .i64 5]) (by simp [results, Try.results45, go_sem, c0, c1, c2, c3, c4, lt2]) rfl ⟨by rw [T.out]; rfl, ?_⟩
    repeat' (first | (with_reducible exact BB.out) | (with_reducible refine Below.setCell ?_ ?_ _) | (with_reducible refine Below.alloc ?_ ?_ _) | (with_reducible exact Nat.le_refl _) | (simp; omega) | exact Nat.le_refl _ | omega)
  case pos =>
    obtain ⟨⟨V, W, X, B, f⟩, hE⟩ : ∃ E, slotE n z root (a / 16384 % 64) = E := ⟨_, rfl⟩
    have hfr := slotE_lt n z root (a / 16384 % 64)
    rw [hE] at hfr
    have ff0 : 0 ≤ f := hfr.1
    have ff1 : f < 65536 := hfr.2
    have HR := Lib.hid hr
    have HE := Lib.hid hE
    clear hfr hE
    go_wp2_with fail
    refine (slot_of m F n c z root (a / 16384 % 64) V W X B f u1 M1.out hr A1 A2 HE.out).mono ?_
    rintro e u2 ⟨rfl, b2⟩
    have B2 := Lib.hid (B1.out.trans (b2.mono B1.out.size))
    have F2 := Lib.hid (F1.out.kept' b2)
    have G2 := Lib.hid (G1.out.kept' b2)
    have M2 := Lib.hid (M1.out.kept (Only.of b2 []) (by simp) (by simp))
    clear F1 G1 B1 b2 M1 hr
    cases V
    case false =>
      have T := Lib.hid (show tellS n z root a = ⟨e0, 1, 2⟩ by unfold tellS; rw [if_neg (by have := HA.out; omega), if_neg (by rw [HR.out]; decide), HE.out, if_pos rfl])
      obtain ⟨c0, c1, c2, c3, c4⟩ := F2.out
      have lt2 := G2.out.1
      have GG := G2.out.2
      have g0 := GG 0
      have g1 := GG 1
      have g2 := GG 2
      have g3 := GG 3
      have g4 := GG 4
      have BB := B2
      clear GG F2 G2 B2
      go_wp2
      refine bodyPost_ret (v := .tuple #[.agg #[.bool false, .bool false, .bool false, .bool false, .int .i64 0], .int .i64 1, .int .i64 2]) (by simp [results, Try.results45, go_sem, c0, c1, c2, c3, c4, lt2]) rfl ⟨by rw [T.out]; rfl, ?_⟩
      repeat' (first | (with_reducible exact BB.out) | (with_reducible refine Below.setCell ?_ ?_ _) | (with_reducible refine Below.alloc ?_ ?_ _) | (with_reducible exact Nat.le_refl _) | (simp; omega) | exact Nat.le_refl _ | omega)
    case true =>
      cases B
      case true =>
        have T := Lib.hid (show tellS n z root a = ⟨⟨true, W, X, true, f + a / 256 % 64⟩, 1, 0⟩ by unfold tellS; rw [if_neg (by have := HA.out; omega), if_neg (by rw [HR.out]; decide), HE.out, if_neg (show ¬ (true = false) by decide), if_pos rfl])
        go_wp2_with fail
        refine (second_any a _ h0 h1).mono ?_
        rintro e w' ⟨rfl, k2, rfl⟩
        obtain ⟨c0, c1, c2, c3, c4⟩ := F2.out
        have lt2 := G2.out.1
        have GG := G2.out.2
        have g0 := GG 0
        have g1 := GG 1
        have g2 := GG 2
        have g3 := GG 3
        have g4 := GG 4
        have BB := B2
        clear GG F2 G2 B2
        go_wp2
        have lt3 : u2.heap.size ≠ w.heap.size := by omega
        refine bodyPost_ret (v := .tuple #[.agg #[.bool true, .bool W, .bool X, .bool true, .int .i64 (f + a / 256 % 64)], .int .i64 1, .int .i64 0]) (by simp [results, Try.results45, go_sem, c0, c1, c2, c3, c4, lt2]) rfl ⟨by rw [T.out]; rfl, ?_⟩
        repeat' (first | (with_reducible exact BB.out) | (with_reducible refine drewB ?_ _) | (with_reducible refine Below.setCell ?_ ?_ _) | (with_reducible refine Below.alloc ?_ ?_ _) | (with_reducible exact Nat.le_refl _) | (simp; omega) | exact Nat.le_refl _ | omega)
      case false =>
        go_wp2_with fail
        refine (second_any a _ h0 h1).mono ?_
        rintro e w' ⟨rfl, k2, rfl⟩
        have bx := drewB ((Below.refl u2.heap.size u2).alloc (Nat.le_refl _) (.cells #[.bool true, .bool W, .bool X, .bool false, .int .i64 f] 50)) k2
        have H3 := Lib.hid ((five_new u2 true W X false f 50).kept' (drewB (Below.refl (u2.alloc (.cells #[.bool true, .bool W, .bool X, .bool false, .int .i64 f] 50)).heap.size (u2.alloc (.cells #[.bool true, .bool W, .bool X, .bool false, .int .i64 f] 50))) k2))
        have B3 := Lib.hid (B2.out.trans (bx.mono B2.out.size))
        have F3 := Lib.hid (F2.out.kept' bx)
        have G3 := Lib.hid (G2.out.kept' bx)
        have M3 := Lib.hid (M2.out.kept (Only.of bx []) (by simp) (by simp))
        have l3 : u2.heap.size < ((u2.alloc (.cells #[.bool true, .bool W, .bool X, .bool false, .int .i64 f] 50)).drewN k2).heap.size := block_lt_of_cell H3.out.c0
        have d3 := H3.out.c3
        have d4 := H3.out.c4
        clear F2 G2 B2 M2 bx H3
        generalize (u2.alloc (.cells #[.bool true, .bool W, .bool X, .bool false, .int .i64 f] 50)).drewN k2 = u3 at *
        go_wp2_with fail
        clear d3 d4 l3
        cases hs : inM n f
        case false =>
          have T := Lib.hid (show tellS n z root a = ⟨e0, 1, 5⟩ by unfold tellS; rw [if_neg (by have := HA.out; omega), if_neg (by rw [HR.out]; decide), HE.out, if_neg (show ¬ (true = false) by decide), if_neg (show ¬ (false = true) by decide), if_pos hs])
          refine (slot_not m F n c z f (a / 256 % 64) u3 M3.out hs).mono ?_
          rintro e u4 ⟨rfl, b4⟩
          have B4 := Lib.hid (B3.out.trans (b4.mono B3.out.size))
          have F4 := Lib.hid (F3.out.kept' b4)
          have G4 := Lib.hid (G3.out.kept' b4)
          clear F3 G3 B3 b4 M3 hs
          obtain ⟨c0, c1, c2, c3, c4⟩ := F4.out
          have lt2 := G4.out.1
          have GG := G4.out.2
          have g0 := GG 0
          have g1 := GG 1
          have g2 := GG 2
          have g3 := GG 3
          have g4 := GG 4
          have BB := B4
          clear GG F4 G4 B4
          go_wp2
          refine bodyPost_ret (v := .tuple #[.agg #[.bool false, .bool false, .bool false, .bool false, .int .i64 0], .int .i64 1, .int .i64 5]) (by simp [results, Try.results45, go_sem, c0, c1, c2, c3, c4, lt2]) rfl ⟨by rw [T.out]; rfl, ?_⟩
          repeat' (first | (with_reducible exact BB.out) | (with_reducible refine drewB ?_ _) | (with_reducible refine Below.setCell ?_ ?_ _) | (with_reducible refine Below.alloc ?_ ?_ _) | (with_reducible exact Nat.le_refl _) | (simp; omega) | exact Nat.le_refl _ | omega)
        case true =>
          obtain ⟨⟨V', W', X', B', f'⟩, hE⟩ : ∃ E, slotE n z f (a / 256 % 64) = E := ⟨_, rfl⟩
          have HS := Lib.hid hs
          have HE' := Lib.hid hE
          clear hE
          refine (slot_of m F n c z f (a / 256 % 64) V' W' X' B' f' u3 M3.out hs A3 A4 HE'.out).mono ?_
          rintro e u4 ⟨rfl, b4⟩
          have B4 := Lib.hid (B3.out.trans (b4.mono B3.out.size))
          have F4 := Lib.hid (F3.out.kept' b4)
          have G4 := Lib.hid (G3.out.kept' b4)
          clear F3 G3 B3 b4 M3 hs
          obtain ⟨c0, c1, c2, c3, c4⟩ := F4.out
          have lt2 := G4.out.1
          have GG := G4.out.2
          have g0 := GG 0
          have g1 := GG 1
          have g2 := GG 2
          have g3 := GG 3
          have g4 := GG 4
          have BB := B4
          clear GG F4 G4 B4
          cases V'
          case false =>
            have T := Lib.hid (show tellS n z root a = ⟨e0, 2, 3⟩ by unfold tellS; rw [if_neg (by have := HA.out; omega), if_neg (by rw [HR.out]; decide), HE.out, if_neg (show ¬ (true = false) by decide), if_neg (show ¬ (false = true) by decide), if_neg (by rw [HS.out]; decide), HE'.out, if_pos rfl])
            go_wp2
            refine bodyPost_ret (v := .tuple #[.agg #[.bool false, .bool false, .bool false, .bool false, .int .i64 0], .int .i64 2, .int .i64 3]) (by simp [results, Try.results45, go_sem, c0, c1, c2, c3, c4, lt2]) rfl ⟨by rw [T.out]; rfl, ?_⟩
            repeat' (first | (with_reducible exact BB.out) | (with_reducible refine drewB ?_ _) | (with_reducible refine Below.setCell ?_ ?_ _) | (with_reducible refine Below.alloc ?_ ?_ _) | (with_reducible exact Nat.le_refl _) | (simp; omega) | exact Nat.le_refl _ | omega)
          case true =>
            have T := Lib.hid (show tellS n z root a = ⟨⟨true, W', X', false, f'⟩, 2, 0⟩ by unfold tellS; rw [if_neg (by have := HA.out; omega), if_neg (by rw [HR.out]; decide), HE.out, if_neg (show ¬ (true = false) by decide), if_neg (show ¬ (false = true) by decide), if_neg (by rw [HS.out]; decide), HE'.out, if_neg (show ¬ (true = false) by decide)])
            go_wp2
            refine bodyPost_ret (v := .tuple #[.agg #[.bool true, .bool W', .bool X', .bool false, .int .i64 f'], .int .i64 2, .int .i64 0]) (by simp [results, Try.results45, go_sem, c0, c1, c2, c3, c4, lt2]) rfl ⟨by rw [T.out]; rfl, ?_⟩
            repeat' (first | (with_reducible exact BB.out) | (with_reducible refine drewB ?_ _) | (with_reducible refine Below.setCell ?_ ?_ _) | (with_reducible refine Below.alloc ?_ ?_ _) | (with_reducible exact Nat.le_refl _) | (simp; omega) | exact Nat.le_refl _ | omega)
end Wk
end Go.Proofs.Ytdjglmfilhodlaa
