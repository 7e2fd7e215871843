/-
  What walk's check, Walk and Look answer, at every argument; conditions: that a memory lies there, and that each argument is of its Go type.
-/
import Derived.Test.YtdjglmfilhodlaaWkTell
namespace Go.Proofs.Ytdjglmfilhodlaa
open Go.RowKit Nt
namespace Wk
open Ph En
set_option maxHeartbeats 1000000 in
theorem check_any (m F n c : Nat) (z : Nat → Int) (V W X B : Bool) (f acc : Int) (w : World) (hM : Mem w m F n c z) :
    Calls Try.prog 46 #[.pointer (some ⟨m, 0, none⟩), .agg #[.bool V, .bool W, .bool X, .bool B, .int .i64 f], .int .i64 acc] w fun e w' => e = .returned (.int .i64 (checkS n ⟨V, W, X, B, f⟩ acc)) ∧ Below w.heap.size w w' := by
  have hb : Below w.heap.size w (w.alloc (.cells #[.bool V, .bool W, .bool X, .bool B, .int .i64 f] 50)) := (Below.refl _ _).alloc (Nat.le_refl _) _
  have M0 := Lib.hid (hM.kept (Only.of hb []) (by simp) (by simp))
  have B0 := Lib.hid hb
  have H0 := Lib.hid (five_new w V W X B f 50)
  clear hM hb
  go_enter Try.func46, Try.ntmps46
  go_wp2_with fail
  refine (allows_any V W X B f acc _).mono ?_
  rintro e u1 ⟨rfl, b1⟩
  have M1 := Lib.hid (M0.out.kept (Only.of b1 []) (by simp) (by simp))
  have B1 := Lib.hid (B0.out.trans (b1.mono B0.out.size))
  have c4 := (H0.out.kept' b1).c4
  clear H0 b1 M0 B0
  cases ha : alw V W X acc
  · have T := Lib.hid (show checkS n ⟨V, W, X, B, f⟩ acc = 4 by unfold checkS; rw [if_pos ha])
    clear ha
    go_wp2
    go_ret
    exact ⟨by rw [T.out]; rfl, B1.out⟩
  · cases hk : inM n f
    · have T := Lib.hid (show checkS n ⟨V, W, X, B, f⟩ acc = 5 by unfold checkS; rw [if_neg (by rw [ha]; decide), if_pos hk])
      have HK := Lib.hid hk
      clear ha hk
      go_wp2_with (go_at_call 63; refine (has_any m F n c f _ M1.out.head).mono ?_; rintro e w' ⟨rfl, rfl⟩; rw [HK.out])
      go_ret
      exact ⟨by rw [T.out]; rfl, B1.out⟩
    · have T := Lib.hid (show checkS n ⟨V, W, X, B, f⟩ acc = 0 by unfold checkS; rw [if_neg (by rw [ha]; decide), if_neg (by rw [hk]; decide)])
      have HK := Lib.hid hk
      clear ha hk
      go_wp2_with (go_at_call 63; refine (has_any m F n c f _ M1.out.head).mono ?_; rintro e w' ⟨rfl, rfl⟩; rw [HK.out])
      go_ret
      exact ⟨by rw [T.out]; rfl, B1.out⟩
/-- Six cells of a hit. -/
structure Six (w : World) (b : Nat) (f r F : Int) (W X B : Bool) : Prop where
  c0 : w.cell? ⟨b, 0, none⟩ = some (.int .i64 f)
  c1 : w.cell? ⟨b, 1, none⟩ = some (.int .i64 r)
  c2 : w.cell? ⟨b, 2, none⟩ = some (.int .i64 F)
  c3 : w.cell? ⟨b, 3, none⟩ = some (.bool W)
  c4 : w.cell? ⟨b, 4, none⟩ = some (.bool X)
  c5 : w.cell? ⟨b, 5, none⟩ = some (.bool B)
theorem Six.kept' {w w' : World} {b : Nat} {f r F : Int} {W X B : Bool} (h : Six w b f r F W X B) (hb : Below w.heap.size w w') : Six w' b f r F W X B := by
  have hlt := block_lt_of_cell h.c0
  exact ⟨(hb.cell (p := ⟨b, 0, none⟩) hlt).trans h.c0, (hb.cell (p := ⟨b, 1, none⟩) hlt).trans h.c1, (hb.cell (p := ⟨b, 2, none⟩) hlt).trans h.c2, (hb.cell (p := ⟨b, 3, none⟩) hlt).trans h.c3, (hb.cell (p := ⟨b, 4, none⟩) hlt).trans h.c4, (hb.cell (p := ⟨b, 5, none⟩) hlt).trans h.c5⟩
theorem six_new (w : World) (f r F : Int) (W X B : Bool) (t : TypeId) : Six (w.alloc (.cells #[.int .i64 f, .int .i64 r, .int .i64 F, .bool W, .bool X, .bool B] t)) w.heap.size f r F W X B := by
  constructor <;> simp
/-- How a walk ends. -/
def HitEnd (h : Hit) (w : World) (e : Ending) (w' : World) : Prop := e = .returned h.val ∧ Below w.heap.size w w'
set_option maxHeartbeats 2000000 in
theorem walk_any (m F n c : Nat) (z : Nat → Int) (root a acc : Int) (w : World) (hM : Mem w m F n c z) (h0 : 0 ≤ a) (h1 : a < 4294967296) :
    Calls Try.prog 23 #[.pointer (some ⟨m, 0, none⟩), .int .i64 root, .int .u32 a, .int .i64 acc] w (HitEnd (walkS n z root a acc) w) := by
  have hb : Below w.heap.size w (w.alloc (.cells #[.int .i64 0, .int .i64 0, .int .i64 0, .bool false, .bool false, .bool false] 62)) := (Below.refl _ _).alloc (Nat.le_refl _) _
  have M0 := Lib.hid (hM.kept (Only.of hb []) (by simp) (by simp))
  have B0 := Lib.hid hb
  have S0 := Lib.hid (six_new w 0 0 0 false false false 62)
  have G0 := Lib.hid (free_new w #[.int .i64 0, .int .i64 0, .int .i64 0, .bool false, .bool false, .bool false] 62)
  unfold walkS
  obtain ⟨⟨⟨V, W, X, B, f⟩, r, t⟩, hT⟩ : ∃ T, tellS n z root a = T := ⟨_, rfl⟩
  have HT := Lib.hid hT
  rw [hT]
  clear hM hb hT
  go_enter Try.func23, Try.ntmps23
  go_wp2_with fail
  refine (tells_any m F n c z root a _ M0.out h0 h1).mono ?_
  rintro e u1 ⟨rfl, b1⟩
  rw [HT.out]
  have M1 := Lib.hid (M0.out.kept (Only.of b1 []) (by simp) (by simp))
  have B1 := Lib.hid (B0.out.trans (b1.mono B0.out.size))
  have S1 := Lib.hid (S0.out.kept' b1)
  have G1 := Lib.hid (G0.out.kept' b1)
  clear S0 G0 b1 M0 B0
  simp only [Ent.val]
  by_cases ht : t = 0
  · subst ht
    go_wp2_with fail
    have bx : Below u1.heap.size u1 (u1.alloc (.cells #[.bool V, .bool W, .bool X, .bool B, .int .i64 f] 50)) := (Below.refl _ _).alloc (Nat.le_refl _) _
    have H2 := Lib.hid (five_new u1 V W X B f 50)
    have M2 := Lib.hid (M1.out.kept (Only.of bx []) (by simp) (by simp))
    have B2 := Lib.hid (B1.out.trans (bx.mono B1.out.size))
    have S2 := Lib.hid (S1.out.kept' bx)
    have G2 := Lib.hid (G1.out.kept' bx)
    clear S1 G1 bx M1 B1
    generalize u1.alloc (.cells #[.bool V, .bool W, .bool X, .bool B, .int .i64 f] 50) = u2 at *
    refine (check_any m F n c z V W X B f acc u2 M2.out).mono ?_
    rintro e u3 ⟨rfl, b3⟩
    have d1 := (H2.out.kept' b3).c1
    have d2 := (H2.out.kept' b3).c2
    have d3 := (H2.out.kept' b3).c3
    have d4 := (H2.out.kept' b3).c4
    have BB := Lib.hid (B2.out.trans (b3.mono B2.out.size))
    obtain ⟨c0, c1, c2, c3, c4, c5⟩ := S2.out.kept' b3
    have GG := (G2.out.kept' b3).2
    have g0 := GG 0
    have g1 := GG 1
    have g2 := GG 2
    have g3 := GG 3
    have g4 := GG 4
    have g5 := GG 5
    clear M2 S2 G2 H2 B2 b3 GG
    by_cases hk : checkS n ⟨V, W, X, B, f⟩ acc = 0
    · have T := Lib.hid (show hitOf n ⟨⟨V, W, X, B, f⟩, r, 0⟩ acc = ⟨0, r, f, W, X, B⟩ by unfold hitOf; rw [if_neg (show ¬ ((0 : Int) ≠ 0) by decide), if_neg (by rw [hk]; decide)])
      rw [hk]
      clear hk
      go_wp2
      refine bodyPost_ret (v := .agg #[.int .i64 0, .int .i64 r, .int .i64 f, .bool W, .bool X, .bool B]) (by simp [results, Try.results23, go_sem, c0, c1, c2, c3, c4, c5]) rfl ⟨by rw [T.out]; rfl, ?_⟩
      repeat' (first | (with_reducible exact BB.out) | (with_reducible refine Below.setCell ?_ ?_ _) | (with_reducible refine Below.alloc ?_ ?_ _) | exact Nat.le_refl _)
    · have T := Lib.hid (show hitOf n ⟨⟨V, W, X, B, f⟩, r, 0⟩ acc = ⟨checkS n ⟨V, W, X, B, f⟩ acc, r, 0, false, false, false⟩ by unfold hitOf; rw [if_neg (show ¬ ((0 : Int) ≠ 0) by decide), if_pos hk])
      obtain ⟨k, hkk⟩ : ∃ k, k = checkS n ⟨V, W, X, B, f⟩ acc := ⟨_, rfl⟩
      rw [← hkk] at hk T ⊢
      have dk : (k != 0) = true := by simpa using hk
      clear hk hkk
      go_wp2
      refine bodyPost_ret (v := .agg #[.int .i64 k, .int .i64 r, .int .i64 0, .bool false, .bool false, .bool false]) (by simp [results, Try.results23, go_sem, c0, c1, c2, c3, c4, c5]) rfl ⟨by rw [T.out]; rfl, ?_⟩
      repeat' (first | (with_reducible exact BB.out) | (with_reducible refine Below.setCell ?_ ?_ _) | (with_reducible refine Below.alloc ?_ ?_ _) | exact Nat.le_refl _)
  · have T := Lib.hid (show hitOf n ⟨⟨V, W, X, B, f⟩, r, t⟩ acc = ⟨t, r, 0, false, false, false⟩ by unfold hitOf; rw [if_pos ht])
    have dt : (t != 0) = true := by simpa using ht
    have dt' : (t == 0) = false := by simpa using ht
    have BB := B1
    have lt2 := G1.out.1
    obtain ⟨c0, c1, c2, c3, c4, c5⟩ := S1.out
    have GG := G1.out.2
    have g0 := GG 0
    have g1 := GG 1
    have g2 := GG 2
    have g3 := GG 3
    have g4 := GG 4
    have g5 := GG 5
    clear ht M1 S1 G1 B1 GG
    go_wp2
    refine bodyPost_ret (v := .agg #[.int .i64 t, .int .i64 r, .int .i64 0, .bool false, .bool false, .bool false]) (by simp [results, Try.results23, go_sem, c0, c1, c2, c3, c4, c5, lt2]) rfl ⟨by rw [T.out]; rfl, ?_⟩
    repeat' (first | (with_reducible exact BB.out) | (with_reducible refine drewB ?_ _) | (with_reducible refine Below.setCell ?_ ?_ _) | (with_reducible refine Below.alloc ?_ ?_ _) | (with_reducible exact Nat.le_refl _) | (simp; omega) | exact Nat.le_refl _ | omega)
end Wk
end Go.Proofs.Ytdjglmfilhodlaa
