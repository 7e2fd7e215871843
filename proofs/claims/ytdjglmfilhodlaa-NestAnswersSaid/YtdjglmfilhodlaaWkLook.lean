/-
  What walk's Look answers, at every argument; conditions: that a memory lies there, and that each argument is of its Go type.
-/
import Derived.Test.YtdjglmfilhodlaaWkWalk
namespace Go.Proofs.Ytdjglmfilhodlaa
open Go.RowKit Nt
namespace Wk
open Ph En
/-- What Look tells. -/
structure Seen where
  e : Ent
  ok : Bool
def seenOf (h : Hit) : Seen := if h.f = 0 then ⟨⟨true, h.W, h.X, h.B, h.F⟩, true⟩ else ⟨e0, false⟩
def lookS (n : Nat) (z : Nat → Int) (root p : Int) : Seen := if 0 ≤ p ∧ p < 4096 then seenOf (walkS n z root (p * 256) 0) else ⟨e0, false⟩
theorem join0 (p : Int) (w : World) (h0 : 0 ≤ p) (h1 : p < 4096) :
    Calls Try.prog 38 #[.int .i64 p, .int .i64 0] w fun e w' => e = .returned (.tuple #[.int .u32 (p * 256), .bool true]) ∧ w = w' := by
  have h := join_yes p 0 w h0 h1 (by decide) (by decide)
  rw [show p * 256 + 0 = p * 256 by omega] at h
  exact h
def SeenEnd (s : Seen) (w : World) (e : Ending) (w' : World) : Prop := e = .returned (.tuple #[s.e.val, .bool s.ok]) ∧ Below w.heap.size w w'
set_option maxHeartbeats 2000000 in
theorem look_any (m F n c : Nat) (z : Nat → Int) (root p : Int) (w : World) (hM : Mem w m F n c z) :
    Calls Try.prog 19 #[.pointer (some ⟨m, 0, none⟩), .int .i64 root, .int .i64 p] w (SeenEnd (lookS n z root p) w) := by
  have hb : Below w.heap.size w (w.alloc (.cells #[.bool false, .bool false, .bool false, .bool false, .int .i64 0] 50)) := (Below.refl _ _).alloc (Nat.le_refl _) _
  have M0 := Lib.hid (hM.kept (Only.of hb []) (by simp) (by simp))
  have B0 := Lib.hid hb
  have F0 := Lib.hid (five_new w false false false false 0 50)
  have G0 := Lib.hid (free_new w #[.bool false, .bool false, .bool false, .bool false, .int .i64 0] 50)
  have bb := hb
  obtain ⟨u, hu⟩ : ∃ u, u = w.alloc (.cells #[.bool false, .bool false, .bool false, .bool false, .int .i64 0] 50) := ⟨_, rfl⟩
  rw [← hu] at M0 B0 F0 G0
  have HU := Lib.hid hu
  clear hM hb bb hu
  by_cases hp : 0 ≤ p ∧ p < 4096
  · obtain ⟨⟨f, r, F', W, X, B⟩, hT⟩ : ∃ T, walkS n z root (p * 256) 0 = T := ⟨_, rfl⟩
    have T0 := Lib.hid (show lookS n z root p = seenOf ⟨f, r, F', W, X, B⟩ by unfold lookS; rw [if_pos hp, hT])
    have HT := Lib.hid hT
    obtain ⟨p0, p1⟩ := hp
    clear hT
    go_enter Try.func19, Try.ntmps19
    go_wp2_with (go_at_call 38; rw [← HU.out]; refine (join0 p _ p0 p1).mono ?_; rintro e w' ⟨rfl, rfl⟩)
    refine (walk_any m F n c z root (p * 256) 0 u M0.out (by omega) (by omega)).mono ?_
    rintro e u1 ⟨rfl, b1⟩
    rw [HT.out]
    simp only [Hit.val]
    have BB := Lib.hid (B0.out.trans (b1.mono B0.out.size))
    obtain ⟨c0, c1, c2, c3, c4⟩ := F0.out.kept' b1
    have lt2 := (G0.out.kept' b1).1
    have GG := (G0.out.kept' b1).2
    have g0 := GG 0
    have g1 := GG 1
    have g2 := GG 2
    have g3 := GG 3
    have g4 := GG 4
    clear M0 B0 F0 G0 b1 GG HU
    by_cases hf : f = 0
    · have T := Lib.hid (show lookS n z root p = ⟨⟨true, W, X, B, F'⟩, true⟩ by rw [T0.out]; unfold seenOf; rw [if_pos hf])
      subst hf
      clear T0 HT
      go_wp2
      refine bodyPost_ret (v := .tuple #[.agg #[.bool true, .bool W, .bool X, .bool B, .int .i64 F'], .bool true]) (by simp [results, Try.results19, go_sem, c0, c1, c2, c3, c4, lt2]) rfl ⟨by rw [T.out]; rfl, ?_⟩
      repeat' (first | (with_reducible exact BB.out) | (with_reducible refine drewB ?_ _) | (with_reducible refine Below.setCell ?_ ?_ _) | (with_reducible refine Below.alloc ?_ ?_ _) | (with_reducible exact Nat.le_refl _) | (simp; omega) | exact Nat.le_refl _ | omega)
    · have T := Lib.hid (show lookS n z root p = ⟨e0, false⟩ by rw [T0.out]; unfold seenOf; rw [if_neg hf])
      have df : (f != 0) = true := by simpa using hf
      clear T0 HT hf
      go_wp2
      refine bodyPost_ret (v := .tuple #[.agg #[.bool false, .bool false, .bool false, .bool false, .int .i64 0], .bool false]) (by simp [results, Try.results19, go_sem, c0, c1, c2, c3, c4, lt2]) rfl ⟨by rw [T.out]; rfl, ?_⟩
      repeat' (first | (with_reducible exact BB.out) | (with_reducible refine drewB ?_ _) | (with_reducible refine Below.setCell ?_ ?_ _) | (with_reducible refine Below.alloc ?_ ?_ _) | (with_reducible exact Nat.le_refl _) | (simp; omega) | exact Nat.le_refl _ | omega)
  · have T := Lib.hid (show lookS n z root p = ⟨e0, false⟩ by unfold lookS; rw [if_neg hp])
    have HP := Lib.hid hp
    clear hp
    go_enter Try.func19, Try.ntmps19
    go_wp2_with (go_at_call 38; rw [← HU.out]; refine (join_no p 0 _ (fun h => HP.out ⟨h.1, h.2.1⟩)).mono ?_; rintro e w' ⟨rfl, rfl⟩; obtain ⟨c0, c1, c2, c3, c4⟩ := F0.out; have GG := G0.out.2; have g0 := GG 0; have g1 := GG 1; have g2 := GG 2; have g3 := GG 3; have g4 := GG 4; clear GG F0 G0 M0)
    have BB := B0
    refine bodyPost_ret (v := .tuple #[.agg #[.bool false, .bool false, .bool false, .bool false, .int .i64 0], .bool false]) (by simp [results, Try.results19, go_sem, c0, c1, c2, c3, c4]) rfl ⟨by rw [T.out]; rfl, ?_⟩
    repeat' (first | (with_reducible exact BB.out) | (with_reducible refine drewB ?_ _) | (with_reducible refine Below.setCell ?_ ?_ _) | (with_reducible refine Below.alloc ?_ ?_ _) | (with_reducible exact Nat.le_refl _) | (simp; omega) | exact Nat.le_refl _ | omega)
end Wk
end Go.Proofs.Ytdjglmfilhodlaa
