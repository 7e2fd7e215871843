/-
  What every statement of layer 7 asks first (alive): it answers true, and changes nothing that was there; no condition.
-/
import Derived.Test.YtpfeibhafchfkaaWkPlain
namespace Go.Proofs.Ytpfeibhafchfkaa
open Go.RowKit Nt
namespace Wk
open Ph En
theorem both_at (n : Nat) (N : Int) (pa : Option Addr) (len cap : Nat) (x : Puts) (w : World) (hN : N = n) (h1 : 1 ≤ n) (hn : n ≤ 100) (hl : len ≤ 100) (hx : PutsIn w.heap.size w pa len x) :
    Calls Try.prog 10 #[.int .i64 N, .slice pa len cap] w (BothEnd n (zOf n x len) w) := by
  subst hN
  exact both_any n pa len cap x w h1 hn hl hx
theorem a_both (w : World) : Calls Try.prog 10 #[.int .i64 80, .slice (some ⟨w.heap.size, 0, none⟩) 3 3] (w.alloc (.cells #[.int .u32 0, .int .u32 257, .int .u32 4, .int .u32 4111, .int .u32 264, .int .u32 775] 57))
    (BothEnd 80 zA (w.alloc (.cells #[.int .u32 0, .int .u32 257, .int .u32 4, .int .u32 4111, .int .u32 264, .int .u32 775] 57))) := by
  refine both_at 80 80 _ 3 3 xA _ rfl (by decide) (by decide) (by decide) (fun _ => ⟨w.heap.size, 0, rfl, by simp, fun k hk => ?_⟩)
  match k, hk with
  | 0, _ => exact ⟨by simp [xA], by simp [xA], by decide, by decide, by decide⟩
  | 1, _ => exact ⟨by simp [xA], by simp [xA], by decide, by decide, by decide⟩
  | 2, _ => exact ⟨by simp [xA], by simp [xA], by decide, by decide, by decide⟩
theorem a_walk (m F c : Nat) (a acc : Int) (h : Hit) (w : World) (hM : Mem w m F 80 c zA) (h0 : 0 ≤ a) (h1 : a < 4294967296) (hh : walkS 80 zA 0 a acc = h) :
    Calls Try.prog 13 #[.pointer (some ⟨m, 0, none⟩), .int .i64 0, .int .u32 a, .int .i64 acc] w (HitEnd h w) := by
  subst hh
  exact walk_any m F 80 c zA 0 a acc w hM h0 h1
theorem a_look (m F c : Nat) (w : World) (hM : Mem w m F 80 c zA) : Calls Try.prog 15 #[.pointer (some ⟨m, 0, none⟩), .int .i64 0, .int .i64 2] w (SeenEnd ⟨⟨true, true, true, false, 3⟩, true⟩ w) := by
  rw [← lookA]
  exact look_any m F 80 c zA 0 2 w hM
theorem a_pages (m F c : Nat) (w : World) (hM : Mem w m F 80 c zA) : Calls Try.prog 18 #[.pointer (some ⟨m, 0, none⟩), .int .i64 0] w (DiffEnd (2 :: List.range' 64 64) w) := by
  rw [← pagesA]
  exact pages_any m F 80 c zA 0 w hM
theorem Six.keptO {w w' : World} {b : Nat} {f r F : Int} {W X B : Bool} (h : Six w b f r F W X B) (ho : Only [] w w') : Six w' b f r F W X B := h.kept' (ho.below (Nat.le_refl _) (by simp))
set_option maxRecDepth 100000 in
set_option maxHeartbeats 2000000 in
theorem alive_any (w : World) : Calls Try.prog 8 #[] w fun e w' => e = .returned (.bool true) ∧ Only [] w w' := by
  have q1 := fun w => eqHit 0 2 3 true true false w
  have q2 := fun w => eqHit 0 1 19 true true true w
  have q3 := fun w => eqHit 2 1 0 false false false w
  have P0 := Lib.hid (Only.alloc [] w (.cells #[.int .u32 0, .int .u32 257, .int .u32 4, .int .u32 4111, .int .u32 264, .int .u32 775] 57))
  go_enter Try.func8, Try.ntmps8
  go_wp2_with fail
  refine (a_both w).mono ?_
  rintro e w1 ⟨m, F, c, r, G, rfl, hB, hO, hm, hF, hr, hG⟩
  have M1 := Lib.hid hB.mem
  have O1 := Lib.hid (P0.out.next hO (by simp))
  clear hB hO hm hF hr hG P0
  go_wp2_with fail
  refine (a_walk m F c 530 1 _ w1 M1.out (by decide) (by decide) walkA).mono ?_
  rintro e w2 ⟨rfl, b2⟩
  simp only [Hit.val]
  have M2 := Lib.hid (M1.out.kept (Only.of b2 []) (by simp) (by simp))
  have O2 := Lib.hid (O1.out.next (Only.of b2 []) (by simp))
  clear M1 O1 b2
  go_wp2_with fail
  have ha := Only.alloc [] w2 (.cells #[.int .i64 0, .int .i64 2, .int .i64 3, .bool true, .bool true, .bool false] 34)
  have S3 := Lib.hid (six_new w2 0 2 3 true true false 34)
  have M3 := Lib.hid (M2.out.kept ha (by simp) (by simp))
  have O3 := Lib.hid (O2.out.next ha (by simp))
  clear M2 O2 ha
  generalize w2.alloc (.cells #[.int .i64 0, .int .i64 2, .int .i64 3, .bool true, .bool true, .bool false] 34) = w3 at *
  refine (a_walk m F c 17157 2 _ w3 M3.out (by decide) (by decide) walkB).mono ?_
  rintro e w4 ⟨rfl, b4⟩
  simp only [Hit.val]
  have S4 := Lib.hid (S3.out.kept' b4)
  have M4 := Lib.hid (M3.out.kept (Only.of b4 []) (by simp) (by simp))
  have O4 := Lib.hid (O3.out.next (Only.of b4 []) (by simp))
  clear M3 O3 S3 b4
  go_wp2_with fail
  have ha := Only.alloc [] w4 (.cells #[.int .i64 0, .int .i64 1, .int .i64 19, .bool true, .bool true, .bool true] 34)
  have S5 := Lib.hid (S4.out.keptO ha)
  have T5 := Lib.hid (six_new w4 0 1 19 true true true 34)
  have M5 := Lib.hid (M4.out.kept ha (by simp) (by simp))
  have O5 := Lib.hid (O4.out.next ha (by simp))
  clear M4 O4 S4 ha
  generalize w4.alloc (.cells #[.int .i64 0, .int .i64 1, .int .i64 19, .bool true, .bool true, .bool true] 34) = w5 at *
  refine (a_walk m F c 32768 0 _ w5 M5.out (by decide) (by decide) walkC).mono ?_
  rintro e w6 ⟨rfl, b6⟩
  simp only [Hit.val]
  have S6 := Lib.hid (S5.out.kept' b6)
  have T6 := Lib.hid (T5.out.kept' b6)
  have M6 := Lib.hid (M5.out.kept (Only.of b6 []) (by simp) (by simp))
  have O6 := Lib.hid (O5.out.next (Only.of b6 []) (by simp))
  clear M5 O5 S5 T5 b6
  go_wp2_with fail
  have ha := Only.alloc [] w6 (.cells #[.int .i64 2, .int .i64 1, .int .i64 0, .bool false, .bool false, .bool false] 34)
  have S7 := Lib.hid (S6.out.keptO ha)
  have T7 := Lib.hid (T6.out.keptO ha)
  have U7 := Lib.hid (six_new w6 2 1 0 false false false 34)
  have M7 := Lib.hid (M6.out.kept ha (by simp) (by simp))
  have O7 := Lib.hid (O6.out.next ha (by simp))
  clear M6 O6 S6 T6 ha
  generalize w6.alloc (.cells #[.int .i64 2, .int .i64 1, .int .i64 0, .bool false, .bool false, .bool false] 34) = w7 at *
  refine (a_look m F c w7 M7.out).mono ?_
  rintro e w8 ⟨rfl, b8⟩
  simp only [Ent.val]
  have S8 := Lib.hid (S7.out.kept' b8)
  have T8 := Lib.hid (T7.out.kept' b8)
  have U8 := Lib.hid (U7.out.kept' b8)
  have M8 := Lib.hid (M7.out.kept (Only.of b8 []) (by simp) (by simp))
  have O8 := Lib.hid (O7.out.next (Only.of b8 []) (by simp))
  clear M7 O7 S7 T7 U7 b8
  go_wp2_with fail
  have ha := Only.alloc [] w8 (.cells #[.bool true, .bool true, .bool true, .bool false, .int .i64 3] 40)
  have S9 := Lib.hid (S8.out.keptO ha)
  have T9 := Lib.hid (T8.out.keptO ha)
  have U9 := Lib.hid (U8.out.keptO ha)
  have V9 := Lib.hid (five_new w8 true true true false 3 40)
  have M9 := Lib.hid (M8.out.kept ha (by simp) (by simp))
  have O9 := Lib.hid (O8.out.next ha (by simp))
  clear M8 O8 S8 T8 U8 ha
  generalize w8.alloc (.cells #[.bool true, .bool true, .bool true, .bool false, .int .i64 3] 40) = w9 at *
  refine (a_pages m F c w9 M9.out).mono ?_
  rintro e wA ⟨pa, cc, rfl, hR, hO⟩
  obtain ⟨b, off, rfl, hcc⟩ := hR (by simp)
  have l0 : wA.cell? ⟨b, off, none⟩ = some (.int .i64 2) := hcc 0 (by simp)
  obtain ⟨s0, s1, s2, s3, s4, s5⟩ := S9.out.keptO hO
  obtain ⟨t0, t1, t2, t3, t4, t5⟩ := T9.out.keptO hO
  obtain ⟨u0, u1, u2, u3, u4, u5⟩ := U9.out.keptO hO
  have v4 := (V9.out.kept' (hO.below (Nat.le_refl _) (by simp))).c4
  have OA := Lib.hid (O9.out.next hO (by simp))
  have ln : (2 :: List.range' 64 64).length = 65 := by decide
  rw [ln]
  clear M9 O9 S9 T9 U9 V9 hO hR hcc ln
  go_wp2
  go_ret
  exact ⟨rfl, OA.out⟩
end Wk
end Go.Proofs.Ytpfeibhafchfkaa
