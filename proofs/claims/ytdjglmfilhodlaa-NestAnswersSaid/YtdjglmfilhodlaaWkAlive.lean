/-
  What every statement of layer 7 asks first (alive): it answers true, and changes nothing that was there; no condition.
-/
import Derived.Test.YtdjglmfilhodlaaWkPlain
namespace Go.Proofs.Ytdjglmfilhodlaa
open Go.RowKit Nt
namespace Wk
open Ph En
theorem both_at (n : Nat) (N : Int) (pa : Option Addr) (len cap : Nat) (x : Puts) (w : World) (hN : N = n) (h1 : 1 ≤ n) (hn : n ≤ 100) (hl : len ≤ 100) (hx : PutsIn w.heap.size w pa len x) :
    Calls Try.prog 10 #[.int .i64 N, .slice pa len cap] w (BothEnd n (zOf n x len) w) := by
  subst hN
  exact both_any n pa len cap x w h1 hn hl hx
theorem a_both (w : World) : Calls Try.prog 10 #[.int .i64 80, .slice (some ⟨w.heap.size, 0, none⟩) 3 3] (w.alloc (.cells #[.int .u32 0, .int .u32 257, .int .u32 4, .int .u32 4111, .int .u32 264, .int .u32 775] 58))
    (BothEnd 80 zA (w.alloc (.cells #[.int .u32 0, .int .u32 257, .int .u32 4, .int .u32 4111, .int .u32 264, .int .u32 775] 58))) := by
  refine both_at 80 80 _ 3 3 xA _ rfl (by decide) (by decide) (by decide) (fun _ => ⟨w.heap.size, 0, rfl, by simp, fun k hk => ?_⟩)
  match k, hk with
  | 0, _ => exact ⟨by simp [xA], by simp [xA], by decide, by decide, by decide⟩
  | 1, _ => exact ⟨by simp [xA], by simp [xA], by decide, by decide, by decide⟩
  | 2, _ => exact ⟨by simp [xA], by simp [xA], by decide, by decide, by decide⟩
theorem a_walk (m F c : Nat) (a acc : Int) (h : Hit) (w : World) (hM : Mem w m F 80 c zA) (h0 : 0 ≤ a) (h1 : a < 4294967296) (hh : walkS 80 zA 0 a acc = h) :
    Calls Try.prog 23 #[.pointer (some ⟨m, 0, none⟩), .int .i64 0, .int .u32 a, .int .i64 acc] w (HitEnd h w) := by
  subst hh
  exact walk_any m F 80 c zA 0 a acc w hM h0 h1
theorem a_look (m F c : Nat) (w : World) (hM : Mem w m F 80 c zA) : Calls Try.prog 19 #[.pointer (some ⟨m, 0, none⟩), .int .i64 0, .int .i64 2] w (SeenEnd ⟨⟨true, true, true, false, 3⟩, true⟩ w) := by
  rw [← lookA]
  exact look_any m F 80 c zA 0 2 w hM
theorem a_pages (m F c : Nat) (w : World) (hM : Mem w m F 80 c zA) : Calls Try.prog 41 #[.pointer (some ⟨m, 0, none⟩), .int .i64 0] w (DiffEnd (2 :: List.range' 64 64) w) := by
  rw [← pagesA]
  exact pages_any m F 80 c zA 0 w hM
theorem Six.keptO {w w' : World} {b : Nat} {f r F : Int} {W X B : Bool} (h : Six w b f r F W X B) (ho : Only [] w w') : Six w' b f r F W X B := h.kept' (ho.below (Nat.le_refl _) (by simp))
end Wk
end Go.Proofs.Ytdjglmfilhodlaa
