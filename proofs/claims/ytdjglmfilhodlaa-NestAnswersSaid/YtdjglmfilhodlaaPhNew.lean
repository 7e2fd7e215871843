/-
  What phys's New, Frame, Clone and Fill do with a memory; conditions: that a memory lies there, and that each argument is of its Go type.
-/
import Derived.Test.YtdjglmfilhodlaaPhMem
import Derived.Laws.CopyOwn
import Derived.Great.Walk
import Derived.Lib.SliceRun
namespace Go.Proofs.Ytdjglmfilhodlaa
open Go.RowKit
namespace Ph
/-- A frame of noughts. -/
def zeroL : List Value := List.replicate 256 (.int .u8 0)
theorem infoF : (Try.prog.info? 74).map (fun i => (i.zero, i.size, i.bytes)) = some (some (.agg zeroL.toArray), 256, 256) := by kernel_rfl
theorem zeroL_len : zeroL.length = 256 := by unfold zeroL; exact List.length_replicate
theorem zeroL_at (j : Nat) (h : j < 256) : zeroL[j]? = some (.int .u8 0) := by unfold zeroL; rw [List.getElem?_replicate, if_pos h]
theorem made_frames (n : Nat) (wx : World) (hn : n ≤ 1024) :
    (Instr.makeSlice 71 (.int .i64 (n : Int)) (.int .i64 (n : Int))).run Try.prog wx = .ok (.slice (some ⟨wx.heap.size, 0, none⟩) n n) (wx.alloc (.cells (madeCells zeroL.toArray (n * 256)) 74)) := by
  obtain ⟨i, hi, hz0, hz1, hz2⟩ := info_parts infoF
  have hr := run_make (P := Try.prog) wx 71 74 i _ Try.underlying71 hi hz0 .i64 .i64 n n (by omega) (Int.le_refl _) (by rw [hz2]; omega) (by omega)
  simp only [Int.toNat_natCast, hz1] at hr
  exact hr
theorem made_row (n : Nat) (w : World) : Row (w.alloc (.cells (madeCells zeroL.toArray (n * 256)) 74)) w.heap.size (256 * n) (fun _ => 0) := by
  refine ⟨by simp, fun j hj => ?_, fun j hj => World.frozen?_alloc_new w _ _ _, fun j hj => ⟨by decide, by decide⟩⟩
  rw [World.cell?_alloc_new]
  unfold madeCells
  rw [Array.getElem?_map, Array.getElem?_range, if_pos (by omega)]
  have e : zeroL.toArray.size = 256 := by rw [List.size_toArray, zeroL_len]
  have := zeroL_at (j % 256) (by omega)
  simp only [Option.map_some, e]
  rw [getElem!_def, List.getElem?_toArray, this]
theorem new_run (n : Nat) (w : World) (h1 : 1 ≤ n) (hn : n ≤ 1024) :
    Calls Try.prog 25 #[.int .i64 n] w fun e w' => e = .returned (.tuple #[.pointer (some ⟨w.heap.size + 1, 0, none⟩), .int .i64 0]) ∧
      w' = (w.alloc (.cells (madeCells zeroL.toArray (n * 256)) 74)).alloc (.cells #[.slice (some ⟨w.heap.size, 0, none⟩) n n] 76) := by
  have d1 : decide ((n : Int) < 1) = false := by simp; omega
  have d2 : decide ((1024 : Int) < (n : Int)) = false := by simp; omega
  have hmk := fun wx => made_frames n wx hn
  go_enter Try.func25, Try.ntmps25
  go_wp2
  go_ret2
  exact ⟨rfl, rfl⟩
theorem new_no (n : Int) (w : World) (h : n < 1 ∨ 1024 < n) :
    Calls Try.prog 25 #[.int .i64 n] w fun e w' => e = .returned (.tuple #[.pointer none, .int .i64 11]) ∧ w = w' := by
  by_cases h1 : n < 1
  · have d1 : decide (n < 1) = true := by simpa using h1
    clear h
    go_enter Try.func25, Try.ntmps25
    go_wp2
    go_ret2
    exact ⟨rfl, rfl⟩
  · have d1 : decide (n < 1) = false := by simpa using h1
    have d2 : decide (1024 < n) = true := by simp; omega
    clear h
    go_enter Try.func25, Try.ntmps25
    go_wp2
    go_ret2
    exact ⟨rfl, rfl⟩
/-- How a call that makes a memory ends. -/
def NewEnd (n : Nat) (z : Nat → Int) (w : World) (f : Value → Value) (e : Ending) (w' : World) : Prop :=
  ∃ m F c, e = .returned (f (.pointer (some ⟨m, 0, none⟩))) ∧ Mem w' m F n c z ∧ Only [] w w' ∧ w.heap.size ≤ m ∧ w.heap.size ≤ F
theorem new_any (n : Nat) (w : World) (h1 : 1 ≤ n) (hn : n ≤ 1024) :
    Calls Try.prog 25 #[.int .i64 n] w (NewEnd n (fun _ => 0) w (fun p => .tuple #[p, .int .i64 0])) := by
  refine (new_run n w h1 hn).mono ?_
  rintro e w' ⟨rfl, rfl⟩
  have hr := made_row n w
  have ho := Only.alloc [] w (.cells (madeCells zeroL.toArray (n * 256)) 74)
  refine ⟨w.heap.size + 1, w.heap.size, n, rfl, ⟨by simp, ?_, hr.kept (Only.alloc [] _ _) (by simp), by omega, hn⟩, ho.trans (Only.alloc _ _ _), by omega, Nat.le_refl _⟩
  simp
/-- Bytes as values. -/
def vsN (N : Nat) (z : Nat → Int) : List Value := (List.range N).map (fun j => Value.int .u8 (z j))
theorem vsN_len (N : Nat) (z : Nat → Int) : (vsN N z).length = N := by unfold vsN; simp
theorem vsN_at (N : Nat) (z : Nat → Int) (j : Nat) (h : j < N) : (vsN N z)[j]? = some (.int .u8 (z j)) := by unfold vsN; simp [h]
theorem vsN_one (N : Nat) (z : Nat → Int) : ∀ u ∈ vsN N z, u.oneCell' = true := by
  unfold vsN
  intro u hu
  simp at hu
  obtain ⟨j, _, rfl⟩ := hu
  rfl
theorem vsN_news {w : World} {b off N : Nat} {z : Nat → Int} (h : ∀ j, j < N → w.cell? ⟨b, off + j, none⟩ = some (.int .u8 (z j))) : ∀ j u, (vsN N z)[j]? = some u → w.cell? ((⟨b, off, none⟩ : Addr).add j) = some u := by
  intro j u hu
  have hj : j < N := by
    rcases Nat.lt_or_ge j N with h | h
    · exact h
    · rw [List.getElem?_eq_none (by rw [vsN_len]; exact h)] at hu
      cases hu
  rw [add_eq, h j hj, ← hu, vsN_at _ _ _ hj]
theorem own_row {w : World} {base n c g size : Nat} {t : TypeId} {N : Nat} {z : Nat → Int} (h : w.ownsRow base t size (.slice (some ⟨g, 0, none⟩) n c) n (vsN N z)) (hN : N = n * size) (h8 : ∀ j, j < N → B8 (z j)) : Row w g N z ∧ base ≤ g := by
  obtain ⟨h1, h2⟩ := h
  rcases h2 with ⟨h2, _⟩ | ⟨g2, cap, cur, hv, hg, hb2, hnc, hm, hs, ht⟩
  · cases h2
  · injection hv with e1 e2 e3
    injection e1 with e1
    injection e1 with e1
    subst e1 e3
    refine ⟨⟨?_, fun j hj => ?_, fun j hj => ?_, h8⟩, hg⟩
    · obtain ⟨hlt, _⟩ := Array.getElem?_eq_some_iff.1 hb2
      exact hlt
    · have : w.cell? ⟨g, j, none⟩ = cur[j]? := by simp [World.cell?, hb2]
      rw [this, ← Array.getElem?_toList, ← List.getElem?_take_of_lt (show j < n * size by omega), ht, vsN_at _ _ _ hj]
    · simp [World.frozen?, hb2]
/-- How a copy of bytes ends. -/
def CopyEnd (n : Nat) (z : Nat → Int) (w : World) (e : Ending) (w' : World) : Prop :=
  ∃ g c, e = .returned (.slice (some ⟨g, 0, none⟩) n c) ∧ Row w' g n z ∧ Only [] w w' ∧ w.heap.size ≤ g
theorem not_nil (wx : World) (x : Addr) (n cap : Nat) (t e : TypeId) (hu : Try.prog.underlying t = some (.slice e)) : (binOp .eql t (.slice (some x) n cap) (.slice none 0 0)).run Try.prog wx = .ok (.bool false) wx :=
  Lib.run_eql_slice_nil (P := Try.prog) wx t e (some x) n cap 0 0 hu
/-- A slice of bytes reads so. -/
def Rd (w : World) (pa : Option Addr) (n : Nat) (z : Nat → Int) : Prop :=
  (0 < n → ∃ b off, pa = some ⟨b, off, none⟩ ∧ ∀ j, j < n → w.cell? ⟨b, off + j, none⟩ = some (.int .u8 (z j))) ∧ ∀ j, j < n → B8 (z j)
/-- How a reading of a frame ends. -/
def FrameEnd (z : Nat → Int) (w : World) (e : Ending) (w' : World) : Prop :=
  ∃ g c, e = .returned (.tuple #[.slice (some ⟨g, 0, none⟩) 256 c, .int .i64 0]) ∧ Row w' g 256 z ∧ Only [] w w' ∧ w.heap.size ≤ g
end Ph
end Go.Proofs.Ytdjglmfilhodlaa
