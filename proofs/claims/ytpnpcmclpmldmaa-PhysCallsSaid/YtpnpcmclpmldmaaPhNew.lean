/-
  What phys's New, Frame, Clone and Fill do with a memory; conditions: that a memory lies there, and that each argument is of its Go type.
-/
import Derived.Test.YtpnpcmclpmldmaaPhMem
import Derived.Laws.CopyOwn
import Derived.Great.Walk
import Derived.Lib.SliceRun
namespace Go.Proofs.Ytpnpcmclpmldmaa
open Go.RowKit
namespace Ph
/-- A frame of noughts. -/
def zeroL : List Value := List.replicate 256 (.int .u8 0)
theorem infoF : (Try.prog.info? 66).map (fun i => (i.zero, i.size, i.bytes)) = some (some (.agg zeroL.toArray), 256, 256) := by kernel_rfl
theorem zeroL_len : zeroL.length = 256 := by unfold zeroL; exact List.length_replicate
theorem zeroL_at (j : Nat) (h : j < 256) : zeroL[j]? = some (.int .u8 0) := by unfold zeroL; rw [List.getElem?_replicate, if_pos h]
theorem made_frames (n : Nat) (wx : World) (hn : n ≤ 1024) :
    (Instr.makeSlice 59 (.int .i64 (n : Int)) (.int .i64 (n : Int))).run Try.prog wx = .ok (.slice (some ⟨wx.heap.size, 0, none⟩) n n) (wx.alloc (.cells (madeCells zeroL.toArray (n * 256)) 66)) := by
  obtain ⟨i, hi, hz0, hz1, hz2⟩ := info_parts infoF
  have hr := run_make (P := Try.prog) wx 59 66 i _ Try.underlying59 hi hz0 .i64 .i64 n n (by omega) (Int.le_refl _) (by rw [hz2]; omega) (by omega)
  simp only [Int.toNat_natCast, hz1] at hr
  exact hr
theorem made_row (n : Nat) (w : World) : Row (w.alloc (.cells (madeCells zeroL.toArray (n * 256)) 66)) w.heap.size (256 * n) (fun _ => 0) := by
  refine ⟨by simp, fun j hj => ?_, fun j hj => World.frozen?_alloc_new w _ _ _, fun j hj => ⟨by decide, by decide⟩⟩
  rw [World.cell?_alloc_new]
  unfold madeCells
  rw [Array.getElem?_map, Array.getElem?_range, if_pos (by omega)]
  have e : zeroL.toArray.size = 256 := by rw [List.size_toArray, zeroL_len]
  have := zeroL_at (j % 256) (by omega)
  simp only [Option.map_some, e]
  rw [getElem!_def, List.getElem?_toArray, this]
theorem new_run (n : Nat) (w : World) (h1 : 1 ≤ n) (hn : n ≤ 1024) :
    Calls Try.prog 10 #[.int .i64 n] w fun e w' => e = .returned (.tuple #[.pointer (some ⟨w.heap.size + 1, 0, none⟩), .int .i64 0]) ∧
      w' = (w.alloc (.cells (madeCells zeroL.toArray (n * 256)) 66)).alloc (.cells #[.slice (some ⟨w.heap.size, 0, none⟩) n n] 61) := by
  have d1 : decide ((n : Int) < 1) = false := by simp; omega
  have d2 : decide ((1024 : Int) < (n : Int)) = false := by simp; omega
  have hmk := fun wx => made_frames n wx hn
  go_enter Try.func10, Try.ntmps10
  go_wp2
  go_ret2
  exact ⟨rfl, rfl⟩
theorem new_no (n : Int) (w : World) (h : n < 1 ∨ 1024 < n) :
    Calls Try.prog 10 #[.int .i64 n] w fun e w' => e = .returned (.tuple #[.pointer none, .int .i64 11]) ∧ w = w' := by
  by_cases h1 : n < 1
  · have d1 : decide (n < 1) = true := by simpa using h1
    clear h
    go_enter Try.func10, Try.ntmps10
    go_wp2
    go_ret2
    exact ⟨rfl, rfl⟩
  · have d1 : decide (n < 1) = false := by simpa using h1
    have d2 : decide (1024 < n) = true := by simp; omega
    clear h
    go_enter Try.func10, Try.ntmps10
    go_wp2
    go_ret2
    exact ⟨rfl, rfl⟩
/-- How a call that makes a memory ends. -/
def NewEnd (n : Nat) (z : Nat → Int) (w : World) (f : Value → Value) (e : Ending) (w' : World) : Prop :=
  ∃ m F c, e = .returned (f (.pointer (some ⟨m, 0, none⟩))) ∧ Mem w' m F n c z ∧ Only [] w w' ∧ w.heap.size ≤ m ∧ w.heap.size ≤ F
theorem new_any (n : Nat) (w : World) (h1 : 1 ≤ n) (hn : n ≤ 1024) :
    Calls Try.prog 10 #[.int .i64 n] w (NewEnd n (fun _ => 0) w (fun p => .tuple #[p, .int .i64 0])) := by
  refine (new_run n w h1 hn).mono ?_
  rintro e w' ⟨rfl, rfl⟩
  have hr := made_row n w
  have ho := Only.alloc [] w (.cells (madeCells zeroL.toArray (n * 256)) 66)
  refine ⟨w.heap.size + 1, w.heap.size, n, rfl, ⟨by simp, ?_, hr.kept (Only.alloc [] _ _) (by simp), by omega, hn⟩, ho.trans (Only.alloc _ _ _), by omega, Nat.le_refl _⟩
  simp
/-- Bytes as values. -/
def vsN (N : Nat) (z : Nat → Int) : List Value := (List.range N).map (fun j => Value.int .u8 (z j))
theorem vsN_len (N : Nat) (z : Nat → Int) : (vsN N z).length = N := by unfold vsN; simp
theorem vsN_at (N : Nat) (z : Nat → Int) (j : Nat) (h : j < N) : (vsN N z)[j]? = some (.int .u8 (z j)) := by unfold vsN; simp [h]
theorem vsN_one (N : Nat) (z : Nat → Int) : ∀ u ∈ vsN N z, u.oneCell' = true := by
  unfold vsN
  intro u hu
  simp at hu
  obtain ⟨j, _, rfl⟩ := hu
  rfl
theorem vsN_news {w : World} {b off N : Nat} {z : Nat → Int} (h : ∀ j, j < N → w.cell? ⟨b, off + j, none⟩ = some (.int .u8 (z j))) : ∀ j u, (vsN N z)[j]? = some u → w.cell? ((⟨b, off, none⟩ : Addr).add j) = some u := by
  intro j u hu
  have hj : j < N := by
    rcases Nat.lt_or_ge j N with h | h
    · exact h
    · rw [List.getElem?_eq_none (by rw [vsN_len]; exact h)] at hu
      cases hu
  rw [add_eq, h j hj, ← hu, vsN_at _ _ _ hj]
theorem own_row {w : World} {base n c g size : Nat} {t : TypeId} {N : Nat} {z : Nat → Int} (h : w.ownsRow base t size (.slice (some ⟨g, 0, none⟩) n c) n (vsN N z)) (hN : N = n * size) (h8 : ∀ j, j < N → B8 (z j)) : Row w g N z ∧ base ≤ g := by
  obtain ⟨h1, h2⟩ := h
  rcases h2 with ⟨h2, _⟩ | ⟨g2, cap, cur, hv, hg, hb2, hnc, hm, hs, ht⟩
  · cases h2
  · injection hv with e1 e2 e3
    injection e1 with e1
    injection e1 with e1
    subst e1 e3
    refine ⟨⟨?_, fun j hj => ?_, fun j hj => ?_, h8⟩, hg⟩
    · obtain ⟨hlt, _⟩ := Array.getElem?_eq_some_iff.1 hb2
      exact hlt
    · have : w.cell? ⟨g, j, none⟩ = cur[j]? := by simp [World.cell?, hb2]
      rw [this, ← Array.getElem?_toList, ← List.getElem?_take_of_lt (show j < n * size by omega), ht, vsN_at _ _ _ hj]
    · simp [World.frozen?, hb2]
/-- How a copy of bytes ends. -/
def CopyEnd (n : Nat) (z : Nat → Int) (w : World) (e : Ending) (w' : World) : Prop :=
  ∃ g c, e = .returned (.slice (some ⟨g, 0, none⟩) n c) ∧ Row w' g n z ∧ Only [] w w' ∧ w.heap.size ≤ g
theorem not_nil (wx : World) (x : Addr) (n cap : Nat) (t e : TypeId) (hu : Try.prog.underlying t = some (.slice e)) : (binOp .eql t (.slice (some x) n cap) (.slice none 0 0)).run Try.prog wx = .ok (.bool false) wx :=
  Lib.run_eql_slice_nil (P := Try.prog) wx t e (some x) n cap 0 0 hu
theorem cloneB_pos (b off n cap : Nat) (z : Nat → Int) (w : World) (hn : 0 < n) (h2 : n ≤ 20000) (h8 : ∀ j, j < n → B8 (z j)) (hc : ∀ j, j < n → w.cell? ⟨b, off + j, none⟩ = some (.int .u8 (z j))) :
    Calls Try.prog 34 #[.slice (some ⟨b, off, none⟩) n cap] w (CopyEnd n z w) := by
  obtain ⟨i0, hi, hz0, hz1, hz2⟩ := info_parts info5
  have hq := fun wx => not_nil wx ⟨b, off, none⟩ n cap 34 _ Try.underlying34
  go_enter Try.func34, Try.ntmps34
  have own0 : (w.alloc (.cells #[] 5)).ownsRow w.heap.size 5 1 (.slice (some ⟨w.heap.size, 0, none⟩) 0 0) 0 [] :=
    World.ownsRow_lit w #[] 0 (Nat.le_refl _) (by decide) rfl
  have news : ∀ j u, (vsN n z)[j]? = some u → (w.alloc (.cells #[] 5)).cell? ((⟨b, off, none⟩ : Addr).add j) = some u :=
    vsN_news (fun j hj => by rw [World.cell?_alloc_past _ _ _ (World.block_lt_of_cell? w _ (hc j hj))]; exact hc j hj)
  have O := Lib.hid own0
  have NW := Lib.hid news
  have H8 := Lib.hid h8
  clear own0 news hc h8
  go_wp2_with (at_builtin; refine wpList_append_lies _ rfl (.tmp 5) (.tmp 6) 34 rfl w.heap.size 5 i0 (.int .u8 0) 1 1 Try.underlying34 hi hz0 hz1 hz2 rfl (by decide) (.slice (some ⟨w.heap.size, 0, none⟩) 0 0) 0 [] rfl O.out ⟨b, off, none⟩ n cap (vsN n z) rfl (by rw [vsN_len, Nat.mul_one]) NW.out (vsN_one _ _) hn (by unfold maxLen; omega) (by omega) (by simp) _ rfl ?_; intro g c w1 hown hgrow hat hlt)
  have own1 := Lib.hid hown
  have gr := Lib.hid hgrow
  clear hown hgrow hat
  simp only [Nat.zero_add, List.nil_append] at own1
  obtain ⟨hr, hg⟩ := own_row own1.out (Nat.mul_one n).symm H8.out
  refine bodyPost_ret (v := .slice (some ⟨g, 0, none⟩) n c) (by simp [results, Try.results34]) rfl ⟨g, c, rfl, hr, Only.of ?_ _, hg⟩
  exact ((Below.refl _ _).alloc (Nat.le_refl _) _).grown gr.out (by simp) (by intro k hk; simp [Value.ownBlock] at hk; omega)
theorem copyB_pos (b off n cap : Nat) (z : Nat → Int) (w : World) (hn : 0 < n) (h2 : n ≤ 20000) (h8 : ∀ j, j < n → B8 (z j)) (hc : ∀ j, j < n → w.cell? ⟨b, off + j, none⟩ = some (.int .u8 (z j))) :
    Calls Try.prog 20 #[.slice (some ⟨b, off, none⟩) n cap] w (CopyEnd n z w) := by
  obtain ⟨i0, hi, hz0, hz1, hz2⟩ := info_parts info5
  go_enter Try.func20, Try.ntmps20
  have own0 : (w.alloc (.cells #[] 5)).ownsRow w.heap.size 5 1 (.slice (some ⟨w.heap.size, 0, none⟩) 0 0) 0 [] :=
    World.ownsRow_lit w #[] 0 (Nat.le_refl _) (by decide) rfl
  have news : ∀ j u, (vsN n z)[j]? = some u → (w.alloc (.cells #[] 5)).cell? ((⟨b, off, none⟩ : Addr).add j) = some u :=
    vsN_news (fun j hj => by rw [World.cell?_alloc_past _ _ _ (World.block_lt_of_cell? w _ (hc j hj))]; exact hc j hj)
  have O := Lib.hid own0
  have NW := Lib.hid news
  have H8 := Lib.hid h8
  clear own0 news hc h8
  go_wp2_with (at_builtin; refine wpList_append_lies _ rfl (.tmp 5) (.tmp 6) 34 rfl w.heap.size 5 i0 (.int .u8 0) 1 1 Try.underlying34 hi hz0 hz1 hz2 rfl (by decide) (.slice (some ⟨w.heap.size, 0, none⟩) 0 0) 0 [] rfl O.out ⟨b, off, none⟩ n cap (vsN n z) rfl (by rw [vsN_len, Nat.mul_one]) NW.out (vsN_one _ _) hn (by unfold maxLen; omega) (by omega) (by simp) _ rfl ?_; intro g c w1 hown hgrow hat hlt)
  have own1 := Lib.hid hown
  have gr := Lib.hid hgrow
  clear hown hgrow hat
  simp only [Nat.zero_add, List.nil_append] at own1
  obtain ⟨hr, hg⟩ := own_row own1.out (Nat.mul_one n).symm H8.out
  refine bodyPost_ret (v := .slice (some ⟨g, 0, none⟩) n c) (by simp [results, Try.results20]) rfl ⟨g, c, rfl, hr, Only.of ?_ _, hg⟩
  exact ((Below.refl _ _).alloc (Nat.le_refl _) _).grown gr.out (by simp) (by intro k hk; simp [Value.ownBlock] at hk; omega)
/-- A slice of bytes reads so. -/
def Rd (w : World) (pa : Option Addr) (n : Nat) (z : Nat → Int) : Prop :=
  (0 < n → ∃ b off, pa = some ⟨b, off, none⟩ ∧ ∀ j, j < n → w.cell? ⟨b, off + j, none⟩ = some (.int .u8 (z j))) ∧ ∀ j, j < n → B8 (z j)
theorem copyB_any (pa : Option Addr) (n cap : Nat) (z : Nat → Int) (w : World) (h2 : n ≤ 20000) (hr : Rd w pa n z) : Calls Try.prog 20 #[.slice pa n cap] w (CopyEnd n z w) := by
  by_cases hn : 0 < n
  · obtain ⟨b, off, rfl, hc⟩ := hr.1 hn
    exact copyB_pos b off n cap z w hn h2 hr.2 hc
  · have e0 : n = 0 := by omega
    subst e0
    refine (copy_zero pa cap w).mono ?_
    rintro e w' ⟨rfl, rfl⟩
    exact ⟨w.heap.size, 0, rfl, ⟨by simp, fun j hj => absurd hj (Nat.not_lt_zero _), fun j hj => absurd hj (Nat.not_lt_zero _), fun j hj => absurd hj (Nat.not_lt_zero _)⟩, Only.alloc _ _ _, Nat.le_refl _⟩
theorem frame_no (m F n c : Nat) (z : Nat → Int) (k : Int) (w : World) (hM : Mem w m F n c z) (hk : ¬ (0 ≤ k ∧ k < n)) :
    Calls Try.prog 18 #[.pointer (some ⟨m, 0, none⟩), .int .i64 k] w fun e w' => e = .returned (.tuple #[.slice none 0 0, .int .i64 11]) ∧ w = w' := by
  have hh := hM.head
  have HK := Lib.hid hk
  clear hk
  go_enter Try.func18, Try.ntmps18
  go_wp2_with (go_at_call 30; refine (has_no m F n c k _ hh HK.out).mono ?_; rintro e w' ⟨rfl, rfl⟩)
  go_ret2
  exact ⟨rfl, rfl⟩
/-- How a reading of a frame ends. -/
def FrameEnd (z : Nat → Int) (w : World) (e : Ending) (w' : World) : Prop :=
  ∃ g c, e = .returned (.tuple #[.slice (some ⟨g, 0, none⟩) 256 c, .int .i64 0]) ∧ Row w' g 256 z ∧ Only [] w w' ∧ w.heap.size ≤ g
theorem frame_yes (m F n c k : Nat) (z : Nat → Int) (w : World) (hM : Mem w m F n c z) (hk : k < n) :
    Calls Try.prog 18 #[.pointer (some ⟨m, 0, none⟩), .int .i64 k] w (FrameEnd (fun j => z (256 * k + j)) w) := by
  have hf := hM.few
  have hh := hM.head
  have hR := Lib.hid hM.row
  clear hM
  go_enter Try.func18, Try.ntmps18
  go_wp2_with (first | (go_at_call 30; refine (has_yes m F n c k _ hh hk).mono ?_; rintro e w' ⟨rfl, rfl⟩) | (go_at_call 34; refine (cloneB_pos F (k * 256) 256 256 (fun j => z (256 * k + j)) _ (by decide) (by decide) (fun j hj => hR.out.b8 _ (by omega)) (fun j hj => by rw [Nat.mul_comm k]; exact hR.out.cell _ (by omega))).mono ?_; rintro e w' ⟨g, cc, rfl, hg1, hg2, hg3⟩))
  go_ret2
  exact ⟨g, cc, rfl, hg1, hg2, hg3⟩
end Ph
end Go.Proofs.Ytpnpcmclpmldmaa
