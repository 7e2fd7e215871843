/-
  What the document's own memory does; conditions: that such a memory lies there, and that each argument is of its Go type.
-/
import Derived.Test.YtdjglmfilhodlaaPhDiff
namespace Go.Proofs.Ytdjglmfilhodlaa
open Go.RowKit
namespace Ph
/-- The document's own memory: its place, its bytes' block. -/
structure RMem (w : World) (r G n : Nat) (z : Nat → Int) : Prop where
  lt : r < w.heap.size
  head : w.cell? ⟨r, 0, none⟩ = some (.slice (some ⟨G, 0, none⟩) (256 * n) (256 * n))
  row : Row w G (256 * n) z
  apart : r ≠ G
  few : n ≤ 1024
  pos : 0 < n
theorem RMem.kept {w w' : World} {r G n : Nat} {z : Nat → Int} {S : List Nat} (h : RMem w r G n z) (ho : Only S w w') (hm : r ∉ S) (hF : G ∉ S) : RMem w' r G n z :=
  ⟨Nat.lt_of_lt_of_le h.lt ho.size, (ho.cell h.lt hm 0).trans h.head, h.row.kept ho hF, h.apart, h.few, h.pos⟩
theorem RMem.with {w w' : World} {r G n : Nat} {z z' : Nat → Int} {S : List Nat} (h : RMem w r G n z) (ho : Only S w w') (hm : r ∉ S) (hr : Row w' G (256 * n) z') : RMem w' r G n z' :=
  ⟨Nat.lt_of_lt_of_le h.lt ho.size, (ho.cell h.lt hm 0).trans h.head, hr, h.apart, h.few, h.pos⟩
theorem rnew_run (n : Nat) (w : World) (h1 : 1 ≤ n) (hn : n ≤ 1024) :
    Calls Try.prog 26 #[.int .i64 n] w fun e w' => e = .returned (.pointer (some ⟨w.heap.size + 1, 0, none⟩)) ∧
      w' = (w.alloc (.cells (madeCells #[.int .u8 0] (256 * n)) 5)).alloc (.cells #[.slice (some ⟨w.heap.size, 0, none⟩) (256 * n) (256 * n)] 90) := by
  have ec : ((256 * n : Nat) : Int) = 256 * (n : Int) := by omega
  have hmk := fun wx => run_make_row' (P := Try.prog) 88 5 (.int .u8 0) 1 Try.underlying88 info5 rfl .i64 .i64 (256 * n) (by omega) (by omega) wx
  rw [ec] at hmk
  clear ec
  go_enter Try.func26, Try.ntmps26
  go_wp2
  go_ret
  exact ⟨rfl, rfl⟩
theorem rnew_any (n : Nat) (w : World) (h1 : 1 ≤ n) (hn : n ≤ 1024) :
    Calls Try.prog 26 #[.int .i64 n] w fun e w' => ∃ r G, e = .returned (.pointer (some ⟨r, 0, none⟩)) ∧ RMem w' r G n (fun _ => 0) ∧ Only [] w w' ∧ w.heap.size ≤ r ∧ w.heap.size ≤ G := by
  refine (rnew_run n w h1 hn).mono ?_
  rintro e w' ⟨rfl, rfl⟩
  have hm := World.rowIs_made w (.int .u8 0) (256 * n) 5
  have ho := Only.alloc [] w (.cells (madeCells #[.int .u8 0] (256 * n)) 5)
  have hr : Row (w.alloc (.cells (madeCells #[.int .u8 0] (256 * n)) 5)) w.heap.size (256 * n) (fun _ => 0) := ⟨by simp, fun j hj => hm.cell hj, fun j _ => hm.frozen j, fun _ _ => ⟨by decide, by decide⟩⟩
  exact ⟨w.heap.size + 1, w.heap.size, rfl, ⟨by simp, by simp, hr.kept (Only.alloc [] _ _) (by simp), by omega, hn, h1⟩, ho.trans (Only.alloc _ _ _), by omega, Nat.le_refl _⟩
theorem hwA_true {n a : Nat} (h : hwA n a = true) : a % 4 = 0 ∧ a < 256 * n := by
  unfold hwA at h
  simpa using h
theorem hwA_false {n a : Nat} (h : hwA n a = false) : a % 4 ≠ 0 ∨ ¬ a < 256 * n := by
  rcases Decidable.em (a % 4 = 0 ∧ a < 256 * n) with h2 | h2
  · unfold hwA at h
    simp [h2.1, h2.2] at h
  · omega
theorem rword_any (r G n a : Nat) (z : Nat → Int) (w : World) (hM : RMem w r G n z) (ha : a < 4294967296) :
    Calls Try.prog 17 #[.pointer (some ⟨r, 0, none⟩), .int .u32 a] w fun e w' => e = .returned (.tuple #[.int .u32 (rdw n z a), .bool (hwA n a)]) ∧ w = w' := by
  have hh := hM.head
  have hf := hM.few
  have hp := hM.pos
  have HM := Lib.hid hM.row
  cases hk : hwA n a
  · have e1 := Lib.hid (show rdw n z a = 0 by unfold rdw; rw [if_neg (by rw [hk]; decide)])
    have h2 := hwA_false hk
    clear hk hM
    by_cases h4 : a % 4 = 0
    · have d : ((a : Int) % 4 != 0) = false := by simp; omega
      have h3 : ¬ a < 256 * n := by omega
      clear h2 h4
      go_enter Try.func17, Try.ntmps17
      go_wp2_with (go_at_call 36; refine (rget_no _ (256 * n) _ a _ (by omega) (by omega)).mono ?_; rintro e w' ⟨rfl, rfl⟩)
      go_ret2
      exact ⟨by rw [e1.out] <;> rfl, rfl⟩
    · have d : ((a : Int) % 4 != 0) = true := by simp; omega
      clear h2 h4
      go_enter Try.func17, Try.ntmps17
      go_wp2
      go_ret2
      exact ⟨by rw [e1.out] <;> rfl, rfl⟩
  · have e1 := Lib.hid (show rdw n z a = word4 (z a) (z (a + 1)) (z (a + 2)) (z (a + 3)) by unfold rdw; rw [if_pos hk])
    obtain ⟨h4, h3⟩ := hwA_true hk
    have d : ((a : Int) % 4 != 0) = false := by simp; omega
    have H4 := Lib.hid h4
    clear hk hM h4
    go_enter Try.func17, Try.ntmps17
    go_wp2_with (go_at_call 36; refine (rget_yes G 0 (256 * n) _ a (z a) (z (a + 1)) (z (a + 2)) (z (a + 3)) _ (by omega) (by have := H4.out; omega) (by omega) (HM.out.b8 _ (by omega)) (HM.out.b8 _ (by have := H4.out; omega)) (HM.out.b8 _ (by have := H4.out; omega)) (HM.out.b8 _ (by have := H4.out; omega)) (by rw [Int.toNat_natCast, Nat.zero_add]; exact HM.out.cell _ (by omega)) (by rw [Int.toNat_natCast, Nat.zero_add]; exact HM.out.cell _ (by have := H4.out; omega)) (by rw [Int.toNat_natCast, Nat.zero_add]; exact HM.out.cell _ (by have := H4.out; omega)) (by rw [Int.toNat_natCast, Nat.zero_add]; exact HM.out.cell _ (by have := H4.out; omega))).mono ?_; rintro e w' ⟨rfl, rfl⟩)
    go_ret2
    exact ⟨by rw [e1.out] <;> rfl, rfl⟩
/-- How a call that changes the document's own memory ends. -/
def RPutEnd (v : Value) (r G n : Nat) (z' : Nat → Int) (w : World) (e : Ending) (w' : World) : Prop := e = .returned v ∧ RMem w' r G n z' ∧ Only [G] w w'
/-- How Four ends. -/
def FourEnd (x : Int) (w : World) (e : Ending) (w' : World) : Prop := ∃ H, e = .returned (.slice (some ⟨H, 0, none⟩) 4 4) ∧ (∀ k, k < 4 → w'.cell? ⟨H, k, none⟩ = some (.int .u8 (byte4 x k))) ∧ Only [] w w' ∧ w.heap.size ≤ H ∧ H < w'.heap.size
theorem four_end (x : Int) (w : World) (x0 : 0 ≤ x) (x1 : x < 4294967296) : Calls Try.prog 47 #[.int .u32 x] w (FourEnd x w) := by
  refine (four_any x w x0 x1).mono ?_
  rintro e w' ⟨rfl, rfl⟩
  refine ⟨w.heap.size, rfl, fun k hk => ?_, Only.alloc _ _ _, Nat.le_refl _, by simp⟩
  rw [World.cell?_alloc_new]
  match k, hk with
  | 0, _ => rfl
  | 1, _ => rfl
  | 2, _ => rfl
  | 3, _ => rfl
/-- The first k bytes of a word are put. -/
def putk (z : Nat → Int) (a : Nat) (x : Int) (k j : Nat) : Int := if a ≤ j ∧ j < a + k then byte4 x (j - a) else z j
theorem putk_succ (z : Nat → Int) (a : Nat) (x : Int) (k j : Nat) : put1 (putk z a x k) (a + k) (byte4 x k) j = putk z a x (k + 1) j := by
  unfold put1 putk
  by_cases h : j = a + k
  · subst h
    rw [if_pos rfl, if_pos (by omega), show a + k - a = k by omega]
  · rw [if_neg h]
    by_cases h2 : a ≤ j ∧ j < a + k
    · rw [if_pos h2, if_pos (by omega)]
    · rw [if_neg h2, if_neg (by omega)]
set_option maxRecDepth 100000 in
set_option maxHeartbeats 1000000 in
theorem rputWord_yes (r G n a : Nat) (z : Nat → Int) (x : Int) (w : World) (hM : RMem w r G n z) (ha : a < 4294967296) (x0 : 0 ≤ x) (x1 : x < 4294967296) (hk : hwA n a = true) :
    Calls Try.prog 27 #[.pointer (some ⟨r, 0, none⟩), .int .u32 a, .int .u32 x] w (RPutEnd (.bool true) r G n (putw z a x) w) := by
  obtain ⟨h4, h3⟩ := hwA_true hk
  have H4 := Lib.hid h4
  have HM := Lib.hid hM
  have hf := hM.few
  clear hM h4
  go_enter Try.func27, Try.ntmps27
  go_wp2_with (first | (go_at_call 17; refine (rword_any r G n a z _ HM.out ha).mono ?_; rintro e w' ⟨rfl, rfl⟩) | (go_at_call 47; refine (four_end x _ x0 x1).mono ?_; rintro e w1 ⟨H, rfl, hc4, ho4, hH, hlt4⟩; have C4 := Lib.hid hc4; have O4 := Lib.hid ho4; clear hc4 ho4))
  have M1 := Lib.hid (HM.out.kept O4.out (by simp) (by simp))
  go_loopw [10] (fun i wr => ∃ k : Nat, k ≤ 4 ∧ i = .int .i64 k ∧ RMem wr r G n (putk z a x k) ∧ Only [G] w1 wr) (fun i _ => 4 - (intOf i).toNat)
  case atStart =>
    refine ⟨0, by omega, rfl, ?_, Only.refl _ _⟩
    have e : putk z a x 0 = z := by
      funext j
      unfold putk
      rw [if_neg (by omega)]
    rw [e]
    exact M1.out
  case round =>
    obtain ⟨k, hk4, rfl, hM2, hO2⟩ := hrel
    have HG : H ≠ G := by have := HM.out.row.lt; omega
    by_cases hlt : k < 4
    · have cH := (hO2.cell hlt4 (by simpa using HG) k).trans (C4.out k hlt)
      have MH := Lib.hid hM2
      have OH := Lib.hid hO2
      clear hM2 hO2
      have hl4 : ((k : Int) < 4) := by omega
      go_wp2_with fail
      refine still_tail (S := fun w' => RMem w' r G n (putk z a x k) ∧ Only [G] w1 w' ∧ w'.cell? ⟨H, k, none⟩ = some (.int .u8 (byte4 x k))) 13 (by kernel_rfl) (by kernel_rfl) ⟨MH.out.kept (Only.drewN [] _ 1) (by simp) (by simp), OH.out.trans (Only.drewN _ _ 1), cH⟩ ?_
      rintro w5 ⟨M5, O5, c5⟩
      have hh5 := M5.head
      have ca := M5.row.cell (a + k) (by have := H4.out; omega)
      have fa := M5.row.free (a + k) (by have := H4.out; omega)
      clear MH OH cH
      have MH := Lib.hid M5
      have OH := Lib.hid O5
      clear M5 O5
      have b1 : (0 : Int) ≤ (a : Int) + k := by omega
      have b2 : (a : Int) + k < 256 * n := by have := H4.out; omega
      have b3 : ((a : Int) + k).toNat = a + k := by omega
      have ea : IntKind.i64.wrap (a : Int) = a := IntWalk.i64_in _ (by omega)
      have ek : IntKind.i64.wrap ((a : Int) + k) = (a : Int) + k := IntWalk.i64_in _ ⟨by omega, by omega⟩
      simp only [List.take_succ_cons, List.take_zero, List.drop_succ_cons, List.drop_zero]
      iterate 13 still_step
      refine wpStill_nil ?_
      clear ea ek
      go_wp2
      go_roundw
      case rel =>
        have ho := Only.setCell (S := [G]) w5 (List.mem_singleton.2 rfl) (a + k) (.int .u8 (byte4 x k))
        exact ⟨k + 1, by omega, by go_num, MH.out.with ho (by simpa using HM.out.apart) ((MH.out.row.set _ _ (by have := H4.out; omega) (byte4_8 x k x0 x1)).congr (fun j _ => putk_succ z a x k j)), OH.out.trans ho⟩
      case measure => simp [intOf]; omega
    · have e : k = 4 := by omega
      subst e
      have MH := Lib.hid hM2
      have OH := Lib.hid hO2
      clear hM2 hO2
      go_wp2
      go_ret
      exact ⟨rfl, MH.out, (O4.out.mono (by simp)).trans OH.out⟩
theorem rputWord_no (r G n a : Nat) (z : Nat → Int) (x : Int) (w : World) (hM : RMem w r G n z) (ha : a < 4294967296) (hk : hwA n a = false) :
    Calls Try.prog 27 #[.pointer (some ⟨r, 0, none⟩), .int .u32 a, .int .u32 x] w fun e w' => e = .returned (.bool false) ∧ w = w' := by
  have HM := Lib.hid hM
  clear hM
  go_enter Try.func27, Try.ntmps27
  go_wp2_with (go_at_call 17; refine (rword_any r G n a z _ HM.out ha).mono ?_; rintro e w' ⟨rfl, rfl⟩)
  go_ret
  exact ⟨rfl, rfl⟩
theorem rputWord_any (r G n a : Nat) (z : Nat → Int) (x : Int) (w : World) (hM : RMem w r G n z) (ha : a < 4294967296) (x0 : 0 ≤ x) (x1 : x < 4294967296) :
    Calls Try.prog 27 #[.pointer (some ⟨r, 0, none⟩), .int .u32 a, .int .u32 x] w (RPutEnd (.bool (hwA n a)) r G n (pw n z a x) w) := by
  unfold pw
  cases hk : hwA n a
  · refine (rputWord_no r G n a z x w hM ha hk).mono ?_
    rintro e w' ⟨rfl, rfl⟩
    exact ⟨rfl, hM, Only.refl _ _⟩
  · exact rputWord_yes r G n a z x w hM ha x0 x1 hk
end Ph
end Go.Proofs.Ytdjglmfilhodlaa
