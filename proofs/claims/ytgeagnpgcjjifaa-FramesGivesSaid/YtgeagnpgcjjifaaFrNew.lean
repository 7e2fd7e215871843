/-
  What frames's New, and the document's own New and owner answer. Conditions: none.
-/
import Derived.Test.YtgeagnpgcjjifaaFrMove
namespace Go.Proofs.Ytgeagnpgcjjifaa
open Go.RowKit
namespace Fr
open Ph (Only)

/-- A block's cells, whole. -/
def Lay (w : World) (b : Nat) (t : TypeId) (cs : List Value) : Prop := w.heap[b]? = some (.cells cs.toArray t (0, 0))
theorem Lay.new (w : World) (t : TypeId) (cs : List Value) : Lay (w.alloc (.cells cs.toArray t)) w.heap.size t cs := heap_alloc_new w _
theorem Lay.lt {w : World} {b : Nat} {t : TypeId} {cs : List Value} (h : Lay w b t cs) : b < w.heap.size := (Array.getElem?_eq_some_iff.1 h).1
theorem Lay.kept {w w' : World} {b : Nat} {t : TypeId} {cs : List Value} {S : List Nat} (h : Lay w b t cs) (ho : Only S w w') (hb : b ∉ S) : Lay w' b t cs := (ho.block b h.lt hb).trans h
theorem Lay.cell {w : World} {b : Nat} {t : TypeId} {cs : List Value} (h : Lay w b t cs) (j : Nat) : w.cell? ⟨b, j, none⟩ = cs[j]? := by
  unfold Lay at h
  simp [World.cell?, h]
theorem Lay.free {w : World} {b : Nat} {t : TypeId} {cs : List Value} (h : Lay w b t cs) (j : Nat) : w.frozen? ⟨b, j, none⟩ = false := by
  unfold Lay at h
  simp [World.frozen?, h]
theorem infoInt : (Try.prog.info? 3).map (fun i => (i.zero, i.size, i.bytes)) = some (some (.int .i64 0), 1, 8) := by kernel_rfl
theorem info_parts {t : TypeId} {z : Value} {k b : Nat} (h : (Try.prog.info? t).map (fun i => (i.zero, i.size, i.bytes)) = some (some z, k, b)) : ∃ i, Try.prog.info? t = some i ∧ i.zero = some z ∧ i.size = k ∧ i.bytes = b := by
  obtain ⟨i, hi, hx⟩ := Option.map_eq_some_iff.1 h
  simp only [Prod.mk.injEq] at hx
  exact ⟨i, hi, hx⟩
theorem made_ints (n : Nat) (wx : World) (hn : n ≤ 1024) :
    (Instr.makeSlice 33 (.int .i64 (n : Int)) (.int .i64 (n : Int))).run Try.prog wx = .ok (.slice (some ⟨wx.heap.size, 0, none⟩) n n) (wx.alloc (.cells (madeCells #[.int .i64 0] n) 3)) := by
  obtain ⟨i, hi, hz0, hz1, hz2⟩ := info_parts infoInt
  have hr := run_make (P := Try.prog) wx 33 3 i _ Try.underlying33 hi hz0 .i64 .i64 n n (by omega) (Int.le_refl _) (by rw [hz2]; omega) (by omega)
  simp only [Int.toNat_natCast, hz1, Nat.mul_one] at hr
  exact hr
theorem made_row (n : Nat) (t : TypeId) (w : World) : IRow (w.alloc (.cells (madeCells #[.int .i64 0] n) t)) w.heap.size (List.replicate n 0) := by
  refine ⟨by simp, fun j x hj => ?_, fun j hj => World.frozen?_alloc_new w _ _ _⟩
  rw [List.getElem?_replicate] at hj
  split at hj
  · rename_i h
    injection hj with hj
    subst hj
    rw [World.cell?_alloc_new]
    unfold madeCells
    rw [Array.getElem?_map, Array.getElem?_range, if_pos h]
    simp [Nat.mod_one]
  · cases hj
theorem cn_replicate (n k : Nat) : cn (List.replicate n 0) k = if k = 0 then (n : Int) else 0 := by
  unfold cn
  rw [List.count_replicate]
  by_cases h : k = 0
  · subst h; simp
  · rw [if_neg h, if_neg (by simp; exact fun e => h e.symm)]
    rfl
theorem new_yes (n : Nat) (w : World) (h1 : 1 ≤ n) (h2 : n ≤ 1024) :
    Calls Try.prog 9 #[.int .i64 n] w fun e w' => e = .returned (.tuple #[.pointer (some ⟨w.heap.size + 1, 0, none⟩), .int .i64 0]) ∧ Tab w' (w.heap.size + 1) w.heap.size (List.replicate n 0) ∧ Only [] w w' := by
  have hm := fun wx => made_ints n wx h2
  have hr := Lib.hid (made_row n 3 w)
  go_enter Try.func9, Try.ntmps9
  go_wp2_with fail
  go_ret2
  have hL := Lay.new (w.alloc (.cells (madeCells #[.int .i64 0] n) 3)) 50 [.slice (some ⟨w.heap.size, 0, none⟩) n n, .int .i64 n, .int .i64 0, .int .i64 0, .int .i64 0, .int .i64 0, .int .i64 0, .int .i64 0, .int .i64 0, .int .i64 0, .int .i64 0]
  rw [World.size_alloc] at hL
  have hO := Only.alloc [] (w.alloc (.cells (madeCells #[.int .i64 0] n) 3)) (.cells #[.slice (some ⟨w.heap.size, 0, none⟩) n n, .int .i64 n, .int .i64 0, .int .i64 0, .int .i64 0, .int .i64 0, .int .i64 0, .int .i64 0, .int .i64 0, .int .i64 0, .int .i64 0] 50)
  refine ⟨rfl, ⟨⟨hL.lt, by omega, ?_, fun k hk => ?_, fun k _ => hL.free _, hr.out.kept hO (by simp)⟩, fun x hx => ?_, by simpa using h2⟩, (Only.alloc [] w _).trans hO⟩
  · rw [List.length_replicate]
    exact hL.cell 0
  · rw [cn_replicate]
    have hc := hL.cell (1 + k)
    match k, hk with
    | 0, _ => exact hc
    | 1, _ => exact hc
    | 2, _ => exact hc
    | 3, _ => exact hc
    | 4, _ => exact hc
    | 5, _ => exact hc
    | 6, _ => exact hc
    | 7, _ => exact hc
    | 8, _ => exact hc
    | 9, _ => exact hc
  · rw [List.eq_of_mem_replicate hx]
    omega
theorem new_no (n : Int) (w : World) (h : n < 1 ∨ 1024 < n) :
    Calls Try.prog 9 #[.int .i64 n] w fun e w' => e = .returned (.tuple #[.pointer none, .int .i64 11]) ∧ w = w' := by
  by_cases h1 : n < 1
  · clear h
    go_enter Try.func9, Try.ntmps9
    go_wp2
    go_ret2
    exact ⟨rfl, rfl⟩
  · have h2 : 1024 < n := by omega
    clear h
    go_enter Try.func9, Try.ntmps9
    go_wp2
    go_ret2
    exact ⟨rfl, rfl⟩
theorem rnew_any (n : Nat) (w : World) (h2 : n ≤ 1024) :
    Calls Try.prog 10 #[.int .i64 n] w fun e w' => e = .returned (.pointer (some ⟨w.heap.size + 1, 0, none⟩)) ∧ RTab w' (w.heap.size + 1) w.heap.size (List.replicate n 0) ∧ Only [] w w' := by
  have hm := fun wx => made_ints n wx h2
  have hr := Lib.hid (made_row n 3 w)
  go_enter Try.func10, Try.ntmps10
  go_wp2_with fail
  go_ret
  have hL := Lay.new (w.alloc (.cells (madeCells #[.int .i64 0] n) 3)) 36 [.slice (some ⟨w.heap.size, 0, none⟩) n n]
  rw [World.size_alloc] at hL
  have hO := Only.alloc [] (w.alloc (.cells (madeCells #[.int .i64 0] n) 3)) (.cells #[.slice (some ⟨w.heap.size, 0, none⟩) n n] 36)
  refine ⟨rfl, ⟨hL.lt, by omega, ?_, hr.out.kept hO (by simp)⟩, (Only.alloc [] w _).trans hO⟩
  rw [List.length_replicate]
  exact hL.cell 0
theorem rowner_any (o : Int) (w : World) : Calls Try.prog 31 #[.int .i64 o] w fun e w' => e = .returned (.bool (tk o)) ∧ w = w' := by
  unfold tk
  by_cases h : 1 ≤ o
  · have d1 : decide (1 ≤ o) = true := decide_eq_true h
    rw [d1, Bool.true_and]
    go_enter Try.func31, Try.ntmps31
    go_wp2
    go_ret
    exact ⟨rfl, rfl⟩
  · have d1 : decide (1 ≤ o) = false := decide_eq_false h
    rw [d1, Bool.false_and]
    go_enter Try.func31, Try.ntmps31
    go_wp2
    go_ret
    exact ⟨rfl, rfl⟩
end Fr
end Go.Proofs.Ytgeagnpgcjjifaa
