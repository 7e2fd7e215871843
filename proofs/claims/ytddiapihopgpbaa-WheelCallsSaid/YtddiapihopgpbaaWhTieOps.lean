/-
  What a wheel's New, place, slotOf, Now, Len and At answer. Conditions: that a wheel lies there; numbers are in their kind's range.
-/
import Derived.Test.YtddiapihopgpbaaWhTieBase
namespace Go.Proofs.Ytddiapihopgpbaa
open Go.RowKit Go.Maps
namespace Wh
open Ph (Only)

theorem tNow (w : World) (p : Nat) (F : List Nat) (t : Nat) (l : List DuT) (h : WhT w p F t l) : Calls Try.prog 20 #[.pointer (some ⟨p, 0, none⟩)] w fun e w' => e = .returned (.int .u64 (t : Nat)) ∧ w = w' := by
  obtain ⟨A, m, rfl, hw, hf⟩ := h
  have c0 := hw.c0
  clear hw hf
  go_enter Try.func20, Try.ntmps20
  go_wp2
  go_ret
  exact ⟨rfl, rfl⟩
theorem tLen (w : World) (p : Nat) (F : List Nat) (t : Nat) (l : List DuT) (h : WhT w p F t l) : Calls Try.prog 21 #[.pointer (some ⟨p, 0, none⟩)] w fun e w' => e = .returned (.int .i64 (l.length : Nat)) ∧ w = w' := by
  obtain ⟨A, m, rfl, hw, hf⟩ := h
  have c1 := hw.c1
  have hl := fun ty => hw.all.count ty
  clear hw hf
  go_enter Try.func21, Try.ntmps21
  go_wp2
  go_ret
  exact ⟨rfl, rfl⟩
theorem tAt (w : World) (p : Nat) (F : List Nat) (t : Nat) (l : List DuT) (d : Int) (h : WhT w p F t l) (hd : W64 d) : Calls Try.prog 18 #[.pointer (some ⟨p, 0, none⟩), .int .i64 d] w fun e w' => e = .returned (.tuple #[.int .u64 ((atP d l).getD 0 : Nat), .bool (atP d l).isSome]) ∧ Only [] w w' := by
  obtain ⟨A, m, rfl, hw, hf⟩ := h
  have c1 := hw.c1
  have hl := hw.all.look hf.fit hd
  generalize (atP d l).getD 0 = a at hl ⊢
  generalize (atP d l).isSome = b at hl ⊢
  clear hw hf hd
  go_enter Try.func18, Try.ntmps18
  go_wp2
  go_ret2
  exact ⟨rfl, Only.refl _ _⟩
theorem tNew_no (t : Nat) (w : World) (h : 4611686018427387904 < t) : Calls Try.prog 9 #[.int .u64 (t : Nat)] w fun e w' => e = .returned (.tuple #[.pointer none, .int .i64 11]) ∧ Only [] w w' := by
  go_enter Try.func9, Try.ntmps9
  go_wp2
  go_ret2
  exact ⟨rfl, Only.refl _ _⟩
/-- A new wheel's cells. -/
def zeroW (t A : Nat) : List Value := [.int .u64 (t : Nat), .map (some A)] ++ List.replicate 168 (.map none)
theorem new_lies (w : World) (t : Nat) :
    Wx ((w.alloc (.map #[] 0)).alloc (.cells (zeroW t w.heap.size).toArray 61)) (w.heap.size + 1) w.heap.size t [] (fun _ => none) (inK t []) := by
  have hm := (Mp.made w).kept (Only.alloc [] _ (.cells (zeroW t w.heap.size).toArray 61)) (by simp)
  have hz : (w.alloc (.map #[] 0)).heap.size = w.heap.size + 1 := World.size_alloc _ _
  have hc : ∀ j, ((w.alloc (.map #[] 0)).alloc (.cells (zeroW t w.heap.size).toArray 61)).cell? ⟨w.heap.size + 1, j, none⟩ = (zeroW t w.heap.size)[j]? := fun j => by
    rw [← hz, World.cell?_alloc_new]
    simp
  refine { lt := by simp, c0 := hc 0, c1 := hc 1, ck := fun k hk => ?_, fz := fun j => ?_, all := hm, some_ := fun k b _ e => (by cases e), none_ := fun _ _ _ => rfl, apart := fun _ _ _ _ _ e => (by cases e), ne := fun _ _ e => (by cases e) }
  · rw [hc]
    unfold zeroW
    rw [List.getElem?_append_right (by simp), List.getElem?_replicate]
    simp [hk]
  · rw [← hz]; exact World.frozen?_alloc_new _ _ _ _
def zeroZ : List Value := [.int .u64 0, .map none] ++ List.replicate 168 (.map none)
def zeroC : Array Value := zeroZ.toArray
theorem zeroC_size : zeroC.size = 170 := by kernel_rfl
theorem zeroC_set (t A : Nat) : (zeroC.setIfInBounds 0 (.int .u64 (t : Nat))).setIfInBounds 1 (.map (some A)) = (zeroW t A).toArray := by kernel_rfl
set_option maxRecDepth 100000 in
theorem tNew_yes (t : Nat) (w : World) (ht : t ≤ 4611686018427387904) : Calls Try.prog 9 #[.int .u64 (t : Nat)] w fun e w' => ∃ p F, e = .returned (.tuple #[.pointer (some ⟨p, 0, none⟩), .int .i64 0]) ∧ WhT w' p F t [] ∧ (∀ x ∈ F, w.heap.size ≤ x) ∧ Only [] w w' := by
  have hmm := @run_makeMap Try.prog
  have hzv : ∀ W : World, (zeroValue 61).run Try.prog W = .ok (.agg zeroC) W := fun W => by kernel_rfl
  have hz0 : (zeroC = #[]) = False := eq_false (fun e => by have := congrArg Array.size e; rw [zeroC_size] at this; cases this)
  have hz1 := zeroC_size
  have hz2 := zeroC_set t w.heap.size
  have HN := Lib.hid (new_lies w t)
  have HT := Lib.hid ht
  have HO := Lib.hid ((Only.alloc [] w (.map #[] 0)).trans (Only.alloc [] _ (.cells (zeroW t w.heap.size).toArray 61)))
  go_enter Try.func9, Try.ntmps9
  go_wp2
  go_ret2
  refine ⟨w.heap.size + 1, blks (w.heap.size + 1) w.heap.size (fun _ => none), rfl, ⟨_, _, rfl, HN.out, ⟨List.Pairwise.nil, List.Pairwise.nil, by simp, by simp, HT.out⟩⟩, fun x hx => ?_, HO.out⟩
  rcases mem_blks.1 hx with rfl | rfl | ⟨k, _, e⟩
  · omega
  · exact Nat.le_refl _
  · cases e
end Wh
end Go.Proofs.Ytddiapihopgpbaa
