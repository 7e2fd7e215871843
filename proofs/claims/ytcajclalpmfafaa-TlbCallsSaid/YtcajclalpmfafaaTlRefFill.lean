/-
  The document's own TLB: Fill. Conditions: that it lies there.
-/
import Derived.Test.YtcajclalpmfafaaTlRef
namespace Go.Proofs.Ytcajclalpmfafaa
open Go.RowKit Go.Maps
namespace Tl
open Ph (Only)

theorem RTlb.put {w : World} {r g room next : Nat} {ps : List (Option SlotT)} (h : RTlb w r g room next ps) (i : Nat) (o : Option SlotT) (hi : i < room) : RTlb (w.setCells g (i * 6) (encR o)) r g room next (ps.set i o) ∧ Only [g] w (w.setCells g (i * 6) (encR o)) :=
  ⟨{ h with lay := h.lay.kept (only_setC (S := [g]) (by simp) _ _ _) (by simp; exact h.ne), row := h.row.set encR_len i o (by rw [h.len]; exact hi), len := by rw [List.length_set]; exact h.len }, only_setC (by simp) _ _ _⟩
theorem RTlb.hop {w : World} {r g room next : Nat} {ps : List (Option SlotT)} (h : RTlb w r g room next ps) (n : Nat) (hn : n < room) : RTlb (w.setCell ⟨r, 1, none⟩ (.int .i64 (n : Int))) r g room n ps ∧ Only [r] w (w.setCell ⟨r, 1, none⟩ (.int .i64 (n : Int))) :=
  ⟨{ h with lay := h.lay.set 1 _, row := h.row.kept (Only.setCell (S := [r]) w (by simp) 1 _) (by simp; exact h.ne.symm), nlt := hn }, Only.setCell w (by simp) 1 _⟩
set_option maxRecDepth 100000 in
set_option maxHeartbeats 1000000 in
theorem rfill_any (r g room next : Nat) (ps : List (Option SlotT)) (s : SlotT) (w : World) (hR : RTlb w r g room next ps) :
    Calls Try.prog 10 #[.pointer (some ⟨r, 0, none⟩), refV (s, true)] w fun e w' => e = .returned (.tuple #[]) ∧ RTlb w' r g room (fillN room next ps s) (fillP next ps s) ∧ Only [r, g] w w' := by
  obtain ⟨v, p, f, wr, ex⟩ := s
  have hA := Lib.hid (Only.alloc [] w (.cells #[.int .i64 v, .int .i64 p, .int .i64 f, .bool wr, .bool ex, .bool true] 37))
  have hR1 := Lib.hid (hR.kept hA.out (by simp) (by simp))
  have hL1 := Lib.hid (Lay.new w 37 [.int .i64 v, .int .i64 p, .int .i64 f, .bool wr, .bool ex, .bool true])
  have hrw := hR.lay.lt
  have hgw := hR.row.lt
  clear hR
  go_enter Try.func10, Try.ntmps10
  go_wp2_with fail
  refine (at_any r g room next ps v p _ hR1.out).mono ?_
  rintro e w2 ⟨rfl, rfl⟩
  obtain ⟨w1, hw1⟩ : ∃ w1, w1 = w.alloc (.cells #[.int .i64 v, .int .i64 p, .int .i64 f, .bool wr, .bool ex, .bool true] 37) := ⟨_, rfl⟩
  rw [← hw1] at hR1 hL1 hA ⊢
  have hz1 : w.heap.size < w1.heap.size := by rw [hw1]; simp
  clear hw1
  have e0 := hL1.out.cell 0
  have e1 := hL1.out.cell 1
  have e2 := hL1.out.cell 2
  have e3 := hL1.out.cell 3
  have e4 := hL1.out.cell 4
  have e5 := hL1.out.cell 5
  simp only [List.getElem?_cons_zero, List.getElem?_cons_succ] at e0 e1 e2 e3 e4 e5
  have r0 := hR1.out.lay.cell 0
  have r1 := hR1.out.lay.cell 1
  have rf := hR1.out.lay.free 1
  simp only [List.getElem?_cons_zero, List.getElem?_cons_succ] at r0 r1
  have hlow := hR1.out.low
  have hhigh := hR1.out.high
  have hnlt := hR1.out.nlt
  have hrg := hR1.out.ne
  cases hf : findP v p 0 ps with
  | none =>
    rw [show atI none = -1 from rfl]
    go_wp2_with fail
    go_region
    have hmod : ((next : Int) + 1) % (room : Int) = (((next + 1) % room : Nat) : Int) := by push_cast; rfl
    rw [hmod]
    obtain ⟨hR2, hO2⟩ := hR1.out.hop ((next + 1) % room) (Nat.mod_lt _ (by omega))
    have R3 : Hid (RTlb (w1.setCell ⟨r, 1, none⟩ (.int .i64 (((next + 1) % room : Nat) : Int))).drew r g room ((next + 1) % room) ps) := Lib.hid (hR2.kept (Only.drewN [] _ 1) (by simp) (by simp))
    have O3 : Hid (Only [r] w1 (w1.setCell ⟨r, 1, none⟩ (.int .i64 (((next + 1) % room : Nat) : Int))).drew) := Lib.hid (hO2.trans (Only.drewN _ _ 1))
    have L3 := Lib.hid (hL1.out.kept O3.out (by simp; omega))
    have hin : next < room := hnlt
    clear hR2 hO2 hmod e0 e1 e2 e3 e4 e5 r0 r1 rf
    generalize (w1.setCell ⟨r, 1, none⟩ (.int .i64 (((next + 1) % room : Nat) : Int))).drew = w3 at *
    have r0 := R3.out.lay.cell 0
    simp only [List.getElem?_cons_zero] at r0
    have e0 := L3.out.cell 0
    have e1 := L3.out.cell 1
    have e2 := L3.out.cell 2
    have e3 := L3.out.cell 3
    have e4 := L3.out.cell 4
    have e5 := L3.out.cell 5
    simp only [List.getElem?_cons_zero, List.getElem?_cons_succ] at e0 e1 e2 e3 e4 e5
    have fr := fun j hj => (R3.out.row.free next (by rw [R3.out.len]; exact hin) j hj)
    obtain ⟨v0, d0⟩ := Option.isSome_iff_exists.1 (fr 0 (by omega)).1
    obtain ⟨v1, d1⟩ := Option.isSome_iff_exists.1 (fr 1 (by omega)).1
    obtain ⟨v2, d2⟩ := Option.isSome_iff_exists.1 (fr 2 (by omega)).1
    obtain ⟨v3, d3⟩ := Option.isSome_iff_exists.1 (fr 3 (by omega)).1
    obtain ⟨v4, d4⟩ := Option.isSome_iff_exists.1 (fr 4 (by omega)).1
    obtain ⟨v5, d5⟩ := Option.isSome_iff_exists.1 (fr 5 (by omega)).1
    have f0 := (fr 0 (by omega)).2
    have f1 := (fr 1 (by omega)).2
    have f2 := (fr 2 (by omega)).2
    have f3 := (fr 3 (by omega)).2
    have f4 := (fr 4 (by omega)).2
    have f5 := (fr 5 (by omega)).2
    rw [Nat.add_zero] at d0 f0
    clear fr
    have hii : (next : Int) < (room : Int) := by omega
    have hi0 : (0 : Int) ≤ (next : Int) := by omega
    go_wp2_with fail
    go_region
    go_wp2_with fail
    go_end0
    have hfN : fillN room next ps (v, p, f, wr, ex) = (next + 1) % room := by unfold fillN; simp only [hf]
    have hfP : fillP next ps (v, p, f, wr, ex) = ps.set next (some (v, p, f, wr, ex)) := by unfold fillP; simp only [hf]
    have hP := R3.out.put next (some (v, p, f, wr, ex)) hin
    rw [hfN, hfP]
    exact ⟨rfl, hP.1.kept (Only.drewN [] _ 1) (by simp) (by simp), (((hA.out.mono (by simp)).trans (O3.out.mono (by simp))).trans (hP.2.mono (by simp))).trans (Only.drewN _ _ 1)⟩
  | some h =>
    obtain ⟨k, s0, hk, rfl, hn⟩ := findP_some hf
    have hin : k < room := by rw [← hR1.out.len]; exact (List.getElem?_eq_some_iff.1 hk).1
    rw [show atI (some (((0 + k : Nat) : Int), s0)) = (k : Int) by simp [atI]]
    have L3 := hL1
    clear hL1 e0 e1 e2 e3 e4 e5 r0 r1 rf hk hn
    have r0 := hR1.out.lay.cell 0
    simp only [List.getElem?_cons_zero] at r0
    have e0 := L3.out.cell 0
    have e1 := L3.out.cell 1
    have e2 := L3.out.cell 2
    have e3 := L3.out.cell 3
    have e4 := L3.out.cell 4
    have e5 := L3.out.cell 5
    simp only [List.getElem?_cons_zero, List.getElem?_cons_succ] at e0 e1 e2 e3 e4 e5
    have fr := fun j hj => (hR1.out.row.free k (by rw [hR1.out.len]; exact hin) j hj)
    obtain ⟨v0, d0⟩ := Option.isSome_iff_exists.1 (fr 0 (by omega)).1
    obtain ⟨v1, d1⟩ := Option.isSome_iff_exists.1 (fr 1 (by omega)).1
    obtain ⟨v2, d2⟩ := Option.isSome_iff_exists.1 (fr 2 (by omega)).1
    obtain ⟨v3, d3⟩ := Option.isSome_iff_exists.1 (fr 3 (by omega)).1
    obtain ⟨v4, d4⟩ := Option.isSome_iff_exists.1 (fr 4 (by omega)).1
    obtain ⟨v5, d5⟩ := Option.isSome_iff_exists.1 (fr 5 (by omega)).1
    have f0 := (fr 0 (by omega)).2
    have f1 := (fr 1 (by omega)).2
    have f2 := (fr 2 (by omega)).2
    have f3 := (fr 3 (by omega)).2
    have f4 := (fr 4 (by omega)).2
    have f5 := (fr 5 (by omega)).2
    rw [Nat.add_zero] at d0 f0
    clear fr
    have hii : (k : Int) < (room : Int) := by omega
    have hi0 : (0 : Int) ≤ (k : Int) := by omega
    go_wp2_with fail
    go_region
    go_wp2_with fail
    go_end0
    have hfN : fillN room next ps (v, p, f, wr, ex) = next := by unfold fillN; simp only [hf]
    have hfP : fillP next ps (v, p, f, wr, ex) = ps.set k (some (v, p, f, wr, ex)) := by unfold fillP; simp only [hf, Nat.zero_add, Int.toNat_natCast]
    have hP := hR1.out.put k (some (v, p, f, wr, ex)) hin
    rw [hfN, hfP]
    exact ⟨rfl, hP.1.kept (Only.drewN [] _ 1) (by simp) (by simp), ((hA.out.mono (by simp)).trans (hP.2.mono (by simp))).trans (Only.drewN _ _ 1)⟩
end Tl
end Go.Proofs.Ytcajclalpmfafaa
