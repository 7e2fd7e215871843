/-
  What every statement of layer 4 asks first (alive): it answers true, and changes nothing that was there; no condition.
-/
import Derived.Test.YtpnpcmclpmldmaaPhTold2
namespace Go.Proofs.Ytpnpcmclpmldmaa
open Go.RowKit
namespace Ph
/-- The bytes behind the first word. -/
def zA : Nat → Int := pw 2 (fun _ => 0) 4 16909060
/-- Two bytes. -/
def y2 (j : Nat) : Int := if j = 0 then 7 else 8
/-- The bytes behind the filled frame. -/
def zB : Nat → Int := fillz zA 1 2 y2
theorem diffA : dl zB zA 2 = [1] := by decide +kernel
theorem a_put (m F c : Nat) (w : World) (hM : Mem w m F 2 c (fun _ => 0)) : Calls Try.prog 24 #[.pointer (some ⟨m, 0, none⟩), .int .u32 4, .int .u32 16909060] w (PutEnd (.bool true) m F 2 c zA w) :=
  putWord_any m F 2 c 4 (fun _ => 0) 16909060 w hM (by decide) (by decide) (by decide)
theorem a_byte (m F c : Nat) (w : World) (hM : Mem w m F 2 c zA) : Calls Try.prog 26 #[.pointer (some ⟨m, 0, none⟩), .int .u32 600, .int .u8 1] w (PutEnd (.bool false) m F 2 c zA w) :=
  putByte_any m F 2 c 600 zA 1 w hM (by decide) ⟨by decide, by decide⟩
theorem a_fill (m F c g : Nat) (w : World) (hM : Mem w m F 2 c zA) (h0 : w.cell? ⟨g, 0, none⟩ = some (.int .u8 7)) (h1 : w.cell? ⟨g, 1, none⟩ = some (.int .u8 8)) : Calls Try.prog 25 #[.pointer (some ⟨m, 0, none⟩), .int .i64 1, .slice (some ⟨g, 0, none⟩) 2 2] w (PutEnd (.int .i64 0) m F 2 c zB w) :=
  fill_yes m F 2 c 1 zA y2 (some ⟨g, 0, none⟩) 2 2 w hM (by decide) (by decide) ⟨fun _ => ⟨g, 0, rfl, fun j hj => by
    match j, hj with
    | 0, _ => exact h0
    | 1, _ => exact h1⟩, fun j _ => by unfold B8 y2; split <;> decide⟩
theorem a_b5 (m F c : Nat) (w : World) (hM : Mem w m F 2 c zB) : Calls Try.prog 14 #[.pointer (some ⟨m, 0, none⟩), .int .u32 5] w fun e w' => e = .returned (.tuple #[.int .u8 3, .bool true]) ∧ w = w' :=
  byte_any m F 2 c 5 zB w hM (by decide)
theorem a_w256 (m F c : Nat) (w : World) (hM : Mem w m F 2 c zB) : Calls Try.prog 16 #[.pointer (some ⟨m, 0, none⟩), .int .u32 256] w fun e w' => e = .returned (.tuple #[.int .u32 2055, .bool true]) ∧ ∃ k, w' = w.drewN k :=
  word_any m F 2 c 256 zB w hM (by decide)
theorem a_w5 (m F c : Nat) (w : World) (hM : Mem w m F 2 c zB) : Calls Try.prog 16 #[.pointer (some ⟨m, 0, none⟩), .int .u32 5] w fun e w' => e = .returned (.tuple #[.int .u32 0, .bool false]) ∧ ∃ k, w' = w.drewN k :=
  word_any m F 2 c 5 zB w hM (by decide)
set_option maxRecDepth 100000 in
theorem alive_any (w : World) : Calls Try.prog 8 #[] w fun e w' => e = .returned (.bool true) ∧ Only [] w w' := by
  go_enter Try.func8, Try.ntmps8
  go_wp2_with fail
  refine (new_any 2 w (by decide) (by decide)).mono ?_
  rintro e w1 ⟨m, F, c, rfl, hM, hO, hm, hF⟩
  have M1 := Lib.hid hM
  have O1 := Lib.hid hO
  clear hM hO
  go_wp2_with fail
  refine (a_put m F c w1 M1.out).mono ?_
  rintro e w2 ⟨rfl, hM, hO⟩
  have M2 := Lib.hid hM
  have O2 := Lib.hid (O1.out.next hO (by simp; omega))
  clear hM hO M1 O1
  go_wp2_with fail
  refine (a_byte m F c w2 M2.out).mono ?_
  rintro e w3 ⟨rfl, hM, hO⟩
  have M3 := Lib.hid hM
  have O3 := Lib.hid (O2.out.next hO (by simp; omega))
  clear hM hO M2 O2
  go_wp2_with fail
  refine (clone_any m F 2 c zA w3 M3.out (by decide)).mono ?_
  rintro e w4 ⟨d, D, cd, rfl, hM, hO, hd, hD⟩
  have N4 := Lib.hid hM
  have M4 := Lib.hid (M3.out.kept hO (by simp) (by simp))
  have O4 := Lib.hid (O3.out.next hO (by simp))
  have l1 := M3.out.lt
  have l2 := M3.out.row.lt
  have l3 := O3.out.size
  clear hM hO M3 O3
  go_wp2_with fail
  have ha := Only.alloc [] w4 (.cells #[.int .u8 7, .int .u8 8] 5)
  refine (a_fill m F c w4.heap.size _ (M4.out.kept ha (by simp) (by simp)) (by simp) (by simp)).mono ?_
  rintro e w5 ⟨rfl, hM, hO⟩
  have M5 := Lib.hid hM
  have N5 := Lib.hid ((N4.out.kept ha (by simp) (by simp)).kept hO (by simp; omega) (by simp; omega))
  have O5 := Lib.hid ((O4.out.next ha (by simp)).next hO (by simp; omega))
  clear hM hO ha M4 N4 O4
  go_wp2_with fail
  refine (a_b5 m F c w5 M5.out).mono ?_
  rintro e w' ⟨rfl, rfl⟩
  go_wp2_with fail
  refine (a_w256 m F c w5 M5.out).mono ?_
  rintro e w' ⟨rfl, k1, rfl⟩
  have M6 := Lib.hid (M5.out.kept (Only.drewN [] w5 k1) (by simp) (by simp))
  have N6 := Lib.hid (N5.out.kept (Only.drewN [] w5 k1) (by simp) (by simp))
  have O6 := Lib.hid (O5.out.next (Only.drewN [] w5 k1) (by simp))
  clear M5 N5 O5
  generalize w5.drewN k1 = w6 at *
  go_wp2_with fail
  refine (a_w5 m F c w6 M6.out).mono ?_
  rintro e w' ⟨rfl, k2, rfl⟩
  have M7 := Lib.hid (M6.out.kept (Only.drewN [] w6 k2) (by simp) (by simp))
  have N7 := Lib.hid (N6.out.kept (Only.drewN [] w6 k2) (by simp) (by simp))
  have O7 := Lib.hid (O6.out.next (Only.drewN [] w6 k2) (by simp))
  clear M6 N6 O6
  generalize w6.drewN k2 = w7 at *
  go_wp2_with fail
  refine (differ_any m F 2 c d D cd zB zA w7 M7.out N7.out).mono ?_
  rintro e w8 ⟨pa, cc, rfl, hR, hO⟩
  rw [diffA] at hR ⊢
  have ha := Only.alloc [] w8 (.cells #[.int .i64 1] 3)
  have RI : Hid (ReadsI (w8.alloc (.cells #[.int .i64 1] 3)) pa [1]) := fun h => by
    obtain ⟨b, off, e, hc⟩ := hR h
    exact ⟨b, off, e, fun j hj => (ha.cell (World.block_lt_of_cell? w8 _ (hc j hj)) (by simp) _).trans (hc j hj)⟩
  have RJ : Hid (ReadsI (w8.alloc (.cells #[.int .i64 1] 3)) (some ⟨w8.heap.size, 0, none⟩) [1]) := fun _ => ⟨_, 0, rfl, fun j hj => by
    match j, hj with
    | 0, _ => simp⟩
  have M8 := Lib.hid ((M7.out.kept hO (by simp) (by simp)).kept ha (by simp) (by simp))
  have O8 := Lib.hid ((O7.out.next hO (by simp)).next ha (by simp))
  clear hR hO ha M7 N7 O7
  go_wp2_with fail
  refine (ints_same pa (some ⟨w8.heap.size, 0, none⟩) 1 cc 1 [1] _ rfl (by decide) RI.out RJ.out).mono ?_
  rintro e w' ⟨rfl, k3, rfl⟩
  go_wp2_with fail
  refine (frames_any m F 2 c _ (M8.out.kept (Only.drewN [] _ k3) (by simp) (by simp)).head).mono ?_
  rintro e w' ⟨rfl, rfl⟩
  go_wp2
  go_ret
  exact ⟨rfl, O8.out.next (Only.drewN [] _ k3) (by simp)⟩
end Ph
end Go.Proofs.Ytpnpcmclpmldmaa
