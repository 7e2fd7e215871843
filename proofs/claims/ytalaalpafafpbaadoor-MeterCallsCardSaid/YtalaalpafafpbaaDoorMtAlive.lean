/-
  What every statement of layer 5 asks first (alive): it answers true, and changes nothing that was there. Condition: the table of costs.
-/
import Derived.Test.YtalaalpafafpbaaDoorMtLeast
namespace Go.Proofs.YtalaalpafafpbaaDoor
open Go.RowKit
namespace Mt
def l1 : List Ent := [⟨0, 4, 40⟩]
def l2 : List Ent := [⟨0, 4, 40⟩, ⟨1, 0, 100⟩]
def l3 : List Ent := [⟨0, 4, 40⟩, ⟨1, 0, 100⟩, ⟨1, 2, 4611686018427387804⟩]
theorem r1 : charge 2 [] false 0 4 2 = ⟨0, l1, false⟩ := by kernel_rfl
theorem r2 : wait 2 l1 false 1 100 = ⟨0, l2, false⟩ := by kernel_rfl
theorem r3 : charge 2 l2 false 0 9 1 = ⟨11, l2, false⟩ := by kernel_rfl
theorem r4 : leastF l2 (fun _ => true) (min 2 2) = 0 := by kernel_rfl
theorem r5 : charge 2 l2 false 1 2 2305843009213693952 = ⟨22, l3, true⟩ := by kernel_rfl
theorem r6 : charge 2 l3 true 0 1 1 = ⟨22, l3, true⟩ := by kernel_rfl
theorem q1 : clkA 2 l3 0 = 40 := by kernel_rfl
theorem q2 : clkA 2 l3 1 = 4611686018427387904 := by kernel_rfl
theorem q3 : idleA 2 l3 1 = 100 := by kernel_rfl
theorem q4 : spentA 2 l3 0 4 = 40 := by kernel_rfl
theorem q5 : cost 8 = 64 := by kernel_rfl
theorem q6 : leastF l3 (fun _ => true) (min 0 2) = -1 := by kernel_rfl
theorem a_1 (m F c : Nat) (w : World) (hM : Met w m F 2 c [] false) (hC : Costs w) : Calls Tryd.prog 11 #[.pointer (some ⟨m, 0, none⟩), .int .i64 0, .int .i64 4, .int .u64 2] w (MetEnd m F 2 c w ⟨0, l1, false⟩) := by
  rw [← r1]; exact charge_any m F 2 c 0 4 [] false 2 w hM hC (by decide) (by decide)
theorem a_2 (m F c : Nat) (w : World) (hM : Met w m F 2 c l1 false) : Calls Tryd.prog 9 #[.pointer (some ⟨m, 0, none⟩), .int .i64 1, .int .u64 100] w (MetEnd m F 2 c w ⟨0, l2, false⟩) := by
  rw [← r2]; exact wait_any m F 2 c 1 l1 false 100 w hM (by decide)
theorem a_3 (m F c : Nat) (w : World) (hM : Met w m F 2 c l2 false) (hC : Costs w) : Calls Tryd.prog 11 #[.pointer (some ⟨m, 0, none⟩), .int .i64 0, .int .i64 9, .int .u64 1] w (MetEnd m F 2 c w ⟨11, l2, false⟩) := by
  rw [← r3]; exact charge_any m F 2 c 0 9 l2 false 1 w hM hC (by decide) (by decide)
theorem a_5 (m F c : Nat) (w : World) (hM : Met w m F 2 c l2 false) (hC : Costs w) : Calls Tryd.prog 11 #[.pointer (some ⟨m, 0, none⟩), .int .i64 1, .int .i64 2, .int .u64 2305843009213693952] w (MetEnd m F 2 c w ⟨22, l3, true⟩) := by
  rw [← r5]; exact charge_any m F 2 c 1 2 l2 false _ w hM hC (by decide) (by decide)
theorem a_6 (m F c : Nat) (w : World) (hM : Met w m F 2 c l3 true) (hC : Costs w) : Calls Tryd.prog 11 #[.pointer (some ⟨m, 0, none⟩), .int .i64 0, .int .i64 1, .int .u64 1] w (MetEnd m F 2 c w ⟨22, l3, true⟩) := by
  have := charge_any m F 2 c 0 1 l3 true 1 w hM hC (by decide) (by decide)
  rw [r6] at this
  exact this
theorem a_4 (m F c g : Nat) (w : World) (hM : Met w m F 2 c l2 false) (h0 : w.cell? ⟨g, 0, none⟩ = some (.bool true)) (h1 : w.cell? ⟨g, 1, none⟩ = some (.bool true)) (hg : g < w.heap.size) : Calls Tryd.prog 19 #[.pointer (some ⟨m, 0, none⟩), .slice (some ⟨g, 0, none⟩) 2 2] w fun e w' => e = .returned (.int .i64 0) ∧ ∃ k, w' = w.drewN k := by
  have := least_any m F 2 c l2 false w.heap.size (some ⟨g, 0, none⟩) 2 2 (fun _ => true) w hM (fun _ => ⟨g, 0, rfl, hg, hg, fun j hj => by
    match j, hj with
    | 0, _ => exact h0
    | 1, _ => exact h1⟩) (by decide)
  rw [r4] at this
  exact this
theorem b_1 (m F c : Nat) (w : World) (hM : Met w m F 2 c l3 true) : Calls Tryd.prog 14 #[.pointer (some ⟨m, 0, none⟩), .int .i64 0] w fun e w' => e = .returned (.int .u64 40) ∧ w = w' := by
  rw [← q1]; exact clock_any m F 2 c l3 true 0 w hM
theorem b_2 (m F c : Nat) (w : World) (hM : Met w m F 2 c l3 true) : Calls Tryd.prog 14 #[.pointer (some ⟨m, 0, none⟩), .int .i64 1] w fun e w' => e = .returned (.int .u64 4611686018427387904) ∧ w = w' := by
  rw [← q2]; exact clock_any m F 2 c l3 true 1 w hM
theorem b_3 (m F c : Nat) (w : World) (hM : Met w m F 2 c l3 true) : Calls Tryd.prog 16 #[.pointer (some ⟨m, 0, none⟩), .int .i64 1] w fun e w' => e = .returned (.int .u64 100) ∧ w = w' := by
  rw [← q3]; exact idle_any m F 2 c l3 true 1 w hM
theorem b_4 (m F c : Nat) (w : World) (hM : Met w m F 2 c l3 true) : Calls Tryd.prog 18 #[.pointer (some ⟨m, 0, none⟩), .int .i64 0, .int .i64 4] w fun e w' => e = .returned (.int .u64 40) ∧ w = w' := by
  rw [← q4]; exact spent_any m F 2 c l3 true 0 4 w hM
theorem b_5 (w : World) (hC : Costs w) : Calls Tryd.prog 20 #[.int .i64 8] w fun e w' => e = .returned (.int .u64 64) ∧ w = w' := by
  rw [← q5]; exact cost_any 8 w hC
theorem b_6 (m F c : Nat) (w : World) (hM : Met w m F 2 c l3 true) : Calls Tryd.prog 19 #[.pointer (some ⟨m, 0, none⟩), .slice none 0 0] w fun e w' => e = .returned (.int .i64 (-1)) ∧ ∃ k, w' = w.drewN k := by
  have := least_any m F 2 c l3 true 0 none 0 0 (fun _ => true) w hM (fun h => absurd h (by decide)) (by decide)
  rw [q6] at this
  exact this
set_option maxRecDepth 100000 in
set_option maxHeartbeats 1000000 in
theorem alive_any (w : World) (hC : Costs w) : Calls Tryd.prog 7 #[] w fun e w' => e = .returned (.bool true) ∧ Only [] w w' := by
  have C0 := Lib.hid hC
  have hg := hC.1
  clear hC
  go_enter Tryd.func7, Tryd.ntmps7
  go_wp2_with fail
  refine (new_any 2 w (by decide) (by decide)).mono ?_
  rintro e w1 ⟨m, F, c, rfl, hM, hO, hm, hF⟩
  have M1 := Lib.hid hM
  have O1 := Lib.hid hO
  have C1 := Lib.hid (C0.out.kept hO (by simp))
  have sz := hO.size
  clear hM hO C0
  go_wp2_with fail
  refine (a_1 m F c w1 M1.out C1.out).mono ?_
  rintro e w2 ⟨rfl, hM, hO⟩
  have M2 := Lib.hid hM
  have O2 := Lib.hid (O1.out.next hO (by simp; omega))
  have C2 := Lib.hid (C1.out.kept hO (by simp; omega))
  clear hM hO M1 O1 C1
  go_wp2_with fail
  refine (a_2 m F c w2 M2.out).mono ?_
  rintro e w3 ⟨rfl, hM, hO⟩
  have M3 := Lib.hid hM
  have O3 := Lib.hid (O2.out.next hO (by simp; omega))
  have C3 := Lib.hid (C2.out.kept hO (by simp; omega))
  clear hM hO M2 O2 C2
  go_wp2_with fail
  refine (a_3 m F c w3 M3.out C3.out).mono ?_
  rintro e w4 ⟨rfl, hM, hO⟩
  have M4 := Lib.hid hM
  have O4 := Lib.hid (O3.out.next hO (by simp; omega))
  have C4 := Lib.hid (C3.out.kept hO (by simp; omega))
  clear hM hO M3 O3 C3
  go_wp2_with fail
  have ha := Only.alloc [] w4 (.cells #[.bool true, .bool true] 4)
  refine (a_4 m F c w4.heap.size _ (M4.out.kept ha (by simp) (by simp)) (by simp) (by simp) (by simp)).mono ?_
  rintro e w' ⟨rfl, k1, rfl⟩
  have hb := ha.trans (Only.drewN [] _ k1)
  have M5 := Lib.hid (M4.out.kept hb (by simp) (by simp))
  have O5 := Lib.hid (O4.out.next hb (by simp))
  have C5 := Lib.hid (C4.out.kept hb (by simp))
  clear ha hb M4 O4 C4
  generalize (w4.alloc (.cells #[.bool true, .bool true] 4)).drewN k1 = w5 at *
  go_wp2_with fail
  refine (a_5 m F c w5 M5.out C5.out).mono ?_
  rintro e w6 ⟨rfl, hM, hO⟩
  have M6 := Lib.hid hM
  have O6 := Lib.hid (O5.out.next hO (by simp; omega))
  have C6 := Lib.hid (C5.out.kept hO (by simp; omega))
  clear hM hO M5 O5 C5
  go_wp2_with fail
  refine (a_6 m F c w6 M6.out C6.out).mono ?_
  rintro e w7 ⟨rfl, hM, hO⟩
  have M7 := Lib.hid hM
  have O7 := Lib.hid (O6.out.next hO (by simp; omega))
  have C7 := Lib.hid (C6.out.kept hO (by simp; omega))
  clear hM hO M6 O6 C6
  go_wp2_with fail
  refine (stopped_any m true w7 M7.out.stop).mono ?_
  rintro e w' ⟨rfl, rfl⟩
  go_wp2_with fail
  refine (b_1 m F c w7 M7.out).mono ?_
  rintro e w' ⟨rfl, rfl⟩
  go_wp2_with fail
  refine (b_2 m F c w7 M7.out).mono ?_
  rintro e w' ⟨rfl, rfl⟩
  go_wp2_with fail
  refine (b_3 m F c w7 M7.out).mono ?_
  rintro e w' ⟨rfl, rfl⟩
  go_wp2_with fail
  refine (b_4 m F c w7 M7.out).mono ?_
  rintro e w' ⟨rfl, rfl⟩
  go_wp2_with fail
  refine (b_5 w7 C7.out).mono ?_
  rintro e w' ⟨rfl, rfl⟩
  go_wp2_with fail
  refine (b_6 m F c w7 M7.out).mono ?_
  rintro e w' ⟨rfl, k2, rfl⟩
  go_wp2
  go_ret
  exact ⟨rfl, O7.out.next (Only.drewN [] _ k2) (by simp)⟩
end Mt
end Go.Proofs.YtalaalpafafpbaaDoor
