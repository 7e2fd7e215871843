/-
  PROVED HERE: whatever a, b and c are, warderlaw01.WordMuls answers true (a product with a sum is the sum of products, as long as that is below 2^128; a greater factor makes no lesser product), and each argument reads behind the call as it read before. Conditions: none.
-/
import Derived.Test.YtlbdklkocjlobaaRows
import Derived.Test.YtlbdklkocjlobaaAlive
import Derived.WalkKit
import Derived.ProofKit
import Derived.OpenShut
import Derived.ChangeOld
import Derived.Below
import Derived.StillTactics
import Derived.Laws.Pointers
import Derived.Deep.RegionHeld3
namespace Go.Proofs.Ytlbdklkocjlobaa.wordMuls
open Go.ChangeShapes Go.WideShapes Go.ChangeAt Go.RowKit

theorem own : ownKnob Try.prog.godebug = none := by kernel_rfl

theorem prod_le {x y : Int} (hx : W64 x) (hy : W64 y) : 0 ≤ x * y ∧ x * y ≤ 340282366920938463426481119284349108225 :=
by
  have h3 : x * y ≤ 18446744073709551615 * 18446744073709551615 := Int.mul_le_mul (by have := hx.2; omega) (by have := hy.2; omega) hy.1 (by decide)
  exact ⟨Int.mul_nonneg hx.1 hy.1, h3⟩
/-- What was there stays. -/
def Keeps (w w' : World) : Prop := ∀ b i v, w.cell? ⟨b, i, none⟩ = some v → w'.cell? ⟨b, i, none⟩ = some v
theorem keeps {w w' : World} (h : Below w.heap.size w w') : Keeps w w' := fun b i _ hc => (h.cell (p := ⟨b, i, none⟩) (World.block_lt_of_cell? w _ hc)).trans hc
theorem compare_less (x y : Int) (w : World) (h : x < y) :
    Calls Try.prog 30 #[.agg #[.int .u64 (x / 18446744073709551616), .int .u64 (x % 18446744073709551616)], .agg #[.int .u64 (y / 18446744073709551616), .int .u64 (y % 18446744073709551616)]] w fun e w' =>
      e = .returned (.int .i64 (-1)) ∧ Below w.heap.size w w' := by
  have c := compare_any (x / 18446744073709551616) (x % 18446744073709551616) (y / 18446744073709551616) (y % 18446744073709551616) w
  have e : ord2 (x / 18446744073709551616) (x % 18446744073709551616) (y / 18446744073709551616) (y % 18446744073709551616) = -1 := by
    unfold ord2 ord
    by_cases h1 : x / 18446744073709551616 < y / 18446744073709551616
    · rw [if_pos h1]
    · rw [if_neg h1, if_neg (by omega), if_pos (by omega)]
  rw [e] at c
  exact c
theorem mul_comm' (x y : Int) (w : World) (hx : W64 x) (hy : W64 y) :
    Calls Try.prog 28 #[.int .u64 y, .int .u64 x] w fun e w' => e = .returned (.agg #[.int .u64 (x * y / 18446744073709551616), .int .u64 (x * y % 18446744073709551616)]) ∧ Below w.heap.size w w' := by
  have c := mul_any y x hy hx w
  rw [Int.mul_comm y x] at c
  exact c
theorem mul_one' (x : Int) (w : World) (hx : W64 x) :
    Calls Try.prog 28 #[.int .u64 x, .int .u64 1] w fun e w' => e = .returned (.agg #[.int .u64 0, .int .u64 x]) ∧ Below w.heap.size w w' := by
  have c := mul_any x 1 hx ⟨by decide, by decide⟩ w
  rw [Int.mul_one, Int.ediv_eq_zero_of_lt hx.1 hx.2, Int.emod_eq_of_lt hx.1 hx.2] at c
  exact c
theorem mul_sum (x y z : Int) (w : World) (hx : W64 x) (h : W64 (y + z)) :
    Calls Try.prog 28 #[.int .u64 x, .int .u64 (y + z)] w fun e w' => e = .returned (.agg #[.int .u64 ((x * y + x * z) / 18446744073709551616), .int .u64 ((x * y + x * z) % 18446744073709551616)]) ∧ Below w.heap.size w w' := by
  have c := mul_any x (y + z) hx h w
  rw [Int.mul_add] at c
  exact c
theorem sum_yes (x y : Int) (w : World) (hx : 0 ≤ x) (hy : 0 ≤ y) (h : x + y < 340282366920938463463374607431768211456) :
    Calls Try.prog 23 #[.agg #[.int .u64 (x / 18446744073709551616), .int .u64 (x % 18446744073709551616)], .agg #[.int .u64 (y / 18446744073709551616), .int .u64 (y % 18446744073709551616)]] w fun e w' =>
      e = .returned (.tuple #[.agg #[.int .u64 ((x + y) / 18446744073709551616), .int .u64 ((x + y) % 18446744073709551616)], .bool true]) ∧ Below w.heap.size w w' := by
  have c := add_yes (x / 18446744073709551616) (x % 18446744073709551616) (y / 18446744073709551616) (y % 18446744073709551616) ⟨by omega, by omega⟩ ⟨by omega, by omega⟩ ⟨by omega, by omega⟩ ⟨by omega, by omega⟩ (by omega) w
  have e1 : x / 18446744073709551616 + y / 18446744073709551616 + (x % 18446744073709551616 + y % 18446744073709551616) / 18446744073709551616 = (x + y) / 18446744073709551616 := by omega
  have e2 : (x % 18446744073709551616 + y % 18446744073709551616) % 18446744073709551616 = (x + y) % 18446744073709551616 := by omega
  rw [e1, e2] at c
  exact c
theorem sum_no (x y : Int) (w : World) (hx : 0 ≤ x) (hy : 0 ≤ y) (hx1 : x ≤ 340282366920938463426481119284349108225) (hy1 : y ≤ 340282366920938463426481119284349108225) (h : 340282366920938463463374607431768211456 ≤ x + y) :
    Calls Try.prog 23 #[.agg #[.int .u64 (x / 18446744073709551616), .int .u64 (x % 18446744073709551616)], .agg #[.int .u64 (y / 18446744073709551616), .int .u64 (y % 18446744073709551616)]] w fun e w' =>
      e = .returned (.tuple #[.agg #[.int .u64 0, .int .u64 0], .bool false]) ∧ Below w.heap.size w w' :=
  add_no (x / 18446744073709551616) (x % 18446744073709551616) (y / 18446744073709551616) (y % 18446744073709551616) ⟨by omega, by omega⟩ ⟨by omega, by omega⟩ ⟨by omega, by omega⟩ ⟨by omega, by omega⟩ (by omega) w
theorem mul_zero (y : Int) (w : World) (hy : W64 y) :
    Calls Try.prog 28 #[.int .u64 0, .int .u64 y] w fun e w' => e = .returned (.agg #[.int .u64 0, .int .u64 0]) ∧ Below w.heap.size w w' := by
  have c := mul_any 0 y ⟨by decide, by decide⟩ hy w
  rw [Int.zero_mul] at c
  exact c
theorem zero_mul' (y : Int) (w : World) (hy : W64 y) :
    Calls Try.prog 28 #[.int .u64 y, .int .u64 0] w fun e w' => e = .returned (.agg #[.int .u64 0, .int .u64 0]) ∧ Below w.heap.size w w' := by
  have c := mul_any y 0 hy ⟨by decide, by decide⟩ w
  rw [Int.mul_zero] at c
  exact c
theorem sum_zero (w : World) :
    Calls Try.prog 23 #[.agg #[.int .u64 0, .int .u64 0], .agg #[.int .u64 0, .int .u64 0]] w fun e w' =>
      e = .returned (.tuple #[.agg #[.int .u64 0, .int .u64 0], .bool true]) ∧ Below w.heap.size w w' :=
  (add_yes 0 0 0 0 ⟨by decide, by decide⟩ ⟨by decide, by decide⟩ ⟨by decide, by decide⟩ ⟨by decide, by decide⟩ (by decide) w).mono fun _ _ ⟨he, hb⟩ => ⟨he, hb⟩
set_option maxHeartbeats 1600000 in
theorem walk11 (a b c : Int) (w : World) (A : W64 a) (B : W64 b) (C : W64 c) (hs : 340282366920938463463374607431768211456 ≤ a * b + a * c) (g1 : b < c) (g2 : 0 < a) :
    Calls Try.prog 8 #[.int .u64 a, .int .u64 b, .int .u64 c] w fun e w' => e = .returned (.bool true) ∧ Below w.heap.size w w' := by
  have pb := prod_le A B
  have pc := prod_le A C
  have lt : a * b < a * c := Int.mul_lt_mul_of_pos_left g1 g2
  obtain ⟨B0, B1⟩ := id B
  obtain ⟨C0, C1⟩ := id C
  go_enter Try.func8, Try.ntmps8
  go_wp2_with fail
  refine (alive_any _).mono ?_
  rintro e wa ⟨rfl, ba⟩
  have BA := Lib.hid ba
  clear ba
  go_wp2_with fail
  refine (mul_any _ _ A B _).mono ?_
  rintro e wb ⟨rfl, bb⟩
  have BB := Lib.hid (BA.out.trans (bb.mono BA.out.size))
  clear bb BA
  go_wp2_with fail
  refine (mul_any _ _ A C _).mono ?_
  rintro e wc ⟨rfl, bc⟩
  have zc : wb.heap.size + 1 ≤ wc.heap.size := by have := bc.size; simpa using this
  have kc := keeps bc
  have p0 := kc wb.heap.size 0 (.int .u64 (a * b / 18446744073709551616)) (by simp)
  have p1 := kc wb.heap.size 1 (.int .u64 (a * b % 18446744073709551616)) (by simp)
  have BC := Lib.hid ((BB.out.alloc BB.out.size _).trans (bc.mono (by have := BB.out.size; simp; omega)))
  clear bc BB kc
  have ne : wb.heap.size < wc.heap.size := by omega
  go_wp2_with fail
  refine (sum_no _ _ _ pb.1 pc.1 pb.2 pc.2 hs).mono ?_
  rintro e wd ⟨rfl, bd⟩
  have zd : wc.heap.size + 1 ≤ wd.heap.size := by have := bd.size; simpa using this
  have kd := keeps bd
  have r0 := kd wb.heap.size 0 (.int .u64 (a * b / 18446744073709551616)) (by simp [World.cell?_alloc_past, ne, p0])
  have r1 := kd wb.heap.size 1 (.int .u64 (a * b % 18446744073709551616)) (by simp [World.cell?_alloc_past, ne, p1])
  have r2 := kd wc.heap.size 0 (.int .u64 (a * c / 18446744073709551616)) (by simp)
  have r3 := kd wc.heap.size 1 (.int .u64 (a * c % 18446744073709551616)) (by simp)
  have BD := Lib.hid ((BC.out.alloc BC.out.size _).trans (bd.mono (by have := BC.out.size; simp; omega)))
  clear bd BC kd p0 p1
  have ne1 : wb.heap.size < wd.heap.size := by omega
  have ne2 : wc.heap.size < wd.heap.size := by omega
  go_wp2_with fail
  have t0 : (wd.alloc (.cells #[.int .u64 0, .int .u64 0] 40)).cell? ⟨wb.heap.size, 0, none⟩ = some (.int .u64 (a * b / 18446744073709551616)) := by simp [World.cell?_alloc_past, ne1, r0]
  have t1 : (wd.alloc (.cells #[.int .u64 0, .int .u64 0] 40)).cell? ⟨wb.heap.size, 1, none⟩ = some (.int .u64 (a * b % 18446744073709551616)) := by simp [World.cell?_alloc_past, ne1, r1]
  have t2 : (wd.alloc (.cells #[.int .u64 0, .int .u64 0] 40)).cell? ⟨wc.heap.size, 0, none⟩ = some (.int .u64 (a * c / 18446744073709551616)) := by simp [World.cell?_alloc_past, ne2, r2]
  have t3 : (wd.alloc (.cells #[.int .u64 0, .int .u64 0] 40)).cell? ⟨wc.heap.size, 1, none⟩ = some (.int .u64 (a * c % 18446744073709551616)) := by simp [World.cell?_alloc_past, ne2, r3]
  have bv := BD.out.alloc BD.out.size (.cells #[.int .u64 0, .int .u64 0] 40)
  clear BD r0 r1 r2 r3 zd zc
  revert t0 t1 t2 t3 bv
  generalize wd.alloc (.cells #[.int .u64 0, .int .u64 0] 40) = V
  intro t0 t1 t2 t3 bv
  have BV := Lib.hid bv
  clear bv
  have d1 : decide (b < c) = true := by simpa using g1
  have d2 : decide (0 < a) = true := by simpa using g2
  go_region_held3 (fun w' => w'.cell? ⟨wb.heap.size, 0, none⟩ = some (.int .u64 (a * b / 18446744073709551616)) ∧ w'.cell? ⟨wb.heap.size, 1, none⟩ = some (.int .u64 (a * b % 18446744073709551616)) ∧ w'.cell? ⟨wc.heap.size, 0, none⟩ = some (.int .u64 (a * c / 18446744073709551616)) ∧ w'.cell? ⟨wc.heap.size, 1, none⟩ = some (.int .u64 (a * c % 18446744073709551616)))
    (first
      | go_keep
      | (go_split_ands
         refine ⟨?_, ?_, ?_, ?_⟩
         all_goals (refine kx _ _ _ ?_; assumption)))
    (first
      | (go_at_call 30; refine (compare_less _ _ _ lt).mono ?_; rintro e wx1 ⟨rfl, bx1⟩; have kx := keeps bx1)
      | (go_at_call_of 28 (Value.int .u64 b); refine (mul_comm' a b _ A B).mono ?_; rintro e wx2 ⟨rfl, bx2⟩; have kx := keeps bx2)
      | (go_at_call_of 28 (Value.int .u64 a); refine (mul_one' a _ A).mono ?_; rintro e wx3 ⟨rfl, bx3⟩; have kx := keeps bx3))
  rename_i hHeld
  have b1 := BV.out.drew.trans (bx1.mono BV.out.size)
  have b2 := b1.trans (bx2.mono b1.size)
  have b3 := b2.trans (bx3.mono b2.size)
  have BX := Lib.hid b3
  clear hHeld kx bx1 bx2 bx3 b1 b2 b3 t0 t1 t2 t3 BV d1 lt d2
  go_wp2
  go_ret
  exact ⟨rfl, BX.out⟩
set_option maxHeartbeats 1600000 in
theorem walk12 (a b c : Int) (w : World) (A : W64 a) (B : W64 b) (C : W64 c) (hs : a * b + a * c < 340282366920938463463374607431768211456) (ho : 18446744073709551616 ≤ b + c) (g1 : b < c) (g2 : 0 < a) :
    Calls Try.prog 8 #[.int .u64 a, .int .u64 b, .int .u64 c] w fun e w' => e = .returned (.bool true) ∧ Below w.heap.size w w' := by
  have pb := prod_le A B
  have pc := prod_le A C
  have lt : a * b < a * c := Int.mul_lt_mul_of_pos_left g1 g2
  obtain ⟨B0, B1⟩ := id B
  obtain ⟨C0, C1⟩ := id C
  go_enter Try.func8, Try.ntmps8
  go_wp2_with fail
  refine (alive_any _).mono ?_
  rintro e wa ⟨rfl, ba⟩
  have BA := Lib.hid ba
  clear ba
  go_wp2_with fail
  refine (mul_any _ _ A B _).mono ?_
  rintro e wb ⟨rfl, bb⟩
  have BB := Lib.hid (BA.out.trans (bb.mono BA.out.size))
  clear bb BA
  go_wp2_with fail
  refine (mul_any _ _ A C _).mono ?_
  rintro e wc ⟨rfl, bc⟩
  have zc : wb.heap.size + 1 ≤ wc.heap.size := by have := bc.size; simpa using this
  have kc := keeps bc
  have p0 := kc wb.heap.size 0 (.int .u64 (a * b / 18446744073709551616)) (by simp)
  have p1 := kc wb.heap.size 1 (.int .u64 (a * b % 18446744073709551616)) (by simp)
  have BC := Lib.hid ((BB.out.alloc BB.out.size _).trans (bc.mono (by have := BB.out.size; simp; omega)))
  clear bc BB kc
  have ne : wb.heap.size < wc.heap.size := by omega
  go_wp2_with fail
  refine (sum_yes _ _ _ pb.1 pc.1 (by omega)).mono ?_
  rintro e wd ⟨rfl, bd⟩
  have zd : wc.heap.size + 1 ≤ wd.heap.size := by have := bd.size; simpa using this
  have kd := keeps bd
  have r0 := kd wb.heap.size 0 (.int .u64 (a * b / 18446744073709551616)) (by simp [World.cell?_alloc_past, ne, p0])
  have r1 := kd wb.heap.size 1 (.int .u64 (a * b % 18446744073709551616)) (by simp [World.cell?_alloc_past, ne, p1])
  have r2 := kd wc.heap.size 0 (.int .u64 (a * c / 18446744073709551616)) (by simp)
  have r3 := kd wc.heap.size 1 (.int .u64 (a * c % 18446744073709551616)) (by simp)
  have BD := Lib.hid ((BC.out.alloc BC.out.size _).trans (bd.mono (by have := BC.out.size; simp; omega)))
  clear bd BC kd p0 p1
  have ne1 : wb.heap.size < wd.heap.size := by omega
  have ne2 : wc.heap.size < wd.heap.size := by omega
  go_wp2_with fail
  have t0 : (wd.alloc (.cells #[.int .u64 ((a * b + a * c) / 18446744073709551616), .int .u64 ((a * b + a * c) % 18446744073709551616)] 40)).cell? ⟨wb.heap.size, 0, none⟩ = some (.int .u64 (a * b / 18446744073709551616)) := by simp [World.cell?_alloc_past, ne1, r0]
  have t1 : (wd.alloc (.cells #[.int .u64 ((a * b + a * c) / 18446744073709551616), .int .u64 ((a * b + a * c) % 18446744073709551616)] 40)).cell? ⟨wb.heap.size, 1, none⟩ = some (.int .u64 (a * b % 18446744073709551616)) := by simp [World.cell?_alloc_past, ne1, r1]
  have t2 : (wd.alloc (.cells #[.int .u64 ((a * b + a * c) / 18446744073709551616), .int .u64 ((a * b + a * c) % 18446744073709551616)] 40)).cell? ⟨wc.heap.size, 0, none⟩ = some (.int .u64 (a * c / 18446744073709551616)) := by simp [World.cell?_alloc_past, ne2, r2]
  have t3 : (wd.alloc (.cells #[.int .u64 ((a * b + a * c) / 18446744073709551616), .int .u64 ((a * b + a * c) % 18446744073709551616)] 40)).cell? ⟨wc.heap.size, 1, none⟩ = some (.int .u64 (a * c % 18446744073709551616)) := by simp [World.cell?_alloc_past, ne2, r3]
  have bv := BD.out.alloc BD.out.size (.cells #[.int .u64 ((a * b + a * c) / 18446744073709551616), .int .u64 ((a * b + a * c) % 18446744073709551616)] 40)
  clear BD r0 r1 r2 r3 zd zc
  revert t0 t1 t2 t3 bv
  generalize wd.alloc (.cells #[.int .u64 ((a * b + a * c) / 18446744073709551616), .int .u64 ((a * b + a * c) % 18446744073709551616)] 40) = V
  intro t0 t1 t2 t3 bv
  have BV := Lib.hid bv
  clear bv
  have d1 : decide (b < c) = true := by simpa using g1
  have d2 : decide (0 < a) = true := by simpa using g2
  go_region_held3 (fun w' => w'.cell? ⟨wb.heap.size, 0, none⟩ = some (.int .u64 (a * b / 18446744073709551616)) ∧ w'.cell? ⟨wb.heap.size, 1, none⟩ = some (.int .u64 (a * b % 18446744073709551616)) ∧ w'.cell? ⟨wc.heap.size, 0, none⟩ = some (.int .u64 (a * c / 18446744073709551616)) ∧ w'.cell? ⟨wc.heap.size, 1, none⟩ = some (.int .u64 (a * c % 18446744073709551616)))
    (first
      | go_keep
      | (go_split_ands
         refine ⟨?_, ?_, ?_, ?_⟩
         all_goals (refine kx _ _ _ ?_; assumption)))
    (first
      | (go_at_call 30; refine (compare_less _ _ _ lt).mono ?_; rintro e wx1 ⟨rfl, bx1⟩; have kx := keeps bx1)
      | (go_at_call_of 28 (Value.int .u64 b); refine (mul_comm' a b _ A B).mono ?_; rintro e wx2 ⟨rfl, bx2⟩; have kx := keeps bx2)
      | (go_at_call_of 28 (Value.int .u64 a); refine (mul_one' a _ A).mono ?_; rintro e wx3 ⟨rfl, bx3⟩; have kx := keeps bx3))
  rename_i hHeld
  have b1 := BV.out.drew.trans (bx1.mono BV.out.size)
  have b2 := b1.trans (bx2.mono b1.size)
  have b3 := b2.trans (bx3.mono b2.size)
  have BX := Lib.hid b3
  clear hHeld kx bx1 bx2 bx3 b1 b2 b3 t0 t1 t2 t3 BV d1 lt d2
  have d3 : decide (IntKind.u64.wrap (b + c) < b) = true := by simp [IntKind.wrap_u64]; omega
  go_wp2
  go_ret
  exact ⟨rfl, BX.out⟩
set_option maxHeartbeats 1600000 in
theorem walk13 (a b c : Int) (w : World) (A : W64 a) (B : W64 b) (C : W64 c) (hs : b + c < 18446744073709551616) (g1 : b < c) (g2 : 0 < a) :
    Calls Try.prog 8 #[.int .u64 a, .int .u64 b, .int .u64 c] w fun e w' => e = .returned (.bool true) ∧ Below w.heap.size w w' := by
  have pb := prod_le A B
  have pc := prod_le A C
  have ps : W64 (b + c) := ⟨by have := B.1; have := C.1; omega, hs⟩
  have pp := prod_le A ps
  rw [Int.mul_add] at pp
  have lt : a * b < a * c := Int.mul_lt_mul_of_pos_left g1 g2
  obtain ⟨B0, B1⟩ := id B
  obtain ⟨C0, C1⟩ := id C
  go_enter Try.func8, Try.ntmps8
  go_wp2_with fail
  refine (alive_any _).mono ?_
  rintro e wa ⟨rfl, ba⟩
  have BA := Lib.hid ba
  clear ba
  go_wp2_with fail
  refine (mul_any _ _ A B _).mono ?_
  rintro e wb ⟨rfl, bb⟩
  have BB := Lib.hid (BA.out.trans (bb.mono BA.out.size))
  clear bb BA
  go_wp2_with fail
  refine (mul_any _ _ A C _).mono ?_
  rintro e wc ⟨rfl, bc⟩
  have zc : wb.heap.size + 1 ≤ wc.heap.size := by have := bc.size; simpa using this
  have kc := keeps bc
  have p0 := kc wb.heap.size 0 (.int .u64 (a * b / 18446744073709551616)) (by simp)
  have p1 := kc wb.heap.size 1 (.int .u64 (a * b % 18446744073709551616)) (by simp)
  have BC := Lib.hid ((BB.out.alloc BB.out.size _).trans (bc.mono (by have := BB.out.size; simp; omega)))
  clear bc BB kc
  have ne : wb.heap.size < wc.heap.size := by omega
  go_wp2_with fail
  refine (sum_yes _ _ _ pb.1 pc.1 (by omega)).mono ?_
  rintro e wd ⟨rfl, bd⟩
  have zd : wc.heap.size + 1 ≤ wd.heap.size := by have := bd.size; simpa using this
  have kd := keeps bd
  have r0 := kd wb.heap.size 0 (.int .u64 (a * b / 18446744073709551616)) (by simp [World.cell?_alloc_past, ne, p0])
  have r1 := kd wb.heap.size 1 (.int .u64 (a * b % 18446744073709551616)) (by simp [World.cell?_alloc_past, ne, p1])
  have r2 := kd wc.heap.size 0 (.int .u64 (a * c / 18446744073709551616)) (by simp)
  have r3 := kd wc.heap.size 1 (.int .u64 (a * c % 18446744073709551616)) (by simp)
  have BD := Lib.hid ((BC.out.alloc BC.out.size _).trans (bd.mono (by have := BC.out.size; simp; omega)))
  clear bd BC kd p0 p1
  have ne1 : wb.heap.size < wd.heap.size := by omega
  have ne2 : wc.heap.size < wd.heap.size := by omega
  go_wp2_with fail
  have t0 : (wd.alloc (.cells #[.int .u64 ((a * b + a * c) / 18446744073709551616), .int .u64 ((a * b + a * c) % 18446744073709551616)] 40)).cell? ⟨wb.heap.size, 0, none⟩ = some (.int .u64 (a * b / 18446744073709551616)) := by simp [World.cell?_alloc_past, ne1, r0]
  have t1 : (wd.alloc (.cells #[.int .u64 ((a * b + a * c) / 18446744073709551616), .int .u64 ((a * b + a * c) % 18446744073709551616)] 40)).cell? ⟨wb.heap.size, 1, none⟩ = some (.int .u64 (a * b % 18446744073709551616)) := by simp [World.cell?_alloc_past, ne1, r1]
  have t2 : (wd.alloc (.cells #[.int .u64 ((a * b + a * c) / 18446744073709551616), .int .u64 ((a * b + a * c) % 18446744073709551616)] 40)).cell? ⟨wc.heap.size, 0, none⟩ = some (.int .u64 (a * c / 18446744073709551616)) := by simp [World.cell?_alloc_past, ne2, r2]
  have t3 : (wd.alloc (.cells #[.int .u64 ((a * b + a * c) / 18446744073709551616), .int .u64 ((a * b + a * c) % 18446744073709551616)] 40)).cell? ⟨wc.heap.size, 1, none⟩ = some (.int .u64 (a * c % 18446744073709551616)) := by simp [World.cell?_alloc_past, ne2, r3]
  have t4 : (wd.alloc (.cells #[.int .u64 ((a * b + a * c) / 18446744073709551616), .int .u64 ((a * b + a * c) % 18446744073709551616)] 40)).cell? ⟨wd.heap.size, 0, none⟩ = some (.int .u64 ((a * b + a * c) / 18446744073709551616)) := by simp
  have t5 : (wd.alloc (.cells #[.int .u64 ((a * b + a * c) / 18446744073709551616), .int .u64 ((a * b + a * c) % 18446744073709551616)] 40)).cell? ⟨wd.heap.size, 1, none⟩ = some (.int .u64 ((a * b + a * c) % 18446744073709551616)) := by simp
  have bv := BD.out.alloc BD.out.size (.cells #[.int .u64 ((a * b + a * c) / 18446744073709551616), .int .u64 ((a * b + a * c) % 18446744073709551616)] 40)
  clear BD r0 r1 r2 r3 zd zc
  revert t0 t1 t2 t3 t4 t5 bv
  generalize wd.alloc (.cells #[.int .u64 ((a * b + a * c) / 18446744073709551616), .int .u64 ((a * b + a * c) % 18446744073709551616)] 40) = V
  intro t0 t1 t2 t3 t4 t5 bv
  have BV := Lib.hid bv
  clear bv
  have d1 : decide (b < c) = true := by simpa using g1
  have d2 : decide (0 < a) = true := by simpa using g2
  go_region_held3 (fun w' => w'.cell? ⟨wb.heap.size, 0, none⟩ = some (.int .u64 (a * b / 18446744073709551616)) ∧ w'.cell? ⟨wb.heap.size, 1, none⟩ = some (.int .u64 (a * b % 18446744073709551616)) ∧ w'.cell? ⟨wc.heap.size, 0, none⟩ = some (.int .u64 (a * c / 18446744073709551616)) ∧ w'.cell? ⟨wc.heap.size, 1, none⟩ = some (.int .u64 (a * c % 18446744073709551616)))
    (first
      | go_keep
      | (go_split_ands
         refine ⟨?_, ?_, ?_, ?_⟩
         all_goals (refine kx _ _ _ ?_; assumption)))
    (first
      | (go_at_call 30; refine (compare_less _ _ _ lt).mono ?_; rintro e wx1 ⟨rfl, bx1⟩; have kx := keeps bx1)
      | (go_at_call_of 28 (Value.int .u64 b); refine (mul_comm' a b _ A B).mono ?_; rintro e wx2 ⟨rfl, bx2⟩; have kx := keeps bx2)
      | (go_at_call_of 28 (Value.int .u64 a); refine (mul_one' a _ A).mono ?_; rintro e wx3 ⟨rfl, bx3⟩; have kx := keeps bx3))
  rename_i hHeld
  have s4 := keeps bx3 _ _ _ (keeps bx2 _ _ _ (keeps bx1 _ _ _ t4))
  have s5 := keeps bx3 _ _ _ (keeps bx2 _ _ _ (keeps bx1 _ _ _ t5))
  have b1 := BV.out.drew.trans (bx1.mono BV.out.size)
  have b2 := b1.trans (bx2.mono b1.size)
  have b3 := b2.trans (bx3.mono b2.size)
  have BX := Lib.hid b3
  clear hHeld kx bx1 bx2 bx3 b1 b2 b3 t0 t1 t2 t3 t4 t5 BV d1 lt d2
  have d3 : decide (b + c < b) = false := by simp; omega
  go_wp2_with fail
  have hw : IntKind.u64.wrap (b + c) = b + c := by rw [IntKind.wrap_u64]; omega
  go_region_held3 (fun w' => w'.cell? ⟨wd.heap.size, 0, none⟩ = some (.int .u64 ((a * b + a * c) / 18446744073709551616)) ∧ w'.cell? ⟨wd.heap.size, 1, none⟩ = some (.int .u64 ((a * b + a * c) % 18446744073709551616)))
    (first
      | go_keep
      | (go_split_ands
         refine ⟨?_, ?_⟩
         all_goals (refine ky _ _ _ ?_; assumption)))
    (first
      | (go_at_call 28; refine (mul_sum a b c _ A ps).mono ?_; rintro e wx4 ⟨rfl, bx4⟩; have ky := keeps bx4))
  rename_i hHeld
  have b4 := BX.out.drew.trans (bx4.mono BX.out.size)
  clear hHeld ky bx4 BX s4 s5 hw
  go_wp2
  go_ret
  exact ⟨rfl, b4⟩
set_option maxHeartbeats 1600000 in
theorem walk20 (b c : Int) (w : World) (B : W64 b) (C : W64 c) (g1 : b < c) :
    Calls Try.prog 8 #[.int .u64 0, .int .u64 b, .int .u64 c] w fun e w' => e = .returned (.bool true) ∧ Below w.heap.size w w' := by
  obtain ⟨B0, B1⟩ := id B
  obtain ⟨C0, C1⟩ := id C
  go_enter Try.func8, Try.ntmps8
  go_wp2_with fail
  refine (alive_any _).mono ?_
  rintro e wa ⟨rfl, ba⟩
  have BA := Lib.hid ba
  clear ba
  go_wp2_with fail
  refine (mul_zero _ _ B).mono ?_
  rintro e wb ⟨rfl, bb⟩
  have BB := Lib.hid (BA.out.trans (bb.mono BA.out.size))
  clear bb BA
  go_wp2_with fail
  refine (mul_zero _ _ C).mono ?_
  rintro e wc ⟨rfl, bc⟩
  have zc : wb.heap.size + 1 ≤ wc.heap.size := by have := bc.size; simpa using this
  have kc := keeps bc
  have p0 := kc wb.heap.size 0 (.int .u64 0) (by simp)
  have p1 := kc wb.heap.size 1 (.int .u64 0) (by simp)
  have BC := Lib.hid ((BB.out.alloc BB.out.size _).trans (bc.mono (by have := BB.out.size; simp; omega)))
  clear bc BB kc
  have ne : wb.heap.size < wc.heap.size := by omega
  go_wp2_with fail
  refine (sum_zero _).mono ?_
  rintro e wd ⟨rfl, bd⟩
  have zd : wc.heap.size + 1 ≤ wd.heap.size := by have := bd.size; simpa using this
  have kd := keeps bd
  have r0 := kd wb.heap.size 0 (.int .u64 0) (by simp [World.cell?_alloc_past, ne, p0])
  have r1 := kd wb.heap.size 1 (.int .u64 0) (by simp [World.cell?_alloc_past, ne, p1])
  have BD := Lib.hid ((BC.out.alloc BC.out.size _).trans (bd.mono (by have := BC.out.size; simp; omega)))
  clear bd BC kd p0 p1
  have ne1 : wb.heap.size < wd.heap.size := by omega
  go_wp2_with fail
  have t0 : (wd.alloc (.cells #[.int .u64 0, .int .u64 0] 40)).cell? ⟨wb.heap.size, 0, none⟩ = some (.int .u64 0) := by simp [World.cell?_alloc_past, ne1, r0]
  have t1 : (wd.alloc (.cells #[.int .u64 0, .int .u64 0] 40)).cell? ⟨wb.heap.size, 1, none⟩ = some (.int .u64 0) := by simp [World.cell?_alloc_past, ne1, r1]
  have t4 : (wd.alloc (.cells #[.int .u64 0, .int .u64 0] 40)).cell? ⟨wd.heap.size, 0, none⟩ = some (.int .u64 0) := by simp
  have t5 : (wd.alloc (.cells #[.int .u64 0, .int .u64 0] 40)).cell? ⟨wd.heap.size, 1, none⟩ = some (.int .u64 0) := by simp
  have bv := BD.out.alloc BD.out.size (.cells #[.int .u64 0, .int .u64 0] 40)
  clear BD r0 r1 zd zc
  revert t0 t1 t4 t5 bv
  generalize wd.alloc (.cells #[.int .u64 0, .int .u64 0] 40) = V
  intro t0 t1 t4 t5 bv
  have BV := Lib.hid bv
  clear bv
  have d1 : decide (b < c) = true := by simpa using g1
  go_region_with (first
      | (go_at_call_of 28 (Value.int .u64 b); refine (zero_mul' b _ B).mono ?_; rintro e wx2 ⟨rfl, bx2⟩; have u0 := keeps bx2 _ _ _ t0; have u1 := keeps bx2 _ _ _ t1)
      | (go_at_call_of 28 (Value.int .u64 0); refine (mul_zero 1 _ ⟨by decide, by decide⟩).mono ?_; rintro e wx3 ⟨rfl, bx3⟩))
  all_goals
    have s4 := keeps bx3 _ _ _ (keeps bx2 _ _ _ t4)
    have s5 := keeps bx3 _ _ _ (keeps bx2 _ _ _ t5)
    have b2 := BV.out.drew.trans (bx2.mono BV.out.size)
    have b3 := b2.trans (bx3.mono b2.size)
    have BX := Lib.hid b3
    clear u0 u1 bx2 bx3 b2 b3 t0 t1 t4 t5 BV d1
    by_cases ho : 18446744073709551616 ≤ b + c
    · have d3 : decide (IntKind.u64.wrap (b + c) < b) = true := by simp [IntKind.wrap_u64]; omega
      go_wp2
      go_ret
      exact ⟨rfl, BX.out⟩
    · have ps : W64 (b + c) := ⟨by omega, by omega⟩
      have d3 : decide (b + c < b) = false := by simp; omega
      go_wp2_with fail
      have hw : IntKind.u64.wrap (b + c) = b + c := by rw [IntKind.wrap_u64]; omega
      go_region_held3 (fun w' => w'.cell? ⟨wd.heap.size, 0, none⟩ = some (.int .u64 0) ∧ w'.cell? ⟨wd.heap.size, 1, none⟩ = some (.int .u64 0))
        (first
          | go_keep
          | (go_split_ands
             refine ⟨?_, ?_⟩
             all_goals (refine ky _ _ _ ?_; assumption)))
        (first
          | (go_at_call 28; refine (mul_zero _ _ ps).mono ?_; rintro e wx4 ⟨rfl, bx4⟩; have ky := keeps bx4))
      rename_i hHeld
      have b4 := BX.out.drew.trans (bx4.mono BX.out.size)
      clear hHeld ky bx4 BX s4 s5 hw
      go_wp2
      go_ret
      exact ⟨rfl, b4⟩
set_option maxHeartbeats 3200000 in
theorem walk31 (a b c : Int) (w : World) (A : W64 a) (B : W64 b) (C : W64 c) (hs : 340282366920938463463374607431768211456 ≤ a * b + a * c) (g1 : ¬ b < c) :
    Calls Try.prog 8 #[.int .u64 a, .int .u64 b, .int .u64 c] w fun e w' => e = .returned (.bool true) ∧ Below w.heap.size w w' := by
  have pb := prod_le A B
  have pc := prod_le A C
  obtain ⟨B0, B1⟩ := id B
  obtain ⟨C0, C1⟩ := id C
  go_enter Try.func8, Try.ntmps8
  go_wp2_with fail
  refine (alive_any _).mono ?_
  rintro e wa ⟨rfl, ba⟩
  have BA := Lib.hid ba
  clear ba
  go_wp2_with fail
  refine (mul_any _ _ A B _).mono ?_
  rintro e wb ⟨rfl, bb⟩
  have BB := Lib.hid (BA.out.trans (bb.mono BA.out.size))
  clear bb BA
  go_wp2_with fail
  refine (mul_any _ _ A C _).mono ?_
  rintro e wc ⟨rfl, bc⟩
  have zc : wb.heap.size + 1 ≤ wc.heap.size := by have := bc.size; simpa using this
  have kc := keeps bc
  have p0 := kc wb.heap.size 0 (.int .u64 (a * b / 18446744073709551616)) (by simp)
  have p1 := kc wb.heap.size 1 (.int .u64 (a * b % 18446744073709551616)) (by simp)
  have BC := Lib.hid ((BB.out.alloc BB.out.size _).trans (bc.mono (by have := BB.out.size; simp; omega)))
  clear bc BB kc
  have ne : wb.heap.size < wc.heap.size := by omega
  go_wp2_with fail
  refine (sum_no _ _ _ pb.1 pc.1 pb.2 pc.2 hs).mono ?_
  rintro e wd ⟨rfl, bd⟩
  have zd : wc.heap.size + 1 ≤ wd.heap.size := by have := bd.size; simpa using this
  have kd := keeps bd
  have r0 := kd wb.heap.size 0 (.int .u64 (a * b / 18446744073709551616)) (by simp [World.cell?_alloc_past, ne, p0])
  have r1 := kd wb.heap.size 1 (.int .u64 (a * b % 18446744073709551616)) (by simp [World.cell?_alloc_past, ne, p1])
  have r2 := kd wc.heap.size 0 (.int .u64 (a * c / 18446744073709551616)) (by simp)
  have r3 := kd wc.heap.size 1 (.int .u64 (a * c % 18446744073709551616)) (by simp)
  have BD := Lib.hid ((BC.out.alloc BC.out.size _).trans (bd.mono (by have := BC.out.size; simp; omega)))
  clear bd BC kd p0 p1
  have ne1 : wb.heap.size < wd.heap.size := by omega
  have ne2 : wc.heap.size < wd.heap.size := by omega
  go_wp2_with fail
  have t0 : (wd.alloc (.cells #[.int .u64 0, .int .u64 0] 40)).cell? ⟨wb.heap.size, 0, none⟩ = some (.int .u64 (a * b / 18446744073709551616)) := by simp [World.cell?_alloc_past, ne1, r0]
  have t1 : (wd.alloc (.cells #[.int .u64 0, .int .u64 0] 40)).cell? ⟨wb.heap.size, 1, none⟩ = some (.int .u64 (a * b % 18446744073709551616)) := by simp [World.cell?_alloc_past, ne1, r1]
  have t2 : (wd.alloc (.cells #[.int .u64 0, .int .u64 0] 40)).cell? ⟨wc.heap.size, 0, none⟩ = some (.int .u64 (a * c / 18446744073709551616)) := by simp [World.cell?_alloc_past, ne2, r2]
  have t3 : (wd.alloc (.cells #[.int .u64 0, .int .u64 0] 40)).cell? ⟨wc.heap.size, 1, none⟩ = some (.int .u64 (a * c % 18446744073709551616)) := by simp [World.cell?_alloc_past, ne2, r3]
  have bv := BD.out.alloc BD.out.size (.cells #[.int .u64 0, .int .u64 0] 40)
  clear BD r0 r1 r2 r3 zd zc
  revert t0 t1 t2 t3 bv
  generalize wd.alloc (.cells #[.int .u64 0, .int .u64 0] 40) = V
  intro t0 t1 t2 t3 bv
  have BV := Lib.hid bv
  clear bv
  have d1 : decide (b < c) = false := by simpa using g1
  first
    | (go_region_with (first
        | (go_at_call_of 28 (Value.int .u64 1); refine (mul_one' a _ A).mono ?_; rintro e wx3 ⟨rfl, bx3⟩)
        | (go_at_call 28; refine (mul_comm' a b _ A B).mono ?_; rintro e wx2 ⟨rfl, bx2⟩; have u0 := keeps bx2 _ _ _ t0; have u1 := keeps bx2 _ _ _ t1)))
    | fail
  all_goals
    have b2 := BV.out.drew.trans (bx2.mono BV.out.size)
    have b3 := b2.trans (bx3.mono b2.size)
    have BX := Lib.hid b3
    clear u0 u1 bx2 bx3 b2 b3 t0 t1 t2 t3 BV d1
    go_wp2
    go_ret
    exact ⟨rfl, BX.out⟩
set_option maxHeartbeats 3200000 in
theorem walk32 (a b c : Int) (w : World) (A : W64 a) (B : W64 b) (C : W64 c) (hs : a * b + a * c < 340282366920938463463374607431768211456) (g1 : ¬ b < c) :
    Calls Try.prog 8 #[.int .u64 a, .int .u64 b, .int .u64 c] w fun e w' => e = .returned (.bool true) ∧ Below w.heap.size w w' := by
  have pb := prod_le A B
  have pc := prod_le A C
  obtain ⟨B0, B1⟩ := id B
  obtain ⟨C0, C1⟩ := id C
  go_enter Try.func8, Try.ntmps8
  go_wp2_with fail
  refine (alive_any _).mono ?_
  rintro e wa ⟨rfl, ba⟩
  have BA := Lib.hid ba
  clear ba
  go_wp2_with fail
  refine (mul_any _ _ A B _).mono ?_
  rintro e wb ⟨rfl, bb⟩
  have BB := Lib.hid (BA.out.trans (bb.mono BA.out.size))
  clear bb BA
  go_wp2_with fail
  refine (mul_any _ _ A C _).mono ?_
  rintro e wc ⟨rfl, bc⟩
  have zc : wb.heap.size + 1 ≤ wc.heap.size := by have := bc.size; simpa using this
  have kc := keeps bc
  have p0 := kc wb.heap.size 0 (.int .u64 (a * b / 18446744073709551616)) (by simp)
  have p1 := kc wb.heap.size 1 (.int .u64 (a * b % 18446744073709551616)) (by simp)
  have BC := Lib.hid ((BB.out.alloc BB.out.size _).trans (bc.mono (by have := BB.out.size; simp; omega)))
  clear bc BB kc
  have ne : wb.heap.size < wc.heap.size := by omega
  go_wp2_with fail
  refine (sum_yes _ _ _ pb.1 pc.1 (by omega)).mono ?_
  rintro e wd ⟨rfl, bd⟩
  have zd : wc.heap.size + 1 ≤ wd.heap.size := by have := bd.size; simpa using this
  have kd := keeps bd
  have r0 := kd wb.heap.size 0 (.int .u64 (a * b / 18446744073709551616)) (by simp [World.cell?_alloc_past, ne, p0])
  have r1 := kd wb.heap.size 1 (.int .u64 (a * b % 18446744073709551616)) (by simp [World.cell?_alloc_past, ne, p1])
  have r2 := kd wc.heap.size 0 (.int .u64 (a * c / 18446744073709551616)) (by simp)
  have r3 := kd wc.heap.size 1 (.int .u64 (a * c % 18446744073709551616)) (by simp)
  have BD := Lib.hid ((BC.out.alloc BC.out.size _).trans (bd.mono (by have := BC.out.size; simp; omega)))
  clear bd BC kd p0 p1
  have ne1 : wb.heap.size < wd.heap.size := by omega
  have ne2 : wc.heap.size < wd.heap.size := by omega
  go_wp2_with fail
  have t0 : (wd.alloc (.cells #[.int .u64 ((a * b + a * c) / 18446744073709551616), .int .u64 ((a * b + a * c) % 18446744073709551616)] 40)).cell? ⟨wb.heap.size, 0, none⟩ = some (.int .u64 (a * b / 18446744073709551616)) := by simp [World.cell?_alloc_past, ne1, r0]
  have t1 : (wd.alloc (.cells #[.int .u64 ((a * b + a * c) / 18446744073709551616), .int .u64 ((a * b + a * c) % 18446744073709551616)] 40)).cell? ⟨wb.heap.size, 1, none⟩ = some (.int .u64 (a * b % 18446744073709551616)) := by simp [World.cell?_alloc_past, ne1, r1]
  have t2 : (wd.alloc (.cells #[.int .u64 ((a * b + a * c) / 18446744073709551616), .int .u64 ((a * b + a * c) % 18446744073709551616)] 40)).cell? ⟨wc.heap.size, 0, none⟩ = some (.int .u64 (a * c / 18446744073709551616)) := by simp [World.cell?_alloc_past, ne2, r2]
  have t3 : (wd.alloc (.cells #[.int .u64 ((a * b + a * c) / 18446744073709551616), .int .u64 ((a * b + a * c) % 18446744073709551616)] 40)).cell? ⟨wc.heap.size, 1, none⟩ = some (.int .u64 (a * c % 18446744073709551616)) := by simp [World.cell?_alloc_past, ne2, r3]
  have t4 : (wd.alloc (.cells #[.int .u64 ((a * b + a * c) / 18446744073709551616), .int .u64 ((a * b + a * c) % 18446744073709551616)] 40)).cell? ⟨wd.heap.size, 0, none⟩ = some (.int .u64 ((a * b + a * c) / 18446744073709551616)) := by simp
  have t5 : (wd.alloc (.cells #[.int .u64 ((a * b + a * c) / 18446744073709551616), .int .u64 ((a * b + a * c) % 18446744073709551616)] 40)).cell? ⟨wd.heap.size, 1, none⟩ = some (.int .u64 ((a * b + a * c) % 18446744073709551616)) := by simp
  have bv := BD.out.alloc BD.out.size (.cells #[.int .u64 ((a * b + a * c) / 18446744073709551616), .int .u64 ((a * b + a * c) % 18446744073709551616)] 40)
  clear BD r0 r1 r2 r3 zd zc
  revert t0 t1 t2 t3 t4 t5 bv
  generalize wd.alloc (.cells #[.int .u64 ((a * b + a * c) / 18446744073709551616), .int .u64 ((a * b + a * c) % 18446744073709551616)] 40) = V
  intro t0 t1 t2 t3 t4 t5 bv
  have BV := Lib.hid bv
  clear bv
  have d1 : decide (b < c) = false := by simpa using g1
  first
    | (go_region_with (first
        | (go_at_call_of 28 (Value.int .u64 1); refine (mul_one' a _ A).mono ?_; rintro e wx3 ⟨rfl, bx3⟩)
        | (go_at_call 28; refine (mul_comm' a b _ A B).mono ?_; rintro e wx2 ⟨rfl, bx2⟩; have u0 := keeps bx2 _ _ _ t0; have u1 := keeps bx2 _ _ _ t1)))
    | fail
  all_goals
    have b2 := BV.out.drew.trans (bx2.mono BV.out.size)
    have b3 := b2.trans (bx3.mono b2.size)
    have BX := Lib.hid b3
    have s4 := keeps bx3 _ _ _ (keeps bx2 _ _ _ t4)
    have s5 := keeps bx3 _ _ _ (keeps bx2 _ _ _ t5)
    clear u0 u1 bx2 bx3 b2 b3 t0 t1 t2 t3 t4 t5 BV d1
    by_cases ho : 18446744073709551616 ≤ b + c
    · have d3 : decide (IntKind.u64.wrap (b + c) < b) = true := by simp [IntKind.wrap_u64]; omega
      go_wp2
      go_ret
      exact ⟨rfl, BX.out⟩
    · have ps : W64 (b + c) := ⟨by omega, by omega⟩
      have d3 : decide (b + c < b) = false := by simp; omega
      go_wp2_with fail
      have hw : IntKind.u64.wrap (b + c) = b + c := by rw [IntKind.wrap_u64]; omega
      go_region_held3 (fun w' => w'.cell? ⟨wd.heap.size, 0, none⟩ = some (.int .u64 ((a * b + a * c) / 18446744073709551616)) ∧ w'.cell? ⟨wd.heap.size, 1, none⟩ = some (.int .u64 ((a * b + a * c) % 18446744073709551616)))
        (first
          | go_keep
          | (go_split_ands
             refine ⟨?_, ?_⟩
             all_goals (refine ky _ _ _ ?_; assumption)))
        (first
          | (go_at_call 28; refine (mul_sum a b c _ A ps).mono ?_; rintro e wx4 ⟨rfl, bx4⟩; have ky := keeps bx4))
      rename_i hHeld
      have b4 := BX.out.drew.trans (bx4.mono BX.out.size)
      clear hHeld ky bx4 BX s4 s5 hw
      go_wp2
      go_ret
      exact ⟨rfl, b4⟩
theorem walk (a b c : Int) (w0 : (Lit.int .u64 a).wf = true) (w1 : (Lit.int .u64 b).wf = true) (w2 : (Lit.int .u64 c).wf = true) (w : World) :
    Calls Try.prog 8 #[.int .u64 a, .int .u64 b, .int .u64 c] w fun e w' => e = .returned (.bool true) ∧ Below w.heap.size w w' := by
  obtain ⟨p0, p1⟩ := bounds_u64 w0
  obtain ⟨q0, q1⟩ := bounds_u64 w1
  obtain ⟨r0, r1⟩ := bounds_u64 w2
  have A : W64 a := ⟨p0, by omega⟩
  have B : W64 b := ⟨q0, by omega⟩
  have C : W64 c := ⟨r0, by omega⟩
  by_cases h3 : b + c < 18446744073709551616
  · by_cases g1 : b < c
    · by_cases g2 : 0 < a
      · exact walk13 a b c w A B C h3 g1 g2
      · have e : a = 0 := by omega
        subst e
        exact walk20 b c w B C g1
    · have pp := prod_le A (⟨by omega, h3⟩ : W64 (b + c))
      rw [Int.mul_add] at pp
      exact walk32 a b c w A B C (by omega) g1
  · by_cases h2 : a * b + a * c < 340282366920938463463374607431768211456
    · by_cases g1 : b < c
      · by_cases g2 : 0 < a
        · exact walk12 a b c w A B C h2 (by omega) g1 g2
        · have e : a = 0 := by omega
          subst e
          exact walk20 b c w B C g1
      · exact walk32 a b c w A B C h2 g1
    · by_cases g1 : b < c
      · by_cases g2 : 0 < a
        · exact walk11 a b c w A B C (by omega) g1 g2
        · have e : a = 0 := by omega
          subst e
          rw [Int.zero_mul, Int.zero_mul] at h2
          omega
      · exact walk31 a b c w A B C (by omega) g1

set_option maxRecDepth 100000 in
theorem lifted (os : Os) (started : os.Started) (H : Type) (enc : TypeId × Value → H) :
    ReturnsInHanded {} Try.checked os 8 .any (Rows.wordMulsSpec.pre6 enc Try.prog Try.f8 Rows.wordMulsRow.domain false) (Rows.wordMulsSpec.post enc Try.prog Try.f8 false true false false) := by
  refine returnsInHanded_of_change (C := Try.checked) own started (by kernel_rfl) Try.func8
    (ChangeSpec.witness6 (enc := enc) (C := Try.checked) false ⟨#[], #[.int .u64 0, .int .u64 0, .int .u64 0], []⟩ 8 (by kernel_rfl) (by kernel_rfl) (by kernel_rfl) (by kernel_rfl)) ?_
  intro W base args ds gs before hval0 hW hcnd _
  have hval : ∀ (j : Nat) t v, Try.f8.params[j]? = some t → args[j]? = some v → Value.okWide Try.prog W .any base t v := hval0
  have hW' := hW
  obtain ⟨p, q, hA0, hV, rfl, hfz, hnd⟩ := hW
  have hA : DataW.TrodAll enc Try.prog W 0 (fun _ => true) true Try.f8.params.toList args.toList ds p := hA0
  rw [Try.params8] at hA hval
  obtain ⟨v0, vs0, d0, ds0, p0, q0, hargs, rfl, rfl, h0, r0⟩ := trodAll_cons hA
  obtain ⟨v1, vs1, d1, ds1, p1, q1, rfl, rfl, rfl, h1, r1⟩ := trodAll_cons r0
  obtain ⟨v2, vs2, d2, ds2, p2, q2, rfl, rfl, rfl, h2, r2⟩ := trodAll_cons r1
  obtain ⟨rfl, rfl, rfl⟩ := trodAll_nil r2
  obtain rfl : args = #[v0, v1, v2] := by cases args; simp_all
  obtain ⟨rfl, rfl⟩ := trodVars_none hV
  obtain ⟨a0, rfl, rfl, rfl, w0⟩ := open_int Try.underlying38 (hval 0 38 v0 rfl rfl) h0
  obtain ⟨a1, rfl, rfl, rfl, w1⟩ := open_int Try.underlying38 (hval 1 38 v1 rfl rfl) h1
  obtain ⟨a2, rfl, rfl, rfl, w2⟩ := open_int Try.underlying38 (hval 2 38 v2 rfl rfl) h2
  clear hA0 hval0
  simp only [List.append_nil] at hW'
  refine (walk a0 a1 a2 w0 w1 w2 W).mono fun e W' ⟨he, bel⟩ => ?_
  subst he
  exact ⟨_, rfl, _, _, _, [], [], [], hW', trodAll_mk1 (shut_bool Try.underlying4 _), (trodAll_cons_mk (shut_int Try.underlying38 w0) (trodAll_cons_mk (shut_int Try.underlying38 w1) (trodAll_cons_mk (shut_int Try.underlying38 w2) trodAll_mk0))), rfl, bel.frame _, fun h => by cases h⟩

theorem over : Rows.wordMulsRow.holds Try.pinned (OpenSpec.ofChange Rows.wordMulsSpec) :=
  OpenClaim.holds_of_wide 8 Try.f8 rfl rfl rfl rfl rfl rfl rfl ⟨rfl, rfl, rfl, rfl, rfl⟩ rfl rfl rfl rfl rfl (by kernel_rfl) Try.func8 (by kernel_rfl)
    (of_decide_eq_true (by kernel_rfl)) (by unfold Func.isWrapper; first | (rw [if_pos (by decide +kernel)]; kernel_rfl) | (rw [if_neg (by decide +kernel)]; exact ⟨rfl, rfl⟩))
    (fun os started H enc _ => lifted os started H enc)
end Go.Proofs.Ytlbdklkocjlobaa.wordMuls
namespace Go.Proofs.Ytlbdklkocjlobaa
/-- The statement. -/
theorem wordMuls_holds : Rows.WordMulsSaid := wordMuls.over
#print axioms wordMuls_holds
end Go.Proofs.Ytlbdklkocjlobaa
