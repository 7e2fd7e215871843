/-
  What the laws' alive answers, of whatever keeps what a wheel is asked for: true. Conditions: none.
-/
import Derived.Test.YtddiapihopgpbaaWhEq
namespace Go.Proofs.Ytddiapihopgpbaa
open Go.RowKit
namespace Wh
open Ph (Only)
theorem eqlDu (x y : DuT) (w : World) : (binOp .eql 42 (dV x) (dV y)).run Try.prog w = .ok (.bool (decide (x = y))) w := by
  rw [eqlD (((x.1 : Nat) : Int), ((x.2 : Nat) : Int)) (((y.1 : Nat) : Int), ((y.2 : Nat) : Int)) w]
  congr 2
  obtain ⟨a, b⟩ := x
  obtain ⟨c, d⟩ := y
  simp only [Prod.mk.injEq, Int.ofNat_inj]
theorem neqDu (x y : DuT) (w : World) : (binOp .neq 42 (dV x) (dV y)).run Try.prog w = .ok (.bool (!decide (x = y))) w := by
  rw [neqD (((x.1 : Nat) : Int), ((x.2 : Nat) : Int)) (((y.1 : Nat) : Int), ((y.2 : Nat) : Int)) w]
  congr 3
  obtain ⟨a, b⟩ := x
  obtain ⟨c, d⟩ := y
  simp only [Prod.mk.injEq, Int.ofNat_inj]
theorem n2 : ((2 : Nat) : Int) = 2 := rfl
theorem n5 : ((5 : Nat) : Int) = 5 := rfl
theorem n7 : ((7 : Nat) : Int) = 7 := rfl
theorem n10 : ((10 : Nat) : Int) = 10 := rfl
theorem a1 : addE 3 10 [] = 0 ∧ addL 3 10 [] = [(3, 10)] := ⟨by kernel_rfl, by kernel_rfl⟩
theorem a2 : addE 1 10 [(3, 10)] = 0 ∧ addL 1 10 [(3, 10)] = [(1, 10), (3, 10)] := ⟨by kernel_rfl, by kernel_rfl⟩
theorem a3 : addE 2 5 [(1, 10), (3, 10)] = 0 ∧ addL 2 5 [(1, 10), (3, 10)] = [(2, 5), (1, 10), (3, 10)] := ⟨by kernel_rfl, by kernel_rfl⟩
theorem a4 : addE 2 7 [(2, 5), (1, 10), (3, 10)] = 13 ∧ addL 2 7 [(2, 5), (1, 10), (3, 10)] = [(2, 5), (1, 10), (3, 10)] := ⟨by kernel_rfl, by kernel_rfl⟩
theorem a5 : advO 2 10 [(2, 5), (1, 10), (3, 10)] = [(2, 5), (1, 10), (3, 10)] ∧ advL 2 10 [(2, 5), (1, 10), (3, 10)] = [] ∧ advT 2 10 = 10 := ⟨by kernel_rfl, by kernel_rfl, by kernel_rfl⟩
set_option maxRecDepth 100000 in
set_option maxHeartbeats 4000000 in
theorem alive_any (K : Wk) (w : World) : Calls Try.prog 8 #[] w fun e w' => e = .returned (.bool true) ∧ Below w.heap.size w w' := by
  have hz : ∀ w, (zeroValue 42).run Try.prog w = .ok (pV (0, 0)) w := fun _ => by kernel_rfl
  go_enter Try.func8, Try.ntmps8
  go_wp2_with fail
  have C := K.new_yes 2 w (by omega)
  rw [n2] at C
  refine C.mono ?_
  clear C
  rintro e w1 ⟨p, F1, rfl, hW, hF, hO⟩
  have H1 : On K w.heap.size w p F1 2 [] w1 := ⟨hW, hF, hO.below (Nat.le_refl _) (by simp)⟩
  clear hW hF hO
  go_wp2_with fail
  have C := K.add w1 p F1 2 [] 3 10 H1.wh (by decide) (by decide)
  rw [a1.1, a1.2, n10] at C
  refine C.mono ?_
  clear C
  rintro e w2 ⟨rfl, hg⟩
  obtain ⟨F2, H2, -, -⟩ := H1.grown hg (Nat.le_refl _)
  clear hg H1
  go_wp2_with fail
  have C := K.add w2 p F2 2 [(3, 10)] 1 10 H2.wh (by decide) (by decide)
  rw [a2.1, a2.2, n10] at C
  refine C.mono ?_
  clear C
  rintro e w3 ⟨rfl, hg⟩
  obtain ⟨F3, H3, -, -⟩ := H2.grown hg (Nat.le_refl _)
  clear hg H2
  go_wp2_with fail
  have C := K.add w3 p F3 2 [(1, 10), (3, 10)] 2 5 H3.wh (by decide) (by decide)
  rw [a3.1, a3.2, n5] at C
  refine C.mono ?_
  clear C
  rintro e w4 ⟨rfl, hg⟩
  obtain ⟨F4, H4, -, -⟩ := H3.grown hg (Nat.le_refl _)
  clear hg H3
  go_wp2_with fail
  have C := K.add w4 p F4 2 [(2, 5), (1, 10), (3, 10)] 2 7 H4.wh (by decide) (by decide)
  rw [a4.1, a4.2, n7] at C
  refine C.mono ?_
  clear C
  rintro e w5 ⟨rfl, hg⟩
  obtain ⟨F5, H5, -, -⟩ := H4.grown hg (Nat.le_refl _)
  clear hg H4
  go_wp2_with fail
  refine (K.next w5 p F5 2 [(2, 5), (1, 10), (3, 10)] H5.wh).mono ?_
  rintro e w6 ⟨he, hO⟩
  replace he : e = .returned (.tuple #[.agg #[.int .i64 2, .int .u64 5], .bool true]) := he
  subst he
  have H6 := H5.quiet hO (Nat.le_refl _)
  have oA := Only.alloc [] w6 (.cells #[.int .i64 2, .int .u64 5] 42)
  have H7 := H6.quiet oA (Nat.le_refl _)
  have c0 := World.cell?_alloc_new w6 #[.int .i64 2, .int .u64 5] 42 0
  have c1 := World.cell?_alloc_new w6 #[.int .i64 2, .int .u64 5] 42 1
  have hB6 : w.heap.size ≤ w6.heap.size := H6.size (Nat.le_refl _)
  have hF6 := Lib.hid (K.lt H6.wh)
  have z7 : w6.heap.size < (w6.alloc (.cells #[.int .i64 2, .int .u64 5] 42)).heap.size := by simp
  clear H5 H6 hO oA
  go_wp2_with fail
  generalize w6.alloc (.cells #[.int .i64 2, .int .u64 5] 42) = w7 at *
  have C := K.adv w7 p F5 2 [(2, 5), (1, 10), (3, 10)] 10 H7.wh (by decide)
  rw [a5.1, a5.2.1, a5.2.2, n10] at C
  refine C.mono ?_
  clear C
  rintro e w8 ⟨v, rfl, F8, ⟨hW, hS⟩, hO, hF⟩
  obtain ⟨F8, H8, ho8, hf8⟩ := H7.grown ⟨F8, hW, hO, hF⟩ (Nat.le_refl _)
  obtain ⟨a, cap, rfl⟩ := hS.form
  obtain ⟨b, off, rfl, hb, -, -, k0, -⟩ := hS.at (i := 0) (x := (2, 5)) rfl
  obtain ⟨b', off', e', -, -, -, k1, -⟩ := hS.at (i := 1) (x := (1, 10)) rfl
  cases e'
  obtain ⟨b', off', e', -, -, -, k2, -⟩ := hS.at (i := 2) (x := (3, 10)) rfl
  cases e'
  have hn : w6.heap.size ∉ F5 := fun h => Nat.lt_irrefl _ (hF6.out _ h)
  have d0 := (ho8.cell z7 hn 0).trans c0
  have d1 := (ho8.cell z7 hn 1).trans c1
  simp only [List.getElem?_toArray, List.getElem?_cons_zero, List.getElem?_cons_succ] at d0 d1
  simp only [Nat.zero_mul, Nat.one_mul, Nat.add_zero] at k0 k1 k2
  have eE : ∀ w, (binOp .eql 42 (.agg #[.int .i64 2, .int .u64 5]) (.agg #[.int .i64 2, .int .u64 5])).run Try.prog w = .ok (.bool true) w := fun w => by
    have h := eqlD (2, 5) (2, 5) w
    rw [decide_eq_true rfl] at h
    exact h
  clear H7 hW hO hF hS ho8 hf8 c0 c1 z7
  go_wp2_with fail
  have C := K.now w8 p F8 10 [] H8.wh
  rw [n10] at C
  refine C.mono ?_
  clear C
  rintro e w9 ⟨rfl, rfl⟩
  have H9 := H8
  clear H8 k0 k1 k2 d0 d1
  go_wp2_with fail
  refine (K.lenO w8 p F8 10 [] H9.wh).mono ?_
  rintro e wa ⟨he, hO⟩
  replace he : e = .returned (.int .i64 0) := he
  subst he
  have Ha := H9.quiet hO (Nat.le_refl _)
  clear H9 hO
  go_wp2_with fail
  refine (K.can wa p F8 10 [] 3 Ha.wh (by decide)).mono ?_
  rintro e wb ⟨he, hg⟩
  replace he : e = .returned (.bool false) := he
  subst he
  obtain ⟨Fb, Hb, -, -⟩ := Ha.grown hg (Nat.le_refl _)
  clear hg Ha
  go_wp2_with fail
  go_ret
  exact ⟨rfl, Hb.below⟩
end Wh
end Go.Proofs.Ytddiapihopgpbaa
