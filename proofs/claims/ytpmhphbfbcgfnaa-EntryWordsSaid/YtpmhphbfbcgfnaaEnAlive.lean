/-
  What every statement of layer 6 asks first (alive): it answers true, and changes nothing that was there; no condition.
-/
import Derived.Test.YtpmhphbfbcgfnaaEnRenc
namespace Go.Proofs.Ytpmhphbfbcgfnaa
open Go.RowKit Nt
namespace En
theorem below_of_drewN {w w' : World} (h : ∃ k, w' = w.drewN k) : Below w.heap.size w w' := by
  obtain ⟨k, rfl⟩ := h
  exact below_drewN (Below.refl _ _) k
set_option maxHeartbeats 1000000 in
theorem alive_any (w : World) : Calls Try.prog 7 #[] w fun e w' => e = .returned (.bool true) ∧ Below w.heap.size w w' := by
  have q : ∀ w, (Op.equalIn 10000 23 (.agg #[.bool true, .bool true, .bool false, .bool false, .int .i64 5]) (.agg #[.bool true, .bool true, .bool false, .bool false, .int .i64 5])).run Try.prog w = .ok true w := fun w => eqEnt true true false false true true false false 5 5 w
  go_enter Try.func7, Try.ntmps7
  go_wp2_with fail
  refine (decode_any 1283 _ (by decide) (by decide)).mono ?_
  rintro e w1 ⟨rfl, b1⟩
  have B1 := Lib.hid b1
  have e1 : dV 1283 = true := rfl
  have e2 : dW 1283 = true := rfl
  have e3 : dX 1283 = false := rfl
  have e4 : dB 1283 = false := rfl
  have e5 : dF 1283 = 5 := rfl
  rw [e1, e2, e3, e4, e5]
  clear e1 e2 e3 e4 e5 b1
  go_wp2_with fail
  have H1 := Lib.hid (five_new w1 true true false false 5 23)
  have B2 := Lib.hid (B1.out.alloc B1.out.size (.cells #[.bool true, .bool true, .bool false, .bool false, .int .i64 5] 23))
  clear B1
  generalize w1.heap.size = g at *
  generalize w1.alloc (.cells #[.bool true, .bool true, .bool false, .bool false, .int .i64 5] 23) = w2 at *
  refine (encode_any true true false false 5 _).mono ?_
  rintro e w3 ⟨rfl, b3⟩
  have e1 : encN true true false false 5 = 1283 := rfl
  have e2 : gd true true false false 5 = true := rfl
  rw [e1, e2]
  have H3 := Lib.hid (H1.out.kept' b3)
  have B3 := Lib.hid (B2.out.trans (b3.mono B2.out.size))
  obtain ⟨c0, c1, c2, c3, c4⟩ := H3.out
  clear e1 e2 H1 B2 b3
  go_wp2_with fail
  refine (join_yes 4095 255 _ (by decide) (by decide) (by decide) (by decide)).mono ?_
  rintro e w4 ⟨rfl, rfl⟩
  go_wp2_with fail
  refine (allows_any true true false false 5 1 _).mono ?_
  rintro e w4 ⟨rfl, b4⟩
  have e1 : alw true true false 1 = true := rfl
  rw [e1]
  obtain ⟨d0, d1, d2, d3, d4⟩ := H3.out.kept' b4
  have B4 := Lib.hid (B3.out.trans (b4.mono B3.out.size))
  clear e1 c0 c1 c2 c3 c4 H3 B3 b4
  go_wp2_with fail
  refine (allows_any true true false false 5 2 _).mono ?_
  rintro e w5 ⟨rfl, b5⟩
  have e1 : alw true true false 2 = false := rfl
  rw [e1]
  have B5 := Lib.hid (B4.out.trans (b5.mono B4.out.size))
  clear e1 d0 d1 d2 d3 d4 B4 b5
  go_wp2_with fail
  refine (first_any 284280 _ (by decide) (by decide)).mono ?_
  rintro e w6 ⟨rfl, k6, rfl⟩
  go_wp2_with fail
  refine (second_any 284280 _ (by decide) (by decide)).mono ?_
  rintro e w7 ⟨rfl, k7, rfl⟩
  go_wp2_with fail
  refine (offset_any 284280 _ (by decide) (by decide)).mono ?_
  rintro e w8 ⟨rfl, k8, rfl⟩
  go_wp2_with fail
  refine (pageOf_any 284280 _ (by decide) (by decide)).mono ?_
  rintro e w9 ⟨rfl, k9, rfl⟩
  go_wp2_with fail
  refine (inside_any 1048575 _).mono ?_
  rintro e w10 ⟨rfl, rfl⟩
  go_wp2_with fail
  refine (inside_any 1048576 _).mono ?_
  rintro e w10 ⟨rfl, rfl⟩
  go_wp2
  go_ret
  exact ⟨rfl, below_drewN B5.out _⟩
end En
end Go.Proofs.Ytpmhphbfbcgfnaa
