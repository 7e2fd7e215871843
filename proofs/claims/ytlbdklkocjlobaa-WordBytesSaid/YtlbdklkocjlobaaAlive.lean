/-
  What every statement of layer 1 asks first (alive): it answers true, and changes nothing that was there; no condition.
-/
import Derived.Test.YtlbdklkocjlobaaField
import Derived.Test.YtlbdklkocjlobaaWide
import Derived.Test.YtlbdklkocjlobaaDiv
import Derived.Test.YtlbdklkocjlobaaBytes
namespace Go.Proofs.Ytlbdklkocjlobaa
open Go.RowKit Nt
theorem div_one (w : World) :
    Calls Try.prog 26 #[.agg #[.int .u64 1, .int .u64 5], .int .u64 3] w fun e w' =>
      e = .returned (.tuple #[.agg #[.int .u64 0, .int .u64 6148914691236517207], .int .u64 0, .bool true]) ∧ Below w.heap.size w w' :=
  (div_any 1 5 3 w ⟨by decide, by decide⟩ ⟨by decide, by decide⟩ ⟨by decide, by decide⟩ (by decide)).mono fun _ _ ⟨he, hb⟩ => ⟨he, hb⟩
theorem add_one (w : World) :
    Calls Try.prog 23 #[.agg #[.int .u64 0, .int .u64 9223372036854775808], .agg #[.int .u64 0, .int .u64 9223372036854775808]] w fun e w' =>
      e = .returned (.tuple #[.agg #[.int .u64 1, .int .u64 0], .bool true]) ∧ Below w.heap.size w w' :=
  (add_yes 0 9223372036854775808 0 9223372036854775808 ⟨by decide, by decide⟩ ⟨by decide, by decide⟩ ⟨by decide, by decide⟩ ⟨by decide, by decide⟩ (by decide) w).mono fun _ _ ⟨he, hb⟩ => ⟨he, hb⟩
theorem mul_one40 (w : World) :
    Calls Try.prog 28 #[.int .u64 1099511627776, .int .u64 1099511627776] w fun e w' =>
      e = .returned (.agg #[.int .u64 65536, .int .u64 0]) ∧ Below w.heap.size w w' :=
  (mul_any 1099511627776 1099511627776 ⟨by decide, by decide⟩ ⟨by decide, by decide⟩ w).mono fun _ _ ⟨he, hb⟩ => ⟨he, hb⟩
theorem compare_one (w : World) :
    Calls Try.prog 30 #[.agg #[.int .u64 1, .int .u64 0], .agg #[.int .u64 0, .int .u64 6148914691236517207]] w fun e w' =>
      e = .returned (.int .i64 1) ∧ Below w.heap.size w w' :=
  (compare_any 1 0 0 6148914691236517207 w).mono fun _ _ ⟨he, hb⟩ => ⟨he, hb⟩
theorem field_one (w : World) :
    Calls Try.prog 10 #[.int .u32 43981, .int .i64 4, .int .i64 8] w fun e w' => e = .returned (.int .u32 188) ∧ ∃ k, w' = w.drewN k :=
  (field_any 43981 4 8 w (by decide) (by decide)).mono fun _ _ ⟨he, hb⟩ => ⟨he, hb⟩
theorem put_one (w : World) :
    Calls Try.prog 12 #[.int .u32 0, .int .i64 4, .int .i64 4, .int .u32 255] w fun e w' => e = .returned (.int .u32 240) ∧ w = w' :=
  (put_any 0 4 4 255 w (by decide) (by decide) (by decide)).mono fun _ _ ⟨he, hb⟩ => ⟨he, hb⟩
theorem ext_one (w : World) :
    Calls Try.prog 14 #[.int .u32 248, .int .i64 8] w fun e w' => e = .returned (.int .u32 4294967288) ∧ w = w' :=
  (ext_any 248 8 w (by decide)).mono fun _ _ ⟨he, hb⟩ => ⟨he, hb⟩
def five (a b c d e : Int) : Nat → Value
  | 0 => .int .u8 a
  | 1 => .int .u8 b
  | 2 => .int .u8 c
  | 3 => .int .u8 d
  | _ => .int .u8 e
theorem five_row (w : World) (a b c d e : Int) (t : TypeId) : (w.alloc (.cells #[.int .u8 a, .int .u8 b, .int .u8 c, .int .u8 d, .int .u8 e] t)).rowIs w.heap.size t 5 (five a b c d e) := by
  refine World.rowIs_alloc w _ t _ ?_
  intro i hi
  match i, hi with
  | 0, _ => rfl
  | 1, _ => rfl
  | 2, _ => rfl
  | 3, _ => rfl
  | 4, _ => rfl
theorem get_one (b : Nat) (w : World) (h : w.rowIs b 5 5 (five 0 1 2 3 4)) :
    Calls Try.prog 16 #[.slice (some ⟨b, 0, none⟩) 5 5, .int .i64 1] w fun e w' => e = .returned (.tuple #[.int .u32 67305985, .bool true]) ∧ ∃ k, w' = w.drewN k :=
  (get_yes b 0 5 5 1 1 2 3 4 w (by decide) (by decide) (by decide) ⟨by decide, by decide⟩ ⟨by decide, by decide⟩ ⟨by decide, by decide⟩ ⟨by decide, by decide⟩
    (h.cell (i := 1) (by decide)) (h.cell (i := 2) (by decide)) (h.cell (i := 3) (by decide)) (h.cell (i := 4) (by decide))).mono fun _ _ ⟨he, hb⟩ => ⟨he, hb⟩
theorem set_one (b : Nat) (w : World) (h : w.rowIs b 5 5 (five 0 1 2 3 4)) :
    Calls Try.prog 19 #[.slice (some ⟨b, 0, none⟩) 5 5, .int .i64 0, .int .u32 16909060] w fun e w' => e = .returned (.bool true) ∧ w'.rowIs b 5 5 (five 4 3 2 1 4) ∧ Below b w w' ∧ w'.heap.size = w.heap.size :=
  (set_row b 5 5 5 5 _ 0 16909060 w h (by decide) (by decide) (by decide) (by decide) (by decide) (by decide)).mono fun _ _ ⟨he, hw⟩ => by
    subst hw
    refine ⟨he, (set4_row h _).congr ?_, set4_below (Below.refl _ _) (Nat.le_refl _) _ _, set4_size _ _ _ _⟩
    intro i hi
    match i, hi with
    | 0, _ => rfl
    | 1, _ => rfl
    | 2, _ => rfl
    | 3, _ => rfl
    | 4, _ => rfl
theorem same_one (b c : Nat) (w : World) (h : w.rowIs b 5 5 (five 4 3 2 1 4)) (h' : w.rowIs c 5 5 (five 4 3 2 1 4)) :
    Calls Try.prog 21 #[.slice (some ⟨b, 0, none⟩) 5 5, .slice (some ⟨c, 0, none⟩) 5 5] w fun e w' => e = .returned (.bool true) ∧ ∃ k, w' = w.drewN k :=
  same_row b 0 c 0 5 5 5 (fun j => match j with | 0 => 4 | 1 => 3 | 2 => 2 | 3 => 1 | _ => 4) w (by decide)
    (fun j hj => by
      have e := h.cell hj
      rw [Nat.zero_add, e]
      match j, hj with
      | 0, _ => rfl
      | 1, _ => rfl
      | 2, _ => rfl
      | 3, _ => rfl
      | 4, _ => rfl)
    (fun j hj => by
      have e := h'.cell hj
      rw [Nat.zero_add, e]
      match j, hj with
      | 0, _ => rfl
      | 1, _ => rfl
      | 2, _ => rfl
      | 3, _ => rfl
      | 4, _ => rfl)
theorem bytes_two (b : Nat) (w : World) (hb : b < w.heap.size) (h0 : w.cell? ⟨b, 0, none⟩ = some (.int .u32 1)) (h1 : w.cell? ⟨b, 1, none⟩ = some (.int .u32 2)) :
    Calls Try.prog 22 #[.slice (some ⟨b, 0, none⟩) 2 2] w fun e w' => e = .returned (.slice (some ⟨w.heap.size, 0, none⟩) 8 8) ∧ Below w.heap.size w w' :=
  (bytes_any b 0 2 2 (fun j => match j with | 0 => 1 | _ => 2) w (by decide)
    (fun j hj => by
      match j, hj with
      | 0, _ => decide
      | 1, _ => decide) hb
    (fun j hj => by
      rw [Nat.zero_add]
      match j, hj with
      | 0, _ => exact h0
      | 1, _ => exact h1)).mono fun _ _ ⟨he, _, hb⟩ => ⟨he, hb⟩
set_option maxRecDepth 100000 in
theorem alive_any (w : World) : Calls Try.prog 9 #[] w fun e w' => e = .returned (.bool true) ∧ Below w.heap.size w w' := by
  go_enter Try.func9, Try.ntmps9
  go_wp2_with fail
  refine (get_one _ _ (five_row w 0 1 2 3 4 5)).mono ?_
  rintro e w' ⟨rfl, k, rfl⟩
  have r0 : ((w.alloc (.cells #[.int .u8 0, .int .u8 1, .int .u8 2, .int .u8 3, .int .u8 4] 5)).drewN k).rowIs w.heap.size 5 5 (five 0 1 2 3 4) := five_row w 0 1 2 3 4 5
  have b0 : Below w.heap.size w ((w.alloc (.cells #[.int .u8 0, .int .u8 1, .int .u8 2, .int .u8 3, .int .u8 4] 5)).drewN k) := below_drewN ((Below.refl _ _).alloc (Nat.le_refl _) _) k
  have R0 := Lib.hid r0
  have B0 := Lib.hid b0
  clear r0 b0
  go_wp2_with fail
  refine (set_one _ _ R0.out).mono ?_
  rintro e w1 ⟨rfl, r1, b1, z1⟩
  have B1 := Lib.hid (B0.out.trans b1)
  have R1 := Lib.hid r1
  have z1' : w1.heap.size = w.heap.size + 1 := by rw [z1]; simp
  have Z1 := Lib.hid z1'
  clear B0 R0 r1 b1 z1 z1'
  go_wp2_with fail
  refine (div_one _).mono ?_
  rintro e w2 ⟨rfl, b2⟩
  have q2 : w.heap.size + 1 ≤ w2.heap.size := by have := b2.size; rw [Z1.out] at this; exact this
  have R2 := Lib.hid (R1.out.of_block (b2.block w.heap.size (by rw [Z1.out]; omega)))
  have B2 := Lib.hid (B1.out.trans (b2.mono (by rw [Z1.out]; omega)))
  clear b2 B1 R1 Z1 w1
  go_wp2_with fail
  refine (add_one _).mono ?_
  rintro e w3 ⟨rfl, b3⟩
  have q3 : w2.heap.size + 1 ≤ w3.heap.size := by have := b3.size; simpa using this
  have R3 := Lib.hid ((R2.out.alloc _).of_block (b3.block w.heap.size (by simp; omega)))
  have B3 := Lib.hid ((B2.out.alloc (by omega) _).trans (b3.mono (by simp; omega)))
  have c30 := (b3.cell (p := ⟨w2.heap.size, 0, none⟩) (by simp)).trans (by simp : _ = some (Value.int .u64 0))
  have c31 := (b3.cell (p := ⟨w2.heap.size, 1, none⟩) (by simp)).trans (by simp : _ = some (Value.int .u64 6148914691236517207))
  have C30 := Lib.hid c30
  have C31 := Lib.hid c31
  clear b3 B2 R2 c30 c31
  go_wp2_with fail
  have bv : Below w3.heap.size w3 (w3.alloc (.cells #[.int .u64 1, .int .u64 0] 40)) := (Below.refl _ _).alloc (Nat.le_refl _) _
  have v0 := (bv.cell (p := ⟨w2.heap.size, 0, none⟩) q3).trans C30.out
  have v1 := (bv.cell (p := ⟨w2.heap.size, 1, none⟩) q3).trans C31.out
  have v2 : (w3.alloc (.cells #[.int .u64 1, .int .u64 0] 40)).cell? ⟨w3.heap.size, 0, none⟩ = some (.int .u64 1) := by simp
  have v3 : (w3.alloc (.cells #[.int .u64 1, .int .u64 0] 40)).cell? ⟨w3.heap.size, 1, none⟩ = some (.int .u64 0) := by simp
  have vr := R3.out.alloc (.cells #[.int .u64 1, .int .u64 0] 40)
  have vb := B3.out.alloc (by omega) (.cells #[.int .u64 1, .int .u64 0] 40)
  have vz : (w3.alloc (.cells #[.int .u64 1, .int .u64 0] 40)).heap.size = w3.heap.size + 1 := by simp
  clear bv C30 C31 R3 B3
  revert v0 v1 v2 v3 vr vb vz
  generalize w3.alloc (.cells #[.int .u64 1, .int .u64 0] 40) = V
  intro v0 v1 v2 v3 vr vb vz
  have V0 := Lib.hid v0
  have V1 := Lib.hid v1
  have V2 := Lib.hid v2
  have V3 := Lib.hid v3
  have VR := Lib.hid vr
  have VB := Lib.hid vb
  have VZ : w3.heap.size < V.heap.size := by omega
  clear v0 v1 v2 v3 vr vb vz
  refine (field_one _).mono ?_
  rintro e w4 ⟨rfl, k4, rfl⟩
  go_wp2_with fail
  refine (put_one _).mono ?_
  rintro e w4 ⟨rfl, rfl⟩
  go_wp2_with fail
  refine (ext_one _).mono ?_
  rintro e w4 ⟨rfl, rfl⟩
  go_wp2_with fail
  have h4 : ((V.drewN k4).alloc (.cells #[.int .u8 4, .int .u8 3, .int .u8 2, .int .u8 1, .int .u8 4] 5)).rowIs V.heap.size 5 5 (five 4 3 2 1 4) := five_row (V.drewN k4) 4 3 2 1 4 5
  have g4 : (V.drewN k4).rowIs w.heap.size 5 5 (five 4 3 2 1 4) := VR.out
  have bx : Below V.heap.size V ((V.drewN k4).alloc (.cells #[.int .u8 4, .int .u8 3, .int .u8 2, .int .u8 1, .int .u8 4] 5)) := (below_drewN (Below.refl _ _) k4).alloc (Nat.le_refl _) _
  have BX := Lib.hid bx
  clear bx
  refine (same_one _ _ _ (g4.alloc _) h4).mono ?_
  clear g4 h4
  rintro e w4 ⟨rfl, k5, rfl⟩
  go_wp2_with fail
  refine (mul_one40 _).mono ?_
  rintro e w5 ⟨rfl, b5⟩
  have b6 : Below V.heap.size V w5 := (below_drewN BX.out k5).trans (b5.mono (by simp))
  have u0 := (b6.cell (p := ⟨w2.heap.size, 0, none⟩) (by show w2.heap.size < V.heap.size; omega)).trans V0.out
  have u1 := (b6.cell (p := ⟨w2.heap.size, 1, none⟩) (by show w2.heap.size < V.heap.size; omega)).trans V1.out
  have u2 := (b6.cell (p := ⟨w3.heap.size, 0, none⟩) VZ).trans V2.out
  have u3 := (b6.cell (p := ⟨w3.heap.size, 1, none⟩) VZ).trans V3.out
  have z6 : V.heap.size ≤ w5.heap.size := b6.size
  have B6 := Lib.hid (VB.out.trans (b6.mono (by have := VB.out.size; omega)))
  clear b5 b6 BX V0 V1 V2 V3 VR VB
  go_wp2_with fail
  refine (compare_one _).mono ?_
  rintro e w6 ⟨rfl, b7⟩
  have B7 := Lib.hid (B6.out.trans (b7.mono B6.out.size))
  clear b7 B6 u0 u1 u2 u3
  go_wp2_with fail
  refine (bytes_two _ _ (by simp) (by simp) (by simp)).mono ?_
  rintro e w7 ⟨rfl, b8⟩
  have B8 := Lib.hid ((B7.out.alloc B7.out.size _).trans (b8.mono (by have := B7.out.size; simp; omega)))
  clear b8 B7
  go_wp2
  go_ret
  exact ⟨rfl, B8.out⟩
end Go.Proofs.Ytlbdklkocjlobaa
