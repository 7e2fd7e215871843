/-
  What isa's Encode, Decode and Signed answer, at every argument; the condition: the table of operations lies as the program's text lays it.
-/
import Derived.Test.YtlfhcnpbgbnadaaDoorIsaBase
import Derived.Test.YtlfhcnpbgbnadaaDoorIsaField
namespace Go.Proofs.YtlfhcnpbgbnadaaDoor
open Go.RowKit Isa Nt

theorem bcell {W w1 : World} (hb : Below W.heap.size W w1) : (∀ b o, b < W.heap.size → w1.cell? ⟨b, o, none⟩ = W.cell? ⟨b, o, none⟩) ∧ (∀ b o, b < W.heap.size → w1.frozen? ⟨b, o, none⟩ = W.frozen? ⟨b, o, none⟩) :=
  ⟨fun b o h => hb.cell (p := ⟨b, o, none⟩) h, fun b o h => hb.frozen (p := ⟨b, o, none⟩) h⟩
theorem OpsIn.box {w : World} (h : OpsIn w) (o : Obj) : OpsIn (w.alloc o) := h.kept ((Below.refl _ _).alloc (Nat.le_refl _) _)
theorem OpsIn.drewN {w : World} (h : OpsIn w) (k : Nat) : OpsIn (w.drewN k) := h.kept (below_drewN (Below.refl _ _) k)

/-! ### numbers -/
theorem putN_sum (w a n v : Nat) (h1 : w < 2 ^ a) (h2 : v < 2 ^ n) : putN w a n v = w + v * 2 ^ a := by
  unfold putN
  have h3 : w / 2 ^ (a + n) = 0 := Nat.div_eq_of_lt (Nat.lt_of_lt_of_le h1 (Nat.pow_le_pow_right (by decide) (by omega)))
  rw [Nat.mod_eq_of_lt h2, h3, Nat.zero_mul, Nat.or_zero]
  have := low_or w a v
  rw [Nat.mod_eq_of_lt h1] at this ⊢
  exact this
theorem enc_puts (op a b imm : Nat) (h0 : op < 256) (h1 : a < 16) (h2 : b < 16) (h3 : imm < 65536) :
    ((putN (putN (putN (putN 0 0 8 op) 8 4 a) 12 4 b) 16 16 imm : Nat) : Int) = enc op a b imm := by
  rw [putN_sum 0 0 8 op (by omega) (by omega), putN_sum _ 8 4 a (by omega) (by omega), putN_sum _ 12 4 b (by omega) (by omega), putN_sum _ 16 16 imm (by omega) (by omega)]
  unfold enc
  omega
theorem put1 (a : Int) (w : World) (h2 : 0 ≤ a) (h3 : a < 256) :
    Calls Tryd.prog 34 #[.int .u32 0, .int .i64 0, .int .i64 8, .int .u32 a] w fun e w' => e = .returned (.int .u32 a) ∧ w = w' := by
  obtain ⟨a, rfl⟩ := Int.eq_ofNat_of_zero_le h2
  refine (put_yes 0 0 8 a w (by omega) (by omega) (by omega) (by omega)).mono ?_
  rintro e w' ⟨rfl, rfl⟩
  rw [putN_sum 0 0 8 a (by omega) (by omega)]
  exact ⟨ret_u32 (by omega), rfl⟩
theorem put2 (u a : Int) (w : World) (h0 : 0 ≤ u) (h1 : u < 256) (h2 : 0 ≤ a) (h3 : a < 16) :
    Calls Tryd.prog 34 #[.int .u32 u, .int .i64 8, .int .i64 4, .int .u32 a] w fun e w' => e = .returned (.int .u32 (u + 256 * a)) ∧ w = w' := by
  obtain ⟨u, rfl⟩ := Int.eq_ofNat_of_zero_le h0
  obtain ⟨a, rfl⟩ := Int.eq_ofNat_of_zero_le h2
  refine (put_yes u 8 4 a w (by omega) (by omega) (by omega) (by omega)).mono ?_
  rintro e w' ⟨rfl, rfl⟩
  rw [putN_sum u 8 4 a (by omega) (by omega)]
  exact ⟨ret_u32 (by omega), rfl⟩
theorem put3 (u a : Int) (w : World) (h0 : 0 ≤ u) (h1 : u < 4096) (h2 : 0 ≤ a) (h3 : a < 16) :
    Calls Tryd.prog 34 #[.int .u32 u, .int .i64 12, .int .i64 4, .int .u32 a] w fun e w' => e = .returned (.int .u32 (u + 4096 * a)) ∧ w = w' := by
  obtain ⟨u, rfl⟩ := Int.eq_ofNat_of_zero_le h0
  obtain ⟨a, rfl⟩ := Int.eq_ofNat_of_zero_le h2
  refine (put_yes u 12 4 a w (by omega) (by omega) (by omega) (by omega)).mono ?_
  rintro e w' ⟨rfl, rfl⟩
  rw [putN_sum u 12 4 a (by omega) (by omega)]
  exact ⟨ret_u32 (by omega), rfl⟩
theorem put4w (u a : Int) (w : World) (h0 : 0 ≤ u) (h1 : u < 65536) (h2 : 0 ≤ a) (h3 : a < 65536) :
    Calls Tryd.prog 34 #[.int .u32 u, .int .i64 16, .int .i64 16, .int .u32 a] w fun e w' => e = .returned (.int .u32 (u + 65536 * a)) ∧ w = w' := by
  obtain ⟨u, rfl⟩ := Int.eq_ofNat_of_zero_le h0
  obtain ⟨a, rfl⟩ := Int.eq_ofNat_of_zero_le h2
  refine (put_yes u 16 16 a w (by omega) (by omega) (by omega) (by omega)).mono ?_
  rintro e w' ⟨rfl, rfl⟩
  rw [putN_sum u 16 16 a (by omega) (by omega)]
  exact ⟨ret_u32 (by omega), rfl⟩
theorem encode_no (op a b imm : Int) (w : World) (hO : OpsIn w) (h : right op a b imm = false) :
    Calls Tryd.prog 20 #[.agg #[.int .i64 op, .int .i64 a, .int .i64 b, .int .i64 imm]] w fun e w' => e = .returned (.tuple #[.int .u32 0, .bool false]) ∧ Below w.heap.size w w' := by
  have HO := Lib.hid hO
  clear hO
  go_enter Tryd.func20, Tryd.ntmps20
  go_wp2_with (go_at_call 33; refine (hasW_any _ _ _ _ _ (HO.out.box _)).mono ?_; rintro e w' ⟨rfl, hb⟩)
  go_ret2
  exact ⟨rfl, ((Below.refl _ _).alloc (Nat.le_refl _) _).trans (hb.mono (by simp))⟩
set_option maxHeartbeats 1000000 in
theorem encode_yes (op a b imm : Int) (w : World) (hO : OpsIn w) (h : right op a b imm = true) :
    Calls Tryd.prog 20 #[.agg #[.int .i64 op, .int .i64 a, .int .i64 b, .int .i64 imm]] w fun e w' => e = .returned (.tuple #[.int .u32 (enc op a b imm), .bool true]) ∧ Below w.heap.size w w' := by
  have HO := Lib.hid hO
  clear hO
  obtain ⟨⟨g0, h0⟩, ⟨g1, h1⟩, ⟨g2, h2⟩, ⟨g3, h3⟩⟩ := right_bounds h
  go_enter Tryd.func20, Tryd.ntmps20
  go_wp2_with fail
  refine (hasW_any _ _ _ _ _ (HO.out.box _)).mono ?_
  rintro e w' ⟨rfl, hb⟩
  obtain ⟨hc, hf⟩ := bcell hb
  have HB := Lib.hid hb
  clear hb
  go_wp2_with fail
  refine (put1 _ _ (by omega) (by omega)).mono ?_
  rintro e w1 ⟨rfl, rfl⟩
  go_wp2_with fail
  refine (put2 _ _ _ (by omega) (by omega) (by omega) (by omega)).mono ?_
  rintro e w1 ⟨rfl, rfl⟩
  go_wp2_with fail
  refine (put3 _ _ _ (by omega) (by omega) (by omega) (by omega)).mono ?_
  rintro e w1 ⟨rfl, rfl⟩
  go_wp2_with fail
  refine (put4w _ _ _ (by omega) (by omega) (by omega) (by omega)).mono ?_
  rintro e w1 ⟨rfl, rfl⟩
  go_wp2
  go_ret2
  exact ⟨rfl, ((Below.refl _ _).alloc (Nat.le_refl _) _).trans (HB.out.mono (by simp))⟩
/-- The four numbers of a word. -/
def dOp (v : Int) : Int := v % 256
def dA (v : Int) : Int := v / 256 % 16
def dB (v : Int) : Int := v / 4096 % 16
def dI (v : Int) : Int := v / 65536
theorem fieldW (at' n : Nat) (v : Int) (r : Int) (w : World) (h0 : 0 ≤ v) (h1 : v < 4294967296) (hn : 1 ≤ n) (hn2 : at' + n ≤ 32) (hr : r = ((v.toNat / 2 ^ at' % 2 ^ n : Nat) : Int)) :
    Calls Tryd.prog 32 #[.int .u32 v, .int .i64 at', .int .i64 n] w fun e w' => e = .returned (.int .u32 r) ∧ ∃ k, w' = w.drewN k := by
  obtain ⟨v, rfl⟩ := Int.eq_ofNat_of_zero_le h0
  subst hr
  exact field_yes v at' n w (by omega) (by omega) (by omega) (by omega)
theorem field_op (v : Int) (w : World) (h0 : 0 ≤ v) (h1 : v < 4294967296) :
    Calls Tryd.prog 32 #[.int .u32 v, .int .i64 0, .int .i64 8] w fun e w' => e = .returned (.int .u32 (dOp v)) ∧ ∃ k, w' = w.drewN k :=
  fieldW 0 8 v _ w h0 h1 (by omega) (by omega) (by unfold dOp; omega)
theorem field_a (v : Int) (w : World) (h0 : 0 ≤ v) (h1 : v < 4294967296) :
    Calls Tryd.prog 32 #[.int .u32 v, .int .i64 8, .int .i64 4] w fun e w' => e = .returned (.int .u32 (dA v)) ∧ ∃ k, w' = w.drewN k :=
  fieldW 8 4 v _ w h0 h1 (by omega) (by omega) (by unfold dA; omega)
theorem field_b (v : Int) (w : World) (h0 : 0 ≤ v) (h1 : v < 4294967296) :
    Calls Tryd.prog 32 #[.int .u32 v, .int .i64 12, .int .i64 4] w fun e w' => e = .returned (.int .u32 (dB v)) ∧ ∃ k, w' = w.drewN k :=
  fieldW 12 4 v _ w h0 h1 (by omega) (by omega) (by unfold dB; omega)
theorem field_i (v : Int) (w : World) (h0 : 0 ≤ v) (h1 : v < 4294967296) :
    Calls Tryd.prog 32 #[.int .u32 v, .int .i64 16, .int .i64 16] w fun e w' => e = .returned (.int .u32 (dI v)) ∧ ∃ k, w' = w.drewN k :=
  fieldW 16 16 v _ w h0 h1 (by omega) (by omega) (by unfold dI; omega)
theorem d_bounds (v : Int) (h0 : 0 ≤ v) (h1 : v < 4294967296) : (0 ≤ dOp v ∧ dOp v ≤ 255) ∧ (0 ≤ dA v ∧ dA v ≤ 15) ∧ (0 ≤ dB v ∧ dB v ≤ 15) ∧ (0 ≤ dI v ∧ dI v ≤ 65535) := by
  unfold dOp dA dB dI; omega
def Ins (op a b imm : Int) : Value := .agg #[.int .i64 op, .int .i64 a, .int .i64 b, .int .i64 imm]
/-- Four cells of a block that are known. -/
def Four (w : World) (b : Nat) : Prop := ∀ j, j < 4 → (w.cell? ⟨b, j, none⟩).isSome = true
def wr4 (w : World) (b : Nat) (v0 v1 v2 v3 : Value) : World := (((w.setCell ⟨b, 0, none⟩ v0).setCell ⟨b, 1, none⟩ v1).setCell ⟨b, 2, none⟩ v2).setCell ⟨b, 3, none⟩ v3
theorem wr4_cells {w : World} {b : Nat} (h : Four w b) (v0 v1 v2 v3 : Value) :
    (wr4 w b v0 v1 v2 v3).cell? ⟨b, 0, none⟩ = some v0 ∧ (wr4 w b v0 v1 v2 v3).cell? ⟨b, 1, none⟩ = some v1 ∧ (wr4 w b v0 v1 v2 v3).cell? ⟨b, 2, none⟩ = some v2 ∧ (wr4 w b v0 v1 v2 v3).cell? ⟨b, 3, none⟩ = some v3 := by
  have o : ∀ (W : World) (i j : Nat) (x : Value), i ≠ j → (W.setCell ⟨b, i, none⟩ x).cell? ⟨b, j, none⟩ = W.cell? ⟨b, j, none⟩ := fun W i j x hij => World.cell?_setCell_other W ⟨b, i, none⟩ ⟨b, j, none⟩ x (by simp)
  unfold wr4
  refine ⟨?_, ?_, ?_, ?_⟩
  · rw [o _ 3 0 _ (by decide), o _ 2 0 _ (by decide), o _ 1 0 _ (by decide)]
    exact World.cell?_setCell_same' _ _ _ (h 0 (by decide))
  · rw [o _ 3 1 _ (by decide), o _ 2 1 _ (by decide)]
    exact World.cell?_setCell_same' _ _ _ (by rw [o _ 0 1 _ (by decide)]; exact h 1 (by decide))
  · rw [o _ 3 2 _ (by decide)]
    exact World.cell?_setCell_same' _ _ _ (by rw [o _ 1 2 _ (by decide), o _ 0 2 _ (by decide)]; exact h 2 (by decide))
  · exact World.cell?_setCell_same' _ _ _ (by rw [o _ 2 3 _ (by decide), o _ 1 3 _ (by decide), o _ 0 3 _ (by decide)]; exact h 3 (by decide))
theorem wr4_below {B b : Nat} {a w : World} (h : Below B a w) (hb : B ≤ b) (v0 v1 v2 v3 : Value) : Below B a (wr4 w b v0 v1 v2 v3) :=
  (((h.setCell hb _).setCell hb _).setCell hb _).setCell hb _
theorem four_new (w : World) (v0 v1 v2 v3 : Value) (t : TypeId) : Four (w.alloc (.cells #[v0, v1, v2, v3] t)) w.heap.size := by
  intro j hj
  rw [World.cell?_alloc_new]
  have : j = 0 ∨ j = 1 ∨ j = 2 ∨ j = 3 := by omega
  rcases this with rfl | rfl | rfl | rfl <;> rfl
theorem Four.kept {B b : Nat} {w w' : World} (h : Four w b) (hb : Below B w w') (hlt : b < B) : Four w' b := fun j hj => by
  rw [hb.cell (p := ⟨b, j, none⟩) hlt]; exact h j hj
/-- What Decode answers. -/
def decV (v : Int) : Value := if right (dOp v) (dA v) (dB v) (dI v) = true then .tuple #[.agg #[.int .i64 (dOp v), .int .i64 (dA v), .int .i64 (dB v), .int .i64 (dI v)], .bool true] else .tuple #[.agg #[.int .i64 0, .int .i64 0, .int .i64 0, .int .i64 0], .bool false]
set_option maxHeartbeats 1000000 in
theorem decode_any (v : Int) (w : World) (hO : OpsIn w) (h0 : 0 ≤ v) (h1 : v < 4294967296) :
    Calls Tryd.prog 19 #[.int .u32 v] w fun e w' => e = .returned (decV v) ∧ Below w.heap.size w w' := by
  have HO := Lib.hid hO
  clear hO
  obtain ⟨⟨a0, a1⟩, ⟨b0, b1⟩, ⟨c0, c1⟩, ⟨d0, d1⟩⟩ := d_bounds v h0 h1
  cases hr : right (dOp v) (dA v) (dB v) (dI v)
  all_goals
    go_enter Tryd.func19, Tryd.ntmps19
    go_wp2_with fail
    refine (field_op _ _ h0 h1).mono ?_
    rintro e w1 ⟨rfl, k1, rfl⟩
    go_wp2_with fail
    refine (field_a _ _ h0 h1).mono ?_
    rintro e w1 ⟨rfl, k2, rfl⟩
    go_wp2_with fail
    refine (field_b _ _ h0 h1).mono ?_
    rintro e w1 ⟨rfl, k3, rfl⟩
    go_wp2_with fail
    refine (field_i _ _ h0 h1).mono ?_
    rintro e w1 ⟨rfl, k4, rfl⟩
    go_wp2_with fail
    refine (hasW_any _ _ _ _ _ (((HO.out.box _).drewN _).box _)).mono ?_
    rintro e w' ⟨rfl, hb⟩
    obtain ⟨hc, hf⟩ := bcell hb
    have HB := Lib.hid hb
    clear hb
    go_wp2_with fail
    have F : Four w' w.heap.size := ((four_new w (.int .i64 0) (.int .i64 0) (.int .i64 0) (.int .i64 0) 50).kept (((below_drewN (Below.refl _ _) _).alloc (Nat.le_refl _) _).trans (HB.out.mono (by simp))) (by simp))
    refine bodyPost_ret (v := decV v) (w := wr4 w' w.heap.size _ _ _ _) (by simp [decV, hr, results, Tryd.results19, go_sem, wr4_cells F]) rfl ⟨rfl, ?_⟩
    exact wr4_below (((below_drewN ((Below.refl _ _).alloc (Nat.le_refl _) _) _).alloc (by simp) _).trans (HB.out.mono (by simp; omega))) (Nat.le_refl _) _ _ _ _
/-! ### Signed -/
/-- A number of 16 bits with its sign. -/
def sgn (imm : Int) : Int := if 32768 ≤ imm % 65536 then imm % 65536 - 65536 else imm % 65536
theorem extW (v : Int) (w : World) (h0 : 0 ≤ v) :
    Calls Tryd.prog 60 #[.int .u32 v, .int .i64 16] w fun e w' => e = .returned (.int .u32 (sgn v % 4294967296)) ∧ w = w' := by
  obtain ⟨v, rfl⟩ := Int.eq_ofNat_of_zero_le h0
  refine (ext_yes v 16 w (by omega) (by omega)).mono ?_
  rintro e w' ⟨rfl, rfl⟩
  refine ⟨ret_u32 ?_, rfl⟩
  unfold extN sgn
  split <;> split <;> omega
theorem sgn_bounds (v : Int) : -32768 ≤ sgn v ∧ sgn v ≤ 32767 := by unfold sgn; split <;> omega
theorem signed_any (op a b imm : Int) (w : World) :
    Calls Tryd.prog 51 #[.agg #[.int .i64 op, .int .i64 a, .int .i64 b, .int .i64 imm]] w fun e w' => e = .returned (.int .i64 (sgn imm)) ∧ Below w.heap.size w w' := by
  have hS := sgn_bounds (imm % 4294967296)
  have e1 : sgn (imm % 4294967296) = sgn imm := by unfold sgn; rw [Int.emod_emod_of_dvd _ (by decide)]
  have e2 : wrap64 (wrap32 (sgn (imm % 4294967296) % 4294967296)) = sgn imm := by rw [e1] at hS ⊢; unfold wrap32 wrap64; omega
  have E := Lib.hid e2
  have hb : 0 ≤ imm % 4294967296 := by omega
  clear e1 e2 hS
  go_enter Tryd.func51, Tryd.ntmps51
  go_wp2_with fail
  refine (extW _ _ hb).mono ?_
  rintro e w1 ⟨rfl, rfl⟩
  go_wp2
  go_ret
  exact ⟨congrArg (fun x => Ending.returned (.int .i64 x)) E.out, (Below.refl _ _).alloc (Nat.le_refl _) _⟩
end Go.Proofs.YtlfhcnpbgbnadaaDoor
