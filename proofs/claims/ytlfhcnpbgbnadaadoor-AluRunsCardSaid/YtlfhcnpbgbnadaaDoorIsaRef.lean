/-
  What the document's own Encode, Decode, Signed and Decimal of layer 2 answer, at every argument; no condition but that each argument is of its Go type.
-/
import Derived.Test.YtlfhcnpbgbnadaaDoorIsaRight
namespace Go.Proofs.YtlfhcnpbgbnadaaDoor
open Go.RowKit Isa Nt

theorem enc_mod {op a b imm : Int} (h : right op a b imm = true) : 0 ≤ enc op a b imm ∧ enc op a b imm < 4294967296 := by
  have := right_bounds h
  unfold enc; omega
theorem ret_u32b' {a b : Int} {c : Bool} (h : a = b) : Ending.returned (.tuple #[.int .u32 a, .bool c]) = .returned (.tuple #[.int .u32 b, .bool c]) := by rw [h]
theorem and255 (v : Int) (h0 : 0 ≤ v) (h1 : v < 4294967296) : bits .and .u32 v 255 = v % 256 := by
  obtain ⟨v, rfl⟩ := Int.eq_ofNat_of_zero_le h0
  rw [show (255 : Int) = ((255 : Nat) : Int) from rfl, u32_and_nat _ _ (by omega) (by omega), show (255 : Nat) = 2 ^ 8 - 1 from rfl, Nat.and_two_pow_sub_one_eq_mod]
  omega
theorem and15 (v : Int) (h0 : 0 ≤ v) (h1 : v < 4294967296) : bits .and .u32 v 15 = v % 16 := by
  obtain ⟨v, rfl⟩ := Int.eq_ofNat_of_zero_le h0
  rw [show (15 : Int) = ((15 : Nat) : Int) from rfl, u32_and_nat _ _ (by omega) (by omega), show (15 : Nat) = 2 ^ 4 - 1 from rfl, Nat.and_two_pow_sub_one_eq_mod]
  omega
set_option maxHeartbeats 1000000 in
theorem rdecode_any (v : Int) (w : World) (h0 : 0 ≤ v) (h1 : v < 4294967296) :
    Calls Tryd.prog 24 #[.int .u32 v] w fun e w' => e = .returned (decV v) ∧ Below w.heap.size w w' := by
  obtain ⟨⟨a0, a1⟩, ⟨b0, b1⟩, ⟨c0, c1⟩, ⟨d0, d1⟩⟩ := d_bounds v h0 h1
  have e1 : bits .and .u32 v 255 = dOp v := and255 v h0 h1
  have e2 : bits .and .u32 (v / 256) 15 = dA v := and15 _ (by omega) (by omega)
  have e3 : bits .and .u32 (v / 4096) 15 = dB v := and15 _ (by omega) (by omega)
  have e4 : v / 65536 = dI v := rfl
  cases hr : right (dOp v) (dA v) (dB v) (dI v)
  all_goals
    go_enter Tryd.func24, Tryd.ntmps24
    go_wp2_with fail
    refine (rright_any _ _ _ _ _).mono ?_
    rintro e w' ⟨rfl, hb⟩
    obtain ⟨hc, hf⟩ := bcell hb
    have HB := Lib.hid hb
    clear hb
    go_wp2
    have F : Four w' w.heap.size := ((four_new w (.int .i64 0) (.int .i64 0) (.int .i64 0) (.int .i64 0) 59).kept (((Below.refl _ _).alloc (Nat.le_refl _) _).trans (HB.out.mono (by simp))) (by simp))
    refine bodyPost_ret (v := decV v) (w := wr4 w' w.heap.size _ _ _ _) (by simp [decV, hr, results, Tryd.results24, go_sem, wr4_cells F]) rfl ⟨rfl, ?_⟩
    exact wr4_below (((((Below.refl _ _).alloc (Nat.le_refl _) _)).alloc (by simp) _).trans (HB.out.mono (by simp; omega))) (Nat.le_refl _) _ _ _ _
theorem rfield16 (v : Int) (w : World) (h0 : 0 ≤ v) (h1 : v < 4294967296) :
    Calls Tryd.prog 40 #[.int .u32 v, .int .i64 0, .int .i64 16] w fun e w' => e = .returned (.int .u32 (v % 65536)) ∧ w = w' := by
  obtain ⟨v, rfl⟩ := Int.eq_ofNat_of_zero_le h0
  refine (rfield_yes v 0 16 w (by omega) (by omega) (by omega) (by omega)).mono ?_
  rintro e w' ⟨rfl, rfl⟩
  exact ⟨ret_u32 (by unfold fieldN; omega), rfl⟩
theorem rsigned_any (op a b imm : Int) (w : World) :
    Calls Tryd.prog 25 #[.agg #[.int .i64 op, .int .i64 a, .int .i64 b, .int .i64 imm]] w fun e w' => e = .returned (.int .i64 (sgn imm)) ∧ Below w.heap.size w w' := by
  have e1 : imm % 4294967296 % 65536 = imm % 65536 := by omega
  have hb : 0 ≤ imm % 4294967296 := by omega
  have hb1 : imm % 4294967296 < 4294967296 := by omega
  have hc0 : 0 ≤ imm % 65536 := by omega
  have hc1 : imm % 65536 < 65536 := by omega
  by_cases hs : 32767 < imm % 65536
  · have S := Lib.hid (show sgn imm = imm % 65536 - 65536 by unfold sgn; rw [if_pos (by omega)])
    have d : decide (32767 < imm % 65536) = true := by simpa using hs
    go_enter Tryd.func25, Tryd.ntmps25
    go_wp2_with (go_at_call 40; refine (rfield16 _ _ hb hb1).mono ?_; rintro e w' ⟨rfl, rfl⟩)
    go_ret
    exact ⟨by rw [S.out]; rfl, (Below.refl _ _).alloc (Nat.le_refl _) _⟩
  · have S := Lib.hid (show sgn imm = imm % 65536 by unfold sgn; rw [if_neg (by omega)])
    have d : decide (32767 < imm % 65536) = false := by simpa using hs
    go_enter Tryd.func25, Tryd.ntmps25
    go_wp2_with (go_at_call 40; refine (rfield16 _ _ hb hb1).mono ?_; rintro e w' ⟨rfl, rfl⟩)
    go_ret
    exact ⟨by rw [S.out]; rfl, (Below.refl _ _).alloc (Nat.le_refl _) _⟩
/-- A digit. -/
def digB (x : Int) : List UInt8 := [UInt8.ofNat (48 + x.toNat)]
theorem dec_step (n : Nat) (h : ¬ n < 10) : Lib.decDigits n = Lib.decDigits (n / 10) ++ [UInt8.ofNat (48 + n % 10)] := by
  conv => lhs; rw [Lib.decDigits]
  rw [dif_neg h]
theorem dec_size (n : Nat) (h : n ≤ 9223372036854775807) : (bs (Lib.decDigits n)).size ≤ 21 := by
  rw [bs_size]
  have := Lib.itoa_length_le n (by omega) (by omega)
  unfold Lib.itoa at this
  rw [if_neg (by omega), Int.toNat_natCast] at this
  exact this
end Go.Proofs.YtlfhcnpbgbnadaaDoor
