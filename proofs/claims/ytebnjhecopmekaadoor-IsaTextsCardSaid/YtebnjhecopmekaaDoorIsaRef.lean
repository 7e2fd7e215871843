/-
  What the document's own Encode, Decode, Signed and Decimal of layer 2 answer, at every argument; no condition but that each argument is of its Go type.
-/
import Derived.Test.YtebnjhecopmekaaDoorIsaRight
namespace Go.Proofs.YtebnjhecopmekaaDoor
open Go.RowKit Isa Nt

theorem rencode_no (op a b imm : Int) (w : World) (h : right op a b imm = false) :
    Calls Tryd.prog 10 #[.agg #[.int .i64 op, .int .i64 a, .int .i64 b, .int .i64 imm]] w fun e w' => e = .returned (.tuple #[.int .u32 0, .bool false]) ∧ Below w.heap.size w w' := by
  go_enter Tryd.func10, Tryd.ntmps10
  go_wp2_with (go_at_call 26; refine (rright_any _ _ _ _ _).mono ?_; rintro e w' ⟨rfl, hb⟩)
  go_ret2
  exact ⟨rfl, ((Below.refl _ _).alloc (Nat.le_refl _) _).trans (hb.mono (by simp))⟩
theorem enc_mod {op a b imm : Int} (h : right op a b imm = true) : 0 ≤ enc op a b imm ∧ enc op a b imm < 4294967296 := by
  have := right_bounds h
  unfold enc; omega
theorem ret_u32b' {a b : Int} {c : Bool} (h : a = b) : Ending.returned (.tuple #[.int .u32 a, .bool c]) = .returned (.tuple #[.int .u32 b, .bool c]) := by rw [h]
set_option maxHeartbeats 1000000 in
theorem rencode_yes (op a b imm : Int) (w : World) (h : right op a b imm = true) :
    Calls Tryd.prog 10 #[.agg #[.int .i64 op, .int .i64 a, .int .i64 b, .int .i64 imm]] w fun e w' => e = .returned (.tuple #[.int .u32 (enc op a b imm), .bool true]) ∧ Below w.heap.size w w' := by
  obtain ⟨⟨g0, h0⟩, ⟨g1, h1⟩, ⟨g2, h2⟩, ⟨g3, h3⟩⟩ := right_bounds h
  go_enter Tryd.func10, Tryd.ntmps10
  go_wp2_with fail
  refine (rright_any _ _ _ _ _).mono ?_
  rintro e w' ⟨rfl, hb⟩
  obtain ⟨hc, hf⟩ := bcell hb
  have HB := Lib.hid hb
  clear hb
  go_wp2
  go_ret2
  exact ⟨rfl, ((Below.refl _ _).alloc (Nat.le_refl _) _).trans (HB.out.mono (by simp))⟩
theorem and255 (v : Int) (h0 : 0 ≤ v) (h1 : v < 4294967296) : bits .and .u32 v 255 = v % 256 := by
  obtain ⟨v, rfl⟩ := Int.eq_ofNat_of_zero_le h0
  rw [show (255 : Int) = ((255 : Nat) : Int) from rfl, u32_and_nat _ _ (by omega) (by omega), show (255 : Nat) = 2 ^ 8 - 1 from rfl, Nat.and_two_pow_sub_one_eq_mod]
  omega
theorem and15 (v : Int) (h0 : 0 ≤ v) (h1 : v < 4294967296) : bits .and .u32 v 15 = v % 16 := by
  obtain ⟨v, rfl⟩ := Int.eq_ofNat_of_zero_le h0
  rw [show (15 : Int) = ((15 : Nat) : Int) from rfl, u32_and_nat _ _ (by omega) (by omega), show (15 : Nat) = 2 ^ 4 - 1 from rfl, Nat.and_two_pow_sub_one_eq_mod]
  omega
set_option maxHeartbeats 1000000 in
theorem rdecode_any (v : Int) (w : World) (h0 : 0 ≤ v) (h1 : v < 4294967296) :
    Calls Tryd.prog 13 #[.int .u32 v] w fun e w' => e = .returned (decV v) ∧ Below w.heap.size w w' := by
  obtain ⟨⟨a0, a1⟩, ⟨b0, b1⟩, ⟨c0, c1⟩, ⟨d0, d1⟩⟩ := d_bounds v h0 h1
  have e1 : bits .and .u32 v 255 = dOp v := and255 v h0 h1
  have e2 : bits .and .u32 (v / 256) 15 = dA v := and15 _ (by omega) (by omega)
  have e3 : bits .and .u32 (v / 4096) 15 = dB v := and15 _ (by omega) (by omega)
  have e4 : v / 65536 = dI v := rfl
  cases hr : right (dOp v) (dA v) (dB v) (dI v)
  all_goals
    go_enter Tryd.func13, Tryd.ntmps13
    go_wp2_with fail
    refine (rright_any _ _ _ _ _).mono ?_
    rintro e w' ⟨rfl, hb⟩
    obtain ⟨hc, hf⟩ := bcell hb
    have HB := Lib.hid hb
    clear hb
    go_wp2
    have F : Four w' w.heap.size := ((four_new w (.int .i64 0) (.int .i64 0) (.int .i64 0) (.int .i64 0) 29).kept (((Below.refl _ _).alloc (Nat.le_refl _) _).trans (HB.out.mono (by simp))) (by simp))
    refine bodyPost_ret (v := decV v) (w := wr4 w' w.heap.size _ _ _ _) (by simp [decV, hr, results, Tryd.results13, go_sem, wr4_cells F]) rfl ⟨rfl, ?_⟩
    exact wr4_below (((((Below.refl _ _).alloc (Nat.le_refl _) _)).alloc (by simp) _).trans (HB.out.mono (by simp; omega))) (Nat.le_refl _) _ _ _ _
theorem rfield16 (v : Int) (w : World) (h0 : 0 ≤ v) (h1 : v < 4294967296) :
    Calls Tryd.prog 34 #[.int .u32 v, .int .i64 0, .int .i64 16] w fun e w' => e = .returned (.int .u32 (v % 65536)) ∧ w = w' := by
  obtain ⟨v, rfl⟩ := Int.eq_ofNat_of_zero_le h0
  refine (rfield_yes v 0 16 w (by omega) (by omega) (by omega) (by omega)).mono ?_
  rintro e w' ⟨rfl, rfl⟩
  exact ⟨ret_u32 (by unfold fieldN; omega), rfl⟩
theorem rsigned_any (op a b imm : Int) (w : World) :
    Calls Tryd.prog 17 #[.agg #[.int .i64 op, .int .i64 a, .int .i64 b, .int .i64 imm]] w fun e w' => e = .returned (.int .i64 (sgn imm)) ∧ Below w.heap.size w w' := by
  have e1 : imm % 4294967296 % 65536 = imm % 65536 := by omega
  have hb : 0 ≤ imm % 4294967296 := by omega
  have hb1 : imm % 4294967296 < 4294967296 := by omega
  have hc0 : 0 ≤ imm % 65536 := by omega
  have hc1 : imm % 65536 < 65536 := by omega
  by_cases hs : 32767 < imm % 65536
  · have S := Lib.hid (show sgn imm = imm % 65536 - 65536 by unfold sgn; rw [if_pos (by omega)])
    have d : decide (32767 < imm % 65536) = true := by simpa using hs
    go_enter Tryd.func17, Tryd.ntmps17
    go_wp2_with (go_at_call 34; refine (rfield16 _ _ hb hb1).mono ?_; rintro e w' ⟨rfl, rfl⟩)
    go_ret
    exact ⟨by rw [S.out]; rfl, (Below.refl _ _).alloc (Nat.le_refl _) _⟩
  · have S := Lib.hid (show sgn imm = imm % 65536 by unfold sgn; rw [if_neg (by omega)])
    have d : decide (32767 < imm % 65536) = false := by simpa using hs
    go_enter Tryd.func17, Tryd.ntmps17
    go_wp2_with (go_at_call 34; refine (rfield16 _ _ hb hb1).mono ?_; rintro e w' ⟨rfl, rfl⟩)
    go_ret
    exact ⟨by rw [S.out]; rfl, (Below.refl _ _).alloc (Nat.le_refl _) _⟩
theorem of_any (op a b imm : Int) (w : World) :
    Calls Tryd.prog 11 #[.agg #[.int .i64 op, .int .i64 a, .int .i64 b, .int .i64 imm]] w fun e w' => e = .returned (.agg #[.int .i64 op, .int .i64 a, .int .i64 b, .int .i64 imm]) ∧ Below w.heap.size w w' := by
  go_enter Tryd.func11, Tryd.ntmps11
  go_wp2
  refine bodyPost_ret (v := .agg #[.int .i64 op, .int .i64 a, .int .i64 b, .int .i64 imm]) (by simp [results, Tryd.results11, go_sem]) rfl ⟨rfl, ?_⟩
  exact ((Below.refl _ _).alloc (Nat.le_refl _) _).alloc (by simp) _
/-- A digit. -/
def digB (x : Int) : List UInt8 := [UInt8.ofNat (48 + x.toNat)]
theorem dig_conv (w : World) (x : Int) (h0 : 0 ≤ x) (h1 : x < 10) :
    (convert 43 9 (.slice (some ⟨w.heap.size, 0, none⟩) 1 1)).run Tryd.prog (w.alloc (.cells #[.int .u8 (48 + x)] 5)) = .ok (.string (bs (digB x))) (w.alloc (.cells #[.int .u8 (48 + x)] 5)) := by
  refine run_convert_bytes_back _ 43 9 5 ⟨w.heap.size, 0, none⟩ 1 [UInt8.ofNat (48 + x.toNat)] Tryd.underlying43 Tryd.underlying5 Tryd.underlying9 ?_
  intro j hj
  have hj0 : j = 0 := by simp at hj; omega
  subst hj0
  show (w.alloc (.cells #[.int .u8 (48 + x)] 5)).cell? ⟨w.heap.size, 0, none⟩ = _
  rw [World.cell?_alloc_new]
  simp only [List.getElem_cons_zero, dig_nat x.toNat (by omega)]
  show some (Value.int .u8 (48 + x)) = _
  congr 2
  omega
set_option maxRecDepth 100000 in
theorem dec_small (n : Nat) (w : World) (h : n < 10) :
    Calls Tryd.prog 32 #[.int .i64 n] w fun e w' => e = .returned (.string (bs (Lib.decDigits n))) ∧ Below w.heap.size w w' := by
  have d0 : ((n : Int) == -9223372036854775808) = false := by simp
  have d1 : decide ((n : Int) < 0) = false := by simp
  have d2 : decide ((n : Int) < 10) = true := by simp; omega
  have m0 : 0 ≤ (n : Int) % 10 := by omega
  have m1 : (n : Int) % 10 < 10 := by omega
  have hcv := dig_conv w ((n : Int) % 10) m0 m1
  have E := Lib.hid (show bs (digB ((n : Int) % 10)) = bs (Lib.decDigits n) by rw [Lib.decDigits_one h, digB, show ((n : Int) % 10).toNat = n by omega])
  go_enter Tryd.func32, Tryd.ntmps32
  go_wp2
  go_ret
  exact ⟨ret_str E.out, (Below.refl _ _).alloc (Nat.le_refl _) _⟩
theorem dec_step (n : Nat) (h : ¬ n < 10) : Lib.decDigits n = Lib.decDigits (n / 10) ++ [UInt8.ofNat (48 + n % 10)] := by
  conv => lhs; rw [Lib.decDigits]
  rw [dif_neg h]
theorem dec_size (n : Nat) (h : n ≤ 9223372036854775807) : (bs (Lib.decDigits n)).size ≤ 21 := by
  rw [bs_size]
  have := Lib.itoa_length_le n (by omega) (by omega)
  unfold Lib.itoa at this
  rw [if_neg (by omega), Int.toNat_natCast] at this
  exact this
set_option maxRecDepth 100000 in
theorem dec_nat (m : Nat) : ∀ (n : Nat) (w : World), n ≤ m → n ≤ 9223372036854775807 →
    Calls Tryd.prog 32 #[.int .i64 n] w fun e w' => e = .returned (.string (bs (Lib.decDigits n))) ∧ Below w.heap.size w w' := by
  induction m with
  | zero => intro n w h1 h2; exact dec_small n w (by omega)
  | succ m ih =>
    intro n w h1 h2
    by_cases h : n < 10
    · exact dec_small n w h
    · have d0 : ((n : Int) == -9223372036854775808) = false := by simp
      have d1 : decide ((n : Int) < 0) = false := by simp
      have d2 : decide ((n : Int) < 10) = false := by simp; omega
      have m0 : 0 ≤ (n : Int) % 10 := by omega
      have m1 : (n : Int) % 10 < 10 := by omega
      have hcv := dig_conv w ((n : Int) % 10) m0 m1
      have hq := ih (n / 10) (w.alloc (.cells #[.int .u8 (48 + (n : Int) % 10)] 5)) (by omega) (by omega)
      have eq : ((n / 10 : Nat) : Int) = (n : Int) / 10 := by omega
      rw [eq] at hq
      have hs := dec_size (n / 10) (by omega)
      have hs2 : (bs (digB ((n : Int) % 10))).size ≤ 1 := by rw [bs_size]; simp [digB]
      have E := Lib.hid (show bs (Lib.decDigits (n / 10)) ++ bs (digB ((n : Int) % 10)) = bs (Lib.decDigits n) by rw [bs_append, dec_step n h, digB, show ((n : Int) % 10).toNat = n % 10 by omega])
      have HQ := Lib.hid hq
      clear hq ih eq
      go_enter Tryd.func32, Tryd.ntmps32
      go_wp2_with fail
      refine HQ.out.mono ?_
      rintro e w' ⟨rfl, hb⟩
      go_wp2
      go_ret
      exact ⟨ret_str E.out, ((Below.refl _ _).alloc (Nat.le_refl _) _).trans (hb.mono (by simp))⟩
set_option maxRecDepth 100000 in
theorem dec_any (n : Int) (w : World) (h0 : -9223372036854775807 ≤ n) (h1 : n ≤ 9223372036854775807) :
    Calls Tryd.prog 32 #[.int .i64 n] w fun e w' => e = .returned (.string (bs (Lib.itoa n))) ∧ Below w.heap.size w w' := by
  by_cases hn : 0 ≤ n
  · obtain ⟨n, rfl⟩ := Int.eq_ofNat_of_zero_le hn
    have : Lib.itoa n = Lib.decDigits n := by unfold Lib.itoa; rw [if_neg (by omega), Int.toNat_natCast]
    rw [this]
    exact dec_nat n n w (Nat.le_refl _) (by omega)
  · obtain ⟨m, hm⟩ := Int.eq_ofNat_of_zero_le (show 0 ≤ -n by omega)
    obtain rfl : n = -(m : Int) := by omega
    have E := Lib.hid (show bs [45] ++ bs (Lib.decDigits m) = bs (Lib.itoa (-(m : Int))) by
      rw [bs_append]; unfold Lib.itoa; rw [if_pos (by omega)]; simp)
    have d0 : ((-(m : Int)) == -9223372036854775808) = false := by simp; omega
    have d1 : decide (-(m : Int) < 0) = true := by simp; omega
    have hs := dec_size m (by omega)
    have HQ := Lib.hid (dec_nat m m w (Nat.le_refl _) (by omega))
    go_enter Tryd.func32, Tryd.ntmps32
    go_wp2_with fail
    refine HQ.out.mono ?_
    rintro e w' ⟨rfl, hb⟩
    go_wp2
    go_ret
    exact ⟨ret_str E.out, hb⟩
end Go.Proofs.YtebnjhecopmekaaDoor
