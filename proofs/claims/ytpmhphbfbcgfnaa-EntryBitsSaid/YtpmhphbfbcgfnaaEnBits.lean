/-
  EntryBits: a word's entry hangs on the bits alone that tell something, and not at all, if it isn't valid: for every input true, and the input reads as it did; no condition.
-/
import Derived.Test.YtpmhphbfbcgfnaaEnOpen
namespace Go.Proofs.Ytpmhphbfbcgfnaa
open Go.ChangeShapes Go.WideShapes Go.ChangeAt Go.RowKit Go.Deep Go.Joins Nt
open En
namespace entryBits
theorem mix_low (v o : Nat) : ((v &&& 16776975) ||| (o &&& 4278190320)) % 16 = v % 16 := by
  apply Nat.eq_of_testBit_eq
  intro i
  rw [show (16 : Nat) = 2 ^ 4 from rfl, Nat.testBit_mod_two_pow, Nat.testBit_mod_two_pow]
  by_cases h : i < 4
  · match i, h with
    | 0, _ => simp [Nat.testBit_or, Nat.testBit_and, show Nat.testBit 16776975 0 = true from rfl, show Nat.testBit 4278190320 0 = false from rfl]
    | 1, _ => simp [Nat.testBit_or, Nat.testBit_and, show Nat.testBit 16776975 1 = true from rfl, show Nat.testBit 4278190320 1 = false from rfl]
    | 2, _ => simp [Nat.testBit_or, Nat.testBit_and, show Nat.testBit 16776975 2 = true from rfl, show Nat.testBit 4278190320 2 = false from rfl]
    | 3, _ => simp [Nat.testBit_or, Nat.testBit_and, show Nat.testBit 16776975 3 = true from rfl, show Nat.testBit 4278190320 3 = false from rfl]
  · simp [h]
theorem mask_bits : ∀ i, i < 16 → Nat.testBit 16776975 (8 + i) = true ∧ Nat.testBit 4278190320 (8 + i) = false := by decide
theorem mix_mid (v o : Nat) : ((v &&& 16776975) ||| (o &&& 4278190320)) / 256 % 65536 = v / 256 % 65536 := by
  apply Nat.eq_of_testBit_eq
  intro i
  rw [show (65536 : Nat) = 2 ^ 16 from rfl, show (256 : Nat) = 2 ^ 8 from rfl, Nat.testBit_mod_two_pow, Nat.testBit_mod_two_pow, Nat.testBit_div_two_pow, Nat.testBit_div_two_pow]
  by_cases h : i < 16
  · obtain ⟨m1, m2⟩ := mask_bits i h
    rw [Nat.add_comm 8 i] at m1 m2
    simp [Nat.testBit_or, Nat.testBit_and, m1, m2]
  · simp [h]
theorem keep_nat (v : Nat) : v &&& 16776975 = 256 * (v / 256 % 65536) + v % 16 := by
  have h : v % 16 < 2 ^ 8 := by omega
  have e : v % 16 + v / 256 % 65536 * 2 ^ 8 = v % 16 ||| v / 256 % 65536 * 2 ^ 8 := by
    have := low_or (v % 16) 8 (v / 256 % 65536)
    rw [Nat.mod_eq_of_lt h] at this
    exact this.symm
  have e2 : 256 * (v / 256 % 65536) + v % 16 = v % 16 + v / 256 % 65536 * 2 ^ 8 := by omega
  rw [e2, e]
  apply Nat.eq_of_testBit_eq
  intro i
  rw [Nat.testBit_or, Nat.testBit_and, Nat.testBit_mul_two_pow, show (65536 : Nat) = 2 ^ 16 from rfl, Nat.testBit_mod_two_pow, show (16 : Nat) = 2 ^ 4 from rfl, Nat.testBit_mod_two_pow, show (256 : Nat) = 2 ^ 8 from rfl, Nat.testBit_div_two_pow]
  by_cases h1 : i < 24
  · have m : Nat.testBit 16776975 i = (decide (i < 4) || decide (8 ≤ i)) := by
      have : ∀ i, i < 24 → Nat.testBit 16776975 i = (decide (i < 4) || decide (8 ≤ i)) := by decide
      exact this i h1
    rw [m]
    by_cases h2 : i < 4
    · have h3 : ¬ 8 ≤ i := by omega
      simp [h2, h3]
    · by_cases h3 : 8 ≤ i
      · have h4 : i - 8 < 16 := by omega
        have h5 : i - 8 + 8 = i := by omega
        simp [h2, h3, h4, h5]
      · simp [h2, h3]
  · have m : Nat.testBit 16776975 i = false := Nat.testBit_lt_two_pow (Nat.lt_of_lt_of_le (show 16776975 < 2 ^ 24 by decide) (Nat.pow_le_pow_right (by decide) (by omega)))
    have h2 : ¬ i < 4 := by omega
    have h4 : ¬ i - 8 < 16 := by omega
    simp [m, h2, h4]
/-- The word that keeps what tells something, and has the other's bits else. -/
def mix (v o : Int) : Int := bits .or .u32 (bits .and .u32 v 16776975) (bits .and .u32 o 4278190320)
theorem mix_all (v o : Int) (h0 : 0 ≤ v) (h1 : v < 4294967296) (g0 : 0 ≤ o) (g1 : o < 4294967296) : 0 ≤ mix v o ∧ mix v o < 4294967296 ∧ mix v o % 16 = v % 16 ∧ mix v o / 256 % 65536 = v / 256 % 65536 ∧ bits .and .u32 v 16776975 = 256 * (v / 256 % 65536) + v % 16 := by
  obtain ⟨v, rfl⟩ := Int.eq_ofNat_of_zero_le h0
  obtain ⟨o, rfl⟩ := Int.eq_ofNat_of_zero_le g0
  have a1 : v &&& 16776975 < 4294967296 := Nat.lt_of_le_of_lt Nat.and_le_right (by decide)
  have a2 : o &&& 4278190320 < 4294967296 := Nat.lt_of_le_of_lt Nat.and_le_right (by decide)
  have e1 : bits .and .u32 (v : Int) 16776975 = ((v &&& 16776975 : Nat) : Int) := u32_and_nat v 16776975 (by omega) (by decide)
  have e2 : bits .and .u32 (o : Int) 4278190320 = ((o &&& 4278190320 : Nat) : Int) := u32_and_nat o 4278190320 (by omega) (by decide)
  have e3 : mix v o = (((v &&& 16776975) ||| (o &&& 4278190320) : Nat) : Int) := by
    unfold mix
    rw [e1, e2, u32_or_nat _ _ a1 a2]
  have l : (v &&& 16776975) ||| (o &&& 4278190320) < 4294967296 := Nat.or_lt_two_pow (n := 32) a1 a2
  have m1 := mix_low v o
  have m2 := mix_mid v o
  have m3 := keep_nat v
  rw [e3, e1]
  refine ⟨by omega, by omega, by omega, by omega, by omega⟩
theorem same (v x : Int) (h : x % 16 = v % 16) (h2 : x / 256 % 65536 = v / 256 % 65536) : dV x = dV v ∧ dW x = dW v ∧ dX x = dX v ∧ dB x = dB v ∧ dF x = dF v := by
  have e0 : x % 2 = v % 2 := by omega
  have e1 : x / 2 % 2 = v / 2 % 2 := by omega
  have e2 : x / 4 % 2 = v / 4 % 2 := by omega
  have e3 : x / 8 % 2 = v / 8 % 2 := by omega
  unfold dV dW dX dB dF
  rw [e0, e1, e2, e3, h2]
  exact ⟨rfl, rfl, rfl, rfl, rfl⟩
theorem b1_bit (c : Int) (h0 : 0 ≤ c) (h1 : c < 2) : b1 (c == 1) = c := by
  by_cases h : c = 1
  · subst h; rfl
  · have : c = 0 := by omega
    subst this; rfl
/-- A valid word's entry. -/
theorem odd (v : Int) (h : v % 2 = 1) : dV v = true ∧ gd (dV v) (dW v) (dX v) (dB v) (dF v) = true ∧ encN (dV v) (dW v) (dX v) (dB v) (dF v) = 256 * (v / 256 % 65536) + v % 16 := by
  have d : dV v = true := by unfold dV; simpa using h
  have f : dF v = v / 256 % 65536 := by unfold dF; rw [if_pos h]
  have g : gd (dV v) (dW v) (dX v) (dB v) (dF v) = true := by unfold gd; rw [d, f]; simp; omega
  refine ⟨d, g, ?_⟩
  unfold encN
  rw [if_pos g]
  have w1 := b1_bit (v / 2 % 2) (by omega) (by omega)
  have w2 := b1_bit (v / 4 % 2) (by omega) (by omega)
  have w3 := b1_bit (v / 8 % 2) (by omega) (by omega)
  have eW : dW v = (v / 2 % 2 == 1) := by unfold dW; rw [show (v % 2 == 1) = true by simpa using h, Bool.true_and]
  have eX : dX v = (v / 4 % 2 == 1) := by unfold dX; rw [show (v % 2 == 1) = true by simpa using h, Bool.true_and]
  have eB : dB v = (v / 8 % 2 == 1) := by unfold dB; rw [show (v % 2 == 1) = true by simpa using h, Bool.true_and]
  unfold lw
  rw [d, eW, eX, eB, f, w1, w2, w3]
  unfold b1
  simp only [if_true]
  omega
/-- A word's entry that isn't valid. -/
theorem even (v : Int) (h : v % 2 = 0) : dV v = false ∧ dW v = false ∧ dX v = false ∧ dB v = false ∧ dF v = 0 := by
  have e : (v % 2 == 1) = false := by simp; omega
  unfold dV dW dX dB dF
  rw [e, if_neg (by omega)]
  exact ⟨rfl, rfl, rfl, rfl, rfl⟩
set_option maxHeartbeats 1000000 in
theorem walk (v o : Int) (w : World) (h0 : 0 ≤ v) (h1 : v < 4294967296) (g0 : 0 ≤ o) (g1 : o < 4294967296) :
    Calls Try.prog 6 #[.int .u32 v, .int .u32 o] w fun e w' => e = .returned (.bool true) ∧ Below w.heap.size w w' := by
  obtain ⟨x0, x1, x2, x3, x4⟩ := mix_all v o h0 h1 g0 g1
  obtain ⟨s0, s1, s2, s3, s4⟩ := same v (mix v o) x2 x3
  have q : ∀ w, (Op.equalIn 10000 23 (.agg #[.bool (dV v), .bool (dW v), .bool (dX v), .bool (dB v), .int .i64 (dF v)]) (.agg #[.bool (dV v), .bool (dW v), .bool (dX v), .bool (dB v), .int .i64 (dF v)])).run Try.prog w = .ok true w := fun w => by
    rw [eqEnt]; simp
  have dm : ∀ w, Calls Try.prog 11 #[.int .u32 (mix v o)] w fun e w' => e = .returned (.agg #[.bool (dV v), .bool (dW v), .bool (dX v), .bool (dB v), .int .i64 (dF v)]) ∧ Below w.heap.size w w' := fun w => by
    have := decode_any (mix v o) w x0 x1
    rwa [s0, s1, s2, s3, s4] at this
  have DM := Lib.hid dm
  have X4 := Lib.hid x4
  clear x0 x1 x2 x3 x4 s0 s1 s2 s3 s4 dm
  go_enter Try.func6, Try.ntmps6
  go_wp2_with fail
  refine (alive_any _).mono ?_
  rintro e w1 ⟨rfl, b1⟩
  have B1 := Lib.hid b1
  clear b1
  go_wp2_with fail
  refine (decode_any v _ h0 h1).mono ?_
  rintro e w2 ⟨rfl, b2⟩
  have B2 := Lib.hid (B1.out.trans (b2.mono B1.out.size))
  clear B1 b2
  go_wp2_with fail
  have H3 := Lib.hid (five_new w2 (dV v) (dW v) (dX v) (dB v) (dF v) 23)
  have B3 := Lib.hid (B2.out.alloc B2.out.size (.cells #[.bool (dV v), .bool (dW v), .bool (dX v), .bool (dB v), .int .i64 (dF v)] 23))
  clear B2
  generalize w2.heap.size = g at *
  generalize w2.alloc (.cells #[.bool (dV v), .bool (dW v), .bool (dX v), .bool (dB v), .int .i64 (dF v)] 23) = w3 at *
  obtain ⟨c0, c1, c2, c3, c4⟩ := H3.out
  have k0 := cell_regrown c0
  have k1 := cell_regrown c1
  have k2 := cell_regrown c2
  have k3 := cell_regrown c3
  have k4 := cell_regrown c4
  refine wp_region_quiet_below (by kernel_rfl) (by kernel_rfl) ?_
  repeat (quiet_step (first | (go_at_call 11; exact Calls.regrown_of (DM.out _))))
  refine wpQuiet_nil ?_
  intro _ hw'
  obtain ⟨⟨dq, osq⟩, hw''⟩ := hw'
  subst hw''
  have hb4 := below_regrown w3 dq osq
  have H4 := Lib.hid (H3.out.kept' hb4)
  have B4 := Lib.hid (B3.out.trans (hb4.mono B3.out.size))
  clear k0 k1 k2 k3 k4 c0 c1 c2 c3 c4 H3 B3 hb4
  generalize Go.Sort.grow (redrawn w3 _) _ = w4 at *
  obtain ⟨c0, c1, c2, c3, c4⟩ := H4.out
  by_cases hv : v % 2 = 0
  · have d : (v % 2 == 0) = true := by simpa using hv
    obtain ⟨e0, e1, e2, e3, e4⟩ := even v hv
    rw [e0] at c0
    rw [e1] at c1
    rw [e2] at c2
    rw [e3] at c3
    rw [e4] at c4
    have q2 : ∀ w, (Op.equalIn 10000 23 (.agg #[.bool false, .bool false, .bool false, .bool false, .int .i64 0]) (.agg #[.bool false, .bool false, .bool false, .bool false, .int .i64 0])).run Try.prog w = .ok true w := fun w => eqEnt false false false false false false false false 0 0 w
    clear q H4 hv e0 e1 e2 e3 e4
    go_wp2
    go_ret
    exact ⟨rfl, B4.out⟩
  · have d : (v % 2 == 0) = false := by simpa using hv
    obtain ⟨o1, o2, o3⟩ := odd v (by omega)
    have O1 := Lib.hid o1
    have O2 := Lib.hid o2
    have O3 := Lib.hid (o3.trans X4.out.symm)
    clear q hv o1 o2 o3
    go_wp2_with fail
    refine (encode_any (dV v) (dW v) (dX v) (dB v) (dF v) _).mono ?_
    rintro e w5 ⟨rfl, b5⟩
    rw [O2.out, O3.out]
    obtain ⟨f0, f1, f2, f3, f4⟩ := H4.out.kept' b5
    have B5 := Lib.hid (B4.out.trans (b5.mono B4.out.size))
    clear c0 c1 c2 c3 c4 H4 B4 b5
    go_wp2_with fail
    refine (allows_any (dV v) (dW v) (dX v) (dB v) (dF v) 0 _).mono ?_
    rintro e w6 ⟨rfl, b6⟩
    have B6 := Lib.hid (B5.out.trans (b6.mono B5.out.size))
    have a0 : alw (dV v) (dW v) (dX v) 0 = true := by unfold alw; rw [O1.out]; rfl
    rw [a0]
    clear a0 b6 f0 f1 f2 f3 f4
    go_wp2
    go_ret
    exact ⟨rfl, B6.out⟩
set_option maxRecDepth 100000 in
theorem lifted (os : Os) (started : os.Started) (H : Type) (enc : TypeId × Value → H) :
    ReturnsInHanded {} Try.checked os 6 .any (Rows.entryBitsSpec.pre6 enc Try.prog Try.f6 Rows.entryBitsRow.domain false) (Rows.entryBitsSpec.post enc Try.prog Try.f6 false true false false) := by
  refine returnsInHanded_of_change_sized (C := Try.checked) own started (by kernel_rfl) Try.func6
    (ChangeSpec.witness6 (enc := enc) (C := Try.checked) false ⟨#[], #[.int .u32 0, .int .u32 0], []⟩ 8 (by kernel_rfl) (by kernel_rfl) (by kernel_rfl) (by kernel_rfl)) ?_
  intro W base args ds gs before hval0 hW hcnd hZ0 _
  have hval : ∀ (j : Nat) t v, Try.f6.params[j]? = some t → args[j]? = some v → Value.okWide Try.prog W .any base t v := hval0
  have hZ : ∀ n ∈ DataW.weightsEach Try.prog (Try.f6.params.toList ++ []) (ds ++ gs), n ≤ reachBytes := fun n hn => of_decide_eq_true (List.all_eq_true.1 hZ0 n hn)
  have hW' := hW
  obtain ⟨p, q, hA0, hV, rfl, hfz, hnd⟩ := hW
  have hA : DataW.TrodAll enc Try.prog W 0 (fun _ => true) true Try.f6.params.toList args.toList ds p := hA0
  rw [Try.params6] at hA hval hZ
  obtain ⟨v0, vs0, d0, ds0, p0, q0, hargs, rfl, rfl, h0, r0⟩ := trodAll_cons hA
  obtain ⟨v1, vs1, d1, ds1, p1, q1, rfl, rfl, rfl, h1, r1⟩ := trodAll_cons r0
  obtain ⟨rfl, rfl, rfl⟩ := trodAll_nil r1
  obtain rfl : args = #[v0, v1] := by cases args; simp_all
  obtain ⟨rfl, rfl⟩ := trodVars_none hV
  obtain ⟨x0, rfl, rfl, rfl, w0⟩ := open_int Try.underlying24 (hval 0 24 v0 rfl rfl) h0
  obtain ⟨x1, rfl, rfl, rfl, w1⟩ := open_int Try.underlying24 (hval 1 24 v1 rfl rfl) h1
  clear hA0 hval0 hZ0
  simp only [List.append_nil] at hW'
  refine (walk x0 x1 W (bounds_u32 w0).1 (by have := (bounds_u32 w0).2; omega) (bounds_u32 w1).1 (by have := (bounds_u32 w1).2; omega)).mono fun e W' ⟨he, ho⟩ => ?_
  subst he
  have bel : Below W.heap.size W W' := ho
  exact ⟨_, rfl, _, _, _, [], [], [], hW', trodAll_mk1 (shut_bool Try.underlying4 _), (trodAll_cons_mk (shut_int Try.underlying24 w0) (trodAll_cons_mk (shut_int Try.underlying24 w1) trodAll_mk0)), rfl, bel.frame _, fun h => by cases h⟩
theorem over : Rows.entryBitsRow.holds Try.pinned (OpenSpec.ofChange Rows.entryBitsSpec) :=
  OpenClaim.holds_of_wide 6 Try.f6 rfl rfl rfl rfl rfl rfl rfl ⟨rfl, rfl, rfl, rfl, rfl⟩ rfl rfl rfl rfl rfl (by kernel_rfl) Try.func6 (by kernel_rfl)
    (of_decide_eq_true (by kernel_rfl)) (by unfold Func.isWrapper; first | (rw [if_pos (by decide +kernel)]; kernel_rfl) | (rw [if_neg (by decide +kernel)]; exact ⟨rfl, rfl⟩))
    (fun os started H enc _ => lifted os started H enc)
end entryBits
/-- The statement. -/
theorem entryBits_holds : Rows.EntryBitsSaid := entryBits.over
#print axioms entryBits_holds
end Go.Proofs.Ytpmhphbfbcgfnaa
