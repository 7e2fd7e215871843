/-
  NestAnswers: every Translate, Fetch and Ipa answers what the document's own answers are, and nothing is changed: for every input true, and the input reads as it did; no condition.
-/
import Derived.Test.YtdjglmfilhodlaaNsRefT
namespace Go.Proofs.Ytdjglmfilhodlaa
open Go.ChangeShapes Go.WideShapes Go.ChangeAt Go.RowKit Go.Deep
namespace Ns
open Ph En Wk
theorem mask4 (a : Nat) (ha : a < 4294967296) : a &&& 4294967292 = a / 4 * 4 := by
  apply Nat.eq_of_testBit_eq
  intro i
  have e1 : (4294967292 : Nat) = (2 ^ 30 - 1) <<< 2 := by decide
  have e2 : a / 4 * 4 = (a >>> 2) <<< 2 := by rw [Nat.shiftLeft_eq, Nat.shiftRight_eq_div_pow]
  rw [e1, e2, Nat.testBit_and, Nat.testBit_shiftLeft, Nat.testBit_shiftLeft, Nat.testBit_two_pow_sub_one, Nat.testBit_shiftRight]
  by_cases h2 : i ≥ 2
  · rw [show 2 + (i - 2) = i by omega]
    by_cases h30 : i - 2 < 30
    · simp [h2, h30]
    · have : a.testBit i = false := Nat.testBit_lt_two_pow (Nat.lt_of_lt_of_le ha (Nat.pow_le_pow_right (n := 2) (by decide) (show 32 ≤ i by omega)))
      simp [this]
  · simp [h2]
theorem word_bits (a : Int) (a0 : 0 ≤ a) (a1 : a < 4294967296) : bits .andNot .u32 a 3 = a - a % 4 := by
  obtain ⟨A, rfl⟩ := Int.eq_ofNat_of_zero_le a0
  have h := u32_andNot_nat A 3 (by omega) (by decide)
  rw [show ((3 : Nat) : Int) = 3 from rfl] at h
  rw [h, show 4294967295 - 3 = 4294967292 from rfl, mask4 A (by omega)]
  omega
theorem trans_A (n : Nat) (z : Nat → Int) (root tb va acc : Int) : 0 ≤ (transS n z root tb va acc).A ∧ (transS n z root tb va acc).A ≤ 256 * n + 256 := by
  rcases reach n z root tb va acc with ⟨f, rr, hT, _⟩ | ⟨rr, P, FF, W, X, W', X', B', hT, _, _, _, _, _, f0, f1, _⟩
  · rw [hT]
    simp only
    omega
  · rw [hT]
    simp only
    omega
theorem rtrans_at (rb G n : Nat) (z : Nat → Int) (own tb va acc : Int) (t : Tld) (w : World) (hM : RMem w rb G n z) (v0 : 0 ≤ va) (v1 : va < 4294967296) (k0 : 0 ≤ own) (k1 : own < 4294967296) (hT : transS n z own tb va acc = t) :
    Calls Try.prog 14 #[.pointer (some ⟨rb, 0, none⟩), .int .u32 own, .int .i64 tb, .int .u32 va, .int .i64 acc] w fun e w' => e = .returned (.agg #[.int .i64 t.f.st, .int .i64 t.f.kd, .int .i64 t.r, .int .i64 t.P, .int .u32 t.f.ad, .int .u32 t.A, .bool t.f.tb, .bool t.W, .bool t.X]) ∧ Below w.heap.size w w' := by
  subst hT
  exact rtrans_any rb G n z own tb va acc w hM v0 v1 k0 k1
set_option maxRecDepth 100000 in
theorem eqRTold (t : Tld) (w : World) : (Op.equalIn 10000 33 (.agg #[.int .i64 t.f.st, .int .i64 t.f.kd, .int .i64 t.r, .int .i64 t.P, .int .u32 t.f.ad, .int .u32 t.A, .bool t.f.tb, .bool t.W, .bool t.X]) (.agg #[.int .i64 t.f.st, .int .i64 t.f.kd, .int .i64 t.r, .int .i64 t.P, .int .u32 t.f.ad, .int .u32 t.A, .bool t.f.tb, .bool t.W, .bool t.X])).run Try.prog w = .ok true w := by
  obtain ⟨⟨st, kd, ad, tb⟩, r, P, A, W, X⟩ := t
  have hS : Try.prog.underlying 33 = some (.struct (Try.prog.fieldsOf 33)) := by kernel_rfl
  have u3 := Try.underlying4
  have a3' := Try.isAgg4
  have z3 := Try.sizeOf4
  have u4 := Try.underlying3
  have a4' := Try.isAgg3
  have z4 := Try.sizeOf3
  have u5 := Try.underlying23
  have a5' := Try.isAgg23
  have z5 := Try.sizeOf23
  rw [show (10000 : Nat) = 9999 + 1 from rfl, run_equalIn_struct w 9999 33 _ _ hS (by kernel_rfl)]
  simp only [Program.fieldsOf, Try.underlying33]
  go_simp
end Ns
namespace nestAnswers
open Ph En Wk Ns
set_option maxRecDepth 100000 in
set_option maxHeartbeats 4000000 in
theorem walk (nf : Int) (pa : Option Addr) (len cap : Nat) (x : Puts) (own tb : Int) (pb : Option Addr) (lo cb : Nat) (y : Nat → Nat) (acc : Int) (w : World) (hl : len ≤ maxLen) (hx : PutsIn w.heap.size w pa len x) (k0 : 0 ≤ own) (k1 : own < 4294967296) (hlo : lo ≤ maxLen) (hy : WordsIn w.heap.size w pb lo y) :
    Calls Try.prog 3 #[.int .i64 nf, .slice pa len cap, .int .u32 own, .int .i64 tb, .slice pb lo cb, .int .i64 acc] w fun e w' => e = .returned (.bool true) ∧ Only [] w w' := by
  have HX := Lib.hid hx
  have HY := Lib.hid hy
  unfold maxLen at hlo
  clear hx hy
  go_enter Try.func3, Try.ntmps3
  go_wp2_with fail
  refine (Ns.alive_any _).mono ?_
  rintro e w0 ⟨rfl, O0⟩
  go_wp2_with fail
  refine (Ns.great_any nf pa len cap w0 hl).mono ?_
  rintro e w' ⟨rfl, rfl⟩
  cases hg : Ns.gr nf len
  case true =>
    clear hg
    go_wp2
    go_ret
    exact ⟨rfl, O0⟩
  obtain ⟨g1, g2, h100⟩ := Ns.gr_false hg
  obtain ⟨n, rfl⟩ := Int.eq_ofNat_of_zero_le (show 0 ≤ nf by omega)
  have n1 : 1 ≤ n := by omega
  have n2 : n ≤ 100 := by omega
  by_cases b1 : 60 < lo
  · have d1 : decide ((60 : Int) < (lo : Int)) = true := by simp; omega
    clear hg g1 g2
    go_wp2
    go_ret
    exact ⟨rfl, O0⟩
  have d1 : decide ((60 : Int) < (lo : Int)) = false := by simp; omega
  have lo60 : lo ≤ 60 := by omega
  clear hg g1 g2 b1
  go_wp2_with fail
  refine (Wk.both_wide n pa len cap x w0 n1 n2 (by omega) ((HX.out.kept O0 (by simp)).mono O0.size)).mono ?_
  rintro e w1 ⟨m, F, c, r, G, rfl, hB, hO, hm, hF, hr, hG⟩
  have B1 := Lib.hid hB
  have O1 := Lib.hid (O0.next hO (by simp))
  clear hB hO hm hF hr hG O0 HX d1
  generalize zOf n x len = z at *
  go_wp2_with fail
  refine (clone_any m F n c z w1 B1.out.mem n1).mono ?_
  rintro e w2 ⟨dd, D, cd, rfl, hM, hO, hd, hD⟩
  have N2 := Lib.hid hM
  have B2 := Lib.hid (B1.out.kept hO (by simp) (by simp) (by simp) (by simp))
  have O2 := Lib.hid (O1.out.next hO (by simp))
  clear hM hO hd hD B1 O1
  go_wp2_with fail
  go_loopw [16] (fun i wr => ∃ k : Nat, k ≤ lo ∧ i = .int .i64 k ∧ Ph.Both wr m F n c r G z ∧ Mem wr dd D n cd z ∧ Only [] w wr) (fun i _ => lo - (intOf i).toNat)
  case atStart => exact ⟨0, by omega, rfl, B2.out, N2.out, O2.out⟩
  case round =>
    obtain ⟨k, hk, rfl, hB, hN, hO⟩ := hrel
    have BH := Lib.hid hB
    have NH := Lib.hid hN
    have OH := Lib.hid hO
    clear hB hN hO B2 N2 O2
    by_cases hlt : k < lo
    · obtain ⟨b, off, epa, hbB, hcc⟩ := HY.out.1 (by omega)
      subst epa
      have y1 := HY.out.2 k hlt
      have c0 := (OH.out.cell (World.block_lt_of_cell? w _ (hcc k hlt)) (by simp) _).trans (hcc k hlt)
      obtain ⟨a, ha⟩ : ∃ a : Int, a = y k := ⟨_, rfl⟩
      have a0 : 0 ≤ a := by omega
      have a1 : a < 4294967296 := by omega
      rw [← ha] at c0
      have hki : (k : Int) < lo := by omega
      clear hcc ha y1
      obtain ⟨t1, hT1⟩ : ∃ t, transS n z own tb a acc = t := ⟨_, rfl⟩
      obtain ⟨t2, hT2⟩ : ∃ t, transS n z 0 tb a acc = t := ⟨_, rfl⟩
      have VT : Hid (∀ d os, Calls Try.prog 13 #[.pointer (some ⟨m, 0, none⟩), .int .u32 own, .int .i64 tb, .int .u32 a, .int .i64 acc] (Go.Sort.grow (redrawn wr d) os) fun e w' => e = .returned (.agg #[.int .i64 t1.f.st, .int .i64 t1.f.kd, .int .u32 t1.f.ad, .bool t1.f.tb, .int .i64 t1.r, .int .i64 t1.P, .int .u32 t1.A, .bool t1.W, .bool t1.X]) ∧ Below (Go.Sort.grow (redrawn wr d) os).heap.size (Go.Sort.grow (redrawn wr d) os) w') := Lib.hid fun d os =>
        trans_at m F n c z own tb a acc t1 _ (BH.out.mem.kept (Only.of (below_regrown wr d os) []) (by simp) (by simp)) a0 a1 k0 k1 hT1
      have VI : Hid (∀ d os, Calls Try.prog 15 #[.pointer (some ⟨m, 0, none⟩), .int .i64 tb, .int .u32 a, .int .i64 acc] (Go.Sort.grow (redrawn wr d) os) fun e w' => e = .returned (.agg #[.int .i64 t2.f.st, .int .i64 t2.f.kd, .int .u32 t2.f.ad, .bool t2.f.tb, .int .i64 t2.r, .int .i64 t2.P, .int .u32 t2.A, .bool t2.W, .bool t2.X]) ∧ Below (Go.Sort.grow (redrawn wr d) os).heap.size (Go.Sort.grow (redrawn wr d) os) w') := Lib.hid fun d os =>
        ipa_any m F n c z tb a acc t2 _ (BH.out.mem.kept (Only.of (below_regrown wr d os) []) (by simp) (by simp)) a0 a1 hT2
      have VR : Hid (∀ d os, Calls Try.prog 14 #[.pointer (some ⟨r, 0, none⟩), .int .u32 own, .int .i64 tb, .int .u32 a, .int .i64 acc] (Go.Sort.grow (redrawn wr d) os) fun e w' => e = .returned (.agg #[.int .i64 t1.f.st, .int .i64 t1.f.kd, .int .i64 t1.r, .int .i64 t1.P, .int .u32 t1.f.ad, .int .u32 t1.A, .bool t1.f.tb, .bool t1.W, .bool t1.X]) ∧ Below (Go.Sort.grow (redrawn wr d) os).heap.size (Go.Sort.grow (redrawn wr d) os) w') := Lib.hid fun d os =>
        rtrans_at r G n z own tb a acc t1 _ (BH.out.ref.kept (Only.of (below_regrown wr d os) []) (by simp) (by simp)) a0 a1 k0 k1 hT1
      have VS : Hid (∀ d os, Calls Try.prog 14 #[.pointer (some ⟨r, 0, none⟩), .int .u32 0, .int .i64 tb, .int .u32 a, .int .i64 acc] (Go.Sort.grow (redrawn wr d) os) fun e w' => e = .returned (.agg #[.int .i64 t2.f.st, .int .i64 t2.f.kd, .int .i64 t2.r, .int .i64 t2.P, .int .u32 t2.f.ad, .int .u32 t2.A, .bool t2.f.tb, .bool t2.W, .bool t2.X]) ∧ Below (Go.Sort.grow (redrawn wr d) os).heap.size (Go.Sort.grow (redrawn wr d) os) w') := Lib.hid fun d os =>
        rtrans_at r G n z 0 tb a acc t2 _ (BH.out.ref.kept (Only.of (below_regrown wr d os) []) (by simp) (by simp)) a0 a1 (by decide) (by decide) hT2
      have q1 := fun w => eqRTold t1 w
      have q2 := fun w => eqRTold t2 w
      clear hT1 hT2
      go_wp2_with fail
      have r0 := cell_regrown c0
      refine wp_region_quiet_below (by kernel_rfl) (by kernel_rfl) ?_
      repeat (quiet_step (first | (go_at_call 13; with_reducible exact Calls.regrown_of (VT.out _ _)) | (go_at_call 15; with_reducible exact Calls.regrown_of (VI.out _ _)) | (go_at_call 12; with_reducible exact Calls.regrown_of (of_any t1 _)) | (go_at_call 12; with_reducible exact Calls.regrown_of (of_any t2 _)) | (go_at_call 14; with_reducible exact Calls.regrown_of (VR.out _ _)) | (go_at_call 14; with_reducible exact Calls.regrown_of (VS.out _ _))))
      refine wpQuiet_nil ?_
      intro _ hw'
      obtain ⟨⟨dq, osq⟩, hw''⟩ := hw'
      subst hw''
      have ho := Only.of (below_regrown wr dq osq) []
      have B3 := Lib.hid (BH.out.kept ho (by simp) (by simp) (by simp) (by simp))
      have N3 := Lib.hid (NH.out.kept ho (by simp) (by simp))
      have O3 := Lib.hid (OH.out.next ho (by simp))
      have c3 : (Go.Sort.grow (redrawn wr dq) osq).cell? ⟨b, off + k, none⟩ = some (.int .u32 a) := (ho.cell (World.block_lt_of_cell? wr _ c0) (by simp) _).trans c0
      clear r0 q1 q2 VT VI VR VS BH NH OH c0 ho
      generalize Go.Sort.grow (redrawn wr _) _ = w3 at *
      have tA := trans_A n z own tb a 2
      obtain ⟨t3, hT3⟩ : ∃ t, transS n z own tb a 2 = t := ⟨_, rfl⟩
      rw [hT3] at tA
      have HT3 := Lib.hid hT3
      have A0 : 0 ≤ t3.A := tA.1
      have A1 : t3.A < 4294967296 := by have := tA.2; omega
      obtain ⟨v, hv⟩ : ∃ v, fetchW n z t3 = v := ⟨_, rfl⟩
      have HVV := Lib.hid hv
      clear hT3 hv tA
      go_wp2_with fail
      refine (fetch_at m F n c z own tb a t3 v w3 B3.out.mem a0 a1 k0 k1 HT3.out A0 A1 HVV.out).mono ?_
      rintro e w4 ⟨rfl, b4⟩
      have ho := Only.of b4 []
      have ha := Only.alloc [] w4 (.cells #[.int .i64 t3.f.st, .int .i64 t3.f.kd, .int .u32 t3.f.ad, .bool t3.f.tb, .int .i64 t3.r, .int .i64 t3.P, .int .u32 t3.A, .bool t3.W, .bool t3.X] 38)
      have B5 := Lib.hid ((B3.out.kept ho (by simp) (by simp) (by simp) (by simp)).kept ha (by simp) (by simp) (by simp) (by simp))
      have N5 := Lib.hid ((N3.out.kept ho (by simp) (by simp)).kept ha (by simp) (by simp))
      have O5 := Lib.hid ((O3.out.next ho (by simp)).next ha (by simp))
      have X5 := Lib.hid (nine_new w4 t3 38)
      have d4 := (ho.cell (World.block_lt_of_cell? w3 _ c3) (by simp) (off + k)).trans c3
      have c5 := (ha.cell (World.block_lt_of_cell? w4 _ d4) (by simp) (off + k)).trans d4
      clear B3 N3 O3 c3 ho ha b4 d4
      go_wp2_with fail
      clear c5
      generalize w4.alloc (.cells #[.int .i64 t3.f.st, .int .i64 t3.f.kd, .int .u32 t3.f.ad, .bool t3.f.tb, .int .i64 t3.r, .int .i64 t3.P, .int .u32 t3.A, .bool t3.W, .bool t3.X] 38) = w5 at *
      generalize w4.heap.size = bX at *
      refine (rtrans_at r G n z own tb a 2 t3 w5 B5.out.ref a0 a1 k0 k1 HT3.out).mono ?_
      rintro e w6 ⟨rfl, b6⟩
      have ho := Only.of b6 []
      have ha := Only.alloc [] w6 (.cells #[.int .i64 t3.f.st, .int .i64 t3.f.kd, .int .i64 t3.r, .int .i64 t3.P, .int .u32 t3.f.ad, .int .u32 t3.A, .bool t3.f.tb, .bool t3.W, .bool t3.X] 33)
      have B7 := Lib.hid ((B5.out.kept ho (by simp) (by simp) (by simp) (by simp)).kept ha (by simp) (by simp) (by simp) (by simp))
      have N7 := Lib.hid ((N5.out.kept ho (by simp) (by simp)).kept ha (by simp) (by simp))
      have O7 := Lib.hid ((O5.out.next ho (by simp)).next ha (by simp))
      have X7 := Lib.hid ((X5.out.keptS ho (by simp)).keptS ha (by simp))
      have Y7 := Lib.hid (rnine_new w6 t3 33)
      clear B5 N5 O5 X5 ho ha b6 HT3
      have WB := Lib.hid (word_bits t3.A A0 A1)
      by_cases hk3 : t3.f.kd = 0
      case pos =>
        have dk : (t3.f.kd == 0) = true := by simpa using hk3
        have VV := Lib.hid (show rdw n z (t3.A - t3.A % 4).toNat = v by rw [← HVV.out]; unfold fetchW; rw [if_pos hk3])
        have e1 := Lib.hid (show t3.A - t3.A % 4 = ((t3.A - t3.A % 4).toNat : Nat) by omega)
        have e2 := Lib.hid (show (t3.A - t3.A % 4).toNat < 4294967296 by omega)
        clear hk3
        go_wp2_with fail
        generalize w6.alloc (.cells #[.int .i64 t3.f.st, .int .i64 t3.f.kd, .int .i64 t3.r, .int .i64 t3.P, .int .u32 t3.f.ad, .int .u32 t3.A, .bool t3.f.tb, .bool t3.W, .bool t3.X] 33) = w7 at *
        generalize w6.heap.size = bY at *
        rw [WB.out]
        refine (rword_at r G n (t3.A - t3.A % 4).toNat _ z w7 B7.out.ref e1.out e2.out).mono ?_
        rintro e w8 ⟨rfl, rfl⟩
        rw [VV.out]
        clear e1 e2 VV WB dk HVV
        have q := fun w => eqRTold t3 w
        go_wp2_with fail
        obtain ⟨x0, x1, x2, x3, x4, x5, x6, x7, x8⟩ := X7.out
        obtain ⟨y0, y1, y2, y3, y4, y5, y6, y7, y8⟩ := Y7.out
        have rx0 := cell_regrown x0
        have ry0 := cell_regrown y0
        have rx1 := cell_regrown x1
        have ry1 := cell_regrown y1
        have rx2 := cell_regrown x2
        have ry2 := cell_regrown y2
        have rx3 := cell_regrown x3
        have ry3 := cell_regrown y3
        have rx4 := cell_regrown x4
        have ry4 := cell_regrown y4
        have rx5 := cell_regrown x5
        have ry5 := cell_regrown y5
        have rx6 := cell_regrown x6
        have ry6 := cell_regrown y6
        have rx7 := cell_regrown x7
        have ry7 := cell_regrown y7
        have rx8 := cell_regrown x8
        have ry8 := cell_regrown y8
        refine wp_region_quiet_below (by kernel_rfl) (by kernel_rfl) ?_
        repeat (quiet_step (first | (go_at_call 12; with_reducible exact Calls.regrown_of (of_any t3 _))))
        refine wpQuiet_nil ?_
        intro _ hw'
        obtain ⟨⟨dq, osq⟩, hw''⟩ := hw'
        subst hw''
        have ho := Only.of (below_regrown w7 dq osq) []
        have B8 := Lib.hid (B7.out.kept ho (by simp) (by simp) (by simp) (by simp))
        have N8 := Lib.hid (N7.out.kept ho (by simp) (by simp))
        have O8 := Lib.hid (O7.out.next ho (by simp))
        clear q X7 Y7 B7 N7 O7 x0 x1 x2 x3 x4 x5 x6 x7 x8 y0 y1 y2 y3 y4 y5 y6 y7 y8 ho rx0 ry0 rx1 ry1 rx2 ry2 rx3 ry3 rx4 ry4 rx5 ry5 rx6 ry6 rx7 ry7 rx8 ry8
        go_wp2
        go_roundw
        case rel => exact ⟨k + 1, by omega, by go_num, B8.out, N8.out, O8.out⟩
        case measure => simp [intOf]; omega
      have dk : (t3.f.kd == 0) = false := by simpa using hk3
      have v0 : v = 0 := by rw [← HVV.out]; unfold fetchW; rw [if_neg hk3]
      subst v0
      clear hk3 WB HVV
      go_wp2_with fail
      generalize w6.alloc (.cells #[.int .i64 t3.f.st, .int .i64 t3.f.kd, .int .i64 t3.r, .int .i64 t3.P, .int .u32 t3.f.ad, .int .u32 t3.A, .bool t3.f.tb, .bool t3.W, .bool t3.X] 33) = w7 at *
      generalize w6.heap.size = bY at *
      clear dk
      have q := fun w => eqRTold t3 w
      go_wp2_with fail
      obtain ⟨x0, x1, x2, x3, x4, x5, x6, x7, x8⟩ := X7.out
      obtain ⟨y0, y1, y2, y3, y4, y5, y6, y7, y8⟩ := Y7.out
      have rx0 := cell_regrown x0
      have ry0 := cell_regrown y0
      have rx1 := cell_regrown x1
      have ry1 := cell_regrown y1
      have rx2 := cell_regrown x2
      have ry2 := cell_regrown y2
      have rx3 := cell_regrown x3
      have ry3 := cell_regrown y3
      have rx4 := cell_regrown x4
      have ry4 := cell_regrown y4
      have rx5 := cell_regrown x5
      have ry5 := cell_regrown y5
      have rx6 := cell_regrown x6
      have ry6 := cell_regrown y6
      have rx7 := cell_regrown x7
      have ry7 := cell_regrown y7
      have rx8 := cell_regrown x8
      have ry8 := cell_regrown y8
      refine wp_region_quiet_below (by kernel_rfl) (by kernel_rfl) ?_
      repeat (quiet_step (first | (go_at_call 12; with_reducible exact Calls.regrown_of (of_any t3 _))))
      refine wpQuiet_nil ?_
      intro _ hw'
      obtain ⟨⟨dq, osq⟩, hw''⟩ := hw'
      subst hw''
      have ho := Only.of (below_regrown w7 dq osq) []
      have B8 := Lib.hid (B7.out.kept ho (by simp) (by simp) (by simp) (by simp))
      have N8 := Lib.hid (N7.out.kept ho (by simp) (by simp))
      have O8 := Lib.hid (O7.out.next ho (by simp))
      clear q X7 Y7 B7 N7 O7 x0 x1 x2 x3 x4 x5 x6 x7 x8 y0 y1 y2 y3 y4 y5 y6 y7 y8 ho rx0 ry0 rx1 ry1 rx2 ry2 rx3 ry3 rx4 ry4 rx5 ry5 rx6 ry6 rx7 ry7 rx8 ry8
      go_wp2
      go_roundw
      case rel => exact ⟨k + 1, by omega, by go_num, B8.out, N8.out, O8.out⟩
      case measure => simp [intOf]; omega
    · go_wp2_with fail
      refine (differ_any m F n c dd D cd z z wr BH.out.mem NH.out).mono ?_
      rintro e w5 ⟨pc, cc, rfl, hR, hO⟩
      rw [dl_self]
      have O5 := Lib.hid (OH.out.next hO (by simp))
      clear hR hO BH NH OH
      go_wp2
      go_ret
      exact ⟨rfl, O5.out⟩
set_option maxRecDepth 100000 in
theorem lifted (os : Os) (started : os.Started) (H : Type) (enc : TypeId × Value → H) :
    ReturnsInHanded {} Try.checked os 3 .any (Rows.nestAnswersSpec.pre6 enc Try.prog Try.f3 Rows.nestAnswersRow.domain false) (Rows.nestAnswersSpec.post enc Try.prog Try.f3 false true false false) := by
  refine returnsInHanded_of_change_sized (C := Try.checked) own started (by kernel_rfl) Try.func3
    (ChangeSpec.witness6 (enc := enc) (C := Try.checked) false ⟨#[], #[.int .i64 0, .slice none 0 0, .int .u32 0, .int .i64 0, .slice none 0 0, .int .i64 0], []⟩ 8 (by kernel_rfl) (by kernel_rfl) (by kernel_rfl) (by kernel_rfl)) ?_
  intro W base args ds gs before hval0 hW hcnd hZ0 _
  have hval : ∀ (j : Nat) t v, Try.f3.params[j]? = some t → args[j]? = some v → Value.okWide Try.prog W .any base t v := hval0
  have hZ : ∀ n ∈ DataW.weightsEach Try.prog (Try.f3.params.toList ++ []) (ds ++ gs), n ≤ reachBytes := fun n hn => of_decide_eq_true (List.all_eq_true.1 hZ0 n hn)
  have hW' := hW
  obtain ⟨p, q, hA0, hV, rfl, hfz, hnd⟩ := hW
  have hA : DataW.TrodAll enc Try.prog W 0 (fun _ => true) true Try.f3.params.toList args.toList ds p := hA0
  rw [Try.params3] at hA hval hZ
  obtain ⟨v0, vs0, d0, ds0, p0, q0, hargs, rfl, rfl, h0, r0⟩ := trodAll_cons hA
  obtain ⟨v1, vs1, d1, ds1, p1, q1, rfl, rfl, rfl, h1, r1⟩ := trodAll_cons r0
  obtain ⟨v2, vs2, d2, ds2, p2, q2, rfl, rfl, rfl, h2, r2⟩ := trodAll_cons r1
  obtain ⟨v3, vs3, d3, ds3, p3, q3, rfl, rfl, rfl, h3, r3⟩ := trodAll_cons r2
  obtain ⟨v4, vs4, d4, ds4, p4, q4, rfl, rfl, rfl, h4, r4⟩ := trodAll_cons r3
  obtain ⟨v5, vs5, d5, ds5, p5, q5, rfl, rfl, rfl, h5, r5⟩ := trodAll_cons r4
  obtain ⟨rfl, rfl, rfl⟩ := trodAll_nil r5
  obtain rfl : args = #[v0, v1, v2, v3, v4, v5] := by cases args; simp_all
  obtain ⟨rfl, rfl⟩ := trodVars_none hV
  obtain ⟨x0, rfl, rfl, rfl, w0⟩ := open_int Try.underlying3 (hval 0 3 v0 rfl rfl) h0
  have k1 := h1
  have hz1 : ∀ n ∈ d1.weights Try.prog 22, n ≤ reachBytes := fun n hn => hZ n (by simp only [List.append_nil, DataW.weightsEach, List.mem_append]; exact Or.inr (Or.inl hn))
  obtain ⟨a1, n1, c1, y1, rfl, m1, lt1, z1⟩ := puts_open (hval 1 22 v1 rfl rfl) h1 hz1
  obtain ⟨x2, rfl, rfl, rfl, w2⟩ := open_int Try.underlying23 (hval 2 23 v2 rfl rfl) h2
  obtain ⟨x3, rfl, rfl, rfl, w3⟩ := open_int Try.underlying3 (hval 3 3 v3 rfl rfl) h3
  have k4 := h4
  have hz4 : ∀ n ∈ d4.weights Try.prog 24, n ≤ reachBytes := fun n hn => hZ n (by simp only [List.append_nil, DataW.weightsEach, List.mem_append]; exact Or.inr (Or.inr (Or.inr (Or.inr (Or.inl hn)))))
  obtain ⟨a4, n4, c4, y4, rfl, m4, lt4, z4⟩ := words_open (hval 4 24 v4 rfl rfl) h4 hz4
  obtain ⟨x5, rfl, rfl, rfl, w5⟩ := open_int Try.underlying3 (hval 5 3 v5 rfl rfl) h5
  clear hA0 hval0 hZ0
  refine (walk x0 a1 n1 c1 y1 x2 x3 a4 n4 c4 y4 x5 W m1 z1 (bounds_u32 w2).1 (by have := (bounds_u32 w2).2; omega) m4 z4).mono fun e W' ⟨he, ho⟩ => ?_
  subst he
  have bel : Below W.heap.size W W' := ho.below (Nat.le_refl _) (by simp)
  exact ⟨_, rfl, _, _, _, [], _, [], hW', trodAll_mk1 (shut_bool Try.underlying4 _), (trodAll_cons_mk (shut_int Try.underlying3 w0) (trodAll_cons_mk (Below.trod laidOut (by kernel_rfl) (of_decide_eq_true (by kernel_rfl)) k1 bel lt1) (trodAll_cons_mk (shut_int Try.underlying23 w2) (trodAll_cons_mk (shut_int Try.underlying3 w3) (trodAll_cons_mk (Below.trod laidOut (by kernel_rfl) (of_decide_eq_true (by kernel_rfl)) k4 bel lt4) (trodAll_cons_mk (shut_int Try.underlying3 w5) trodAll_mk0)))))), rfl, bel.frame _, fun h => by cases h⟩
theorem over : Rows.nestAnswersRow.holds Try.pinned (OpenSpec.ofChange Rows.nestAnswersSpec) :=
  OpenClaim.holds_of_wide 3 Try.f3 rfl rfl rfl rfl rfl rfl rfl ⟨rfl, rfl, rfl, rfl, rfl⟩ rfl rfl rfl rfl rfl (by kernel_rfl) Try.func3 (by kernel_rfl)
    (of_decide_eq_true (by kernel_rfl)) (by unfold Func.isWrapper; first | (rw [if_pos (by decide +kernel)]; kernel_rfl) | (rw [if_neg (by decide +kernel)]; exact ⟨rfl, rfl⟩))
    (fun os started H enc _ => lifted os started H enc)
end nestAnswers
/-- The statement. -/
theorem nestAnswers_holds : Rows.NestAnswersSaid := nestAnswers.over
#print axioms nestAnswers_holds
end Go.Proofs.Ytdjglmfilhodlaa
