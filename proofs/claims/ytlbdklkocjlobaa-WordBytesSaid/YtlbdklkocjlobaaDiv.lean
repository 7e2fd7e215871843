/-
  What math/bits.Div64 and word.Div answer, at every argument; no condition but that each argument is of its Go type (Div64: that the divisor is above the high word).
-/
import Derived.Test.YtlbdklkocjlobaaRows
import Derived.Test.YtlbdklkocjlobaaWide
import Derived.Test.YtlbdklkocjlobaaLz
import Derived.Test.YtlbdklkocjlobaaDivNum
import Derived.Deep.QuietTactic
import Derived.BigQuiet
import Derived.Deep.DeepCutAuto
import Derived.Deep.CutBlock
namespace Go.Proofs.Ytlbdklkocjlobaa
open Go.RowKit Dv
theorem div64_zero (lo y : Int) (w : World) (h1 : W64 lo) (h2 : W64 y) (h : 1 ≤ y) :
    Calls Try.prog 40 #[.int .u64 0, .int .u64 lo, .int .u64 y] w fun e w' => e = .returned (.tuple #[.int .u64 (lo / y), .int .u64 (lo % y)]) ∧ ∃ k, w' = w.drewN k := by
  obtain ⟨a1, a2⟩ := h1
  obtain ⟨b1, b2⟩ := h2
  have c1 : (y == 0) = false := by simp; omega
  have c2 : decide (y ≤ 0) = false := by simp; omega
  go_enter Try.func40, Try.ntmps40
  go_wp2
  go_quiet (fail)
  go_wp2
  go_ret2
  exact ⟨rfl, _, rfl⟩
theorem pow_pos (s : Nat) : (1 : Int) ≤ 2 ^ s := by
  have : ((2 : Int) ^ s) = ((2 ^ s : Nat) : Int) := by push_cast; rfl
  have := Nat.two_pow_pos s
  omega
theorem pow_64 (s : Nat) (h : s ≤ 63) : (2 : Int) ^ (64 - s) * 2 ^ s = 18446744073709551616 := by
  rw [← Int.pow_add, show 64 - s + s = 64 by omega]
  rfl
/-- The high word, and what the low one hands up. -/
theorem up_eq (hi lo : Int) (s : Nat) (h0 : W64 hi) (h1 : W64 lo) (hs : s ≤ 63) (hb : hi * 2 ^ s < 18446744073709551616) :
    bits .or .u64 (hi * 2 ^ s) (lo / 2 ^ (64 - s)) = hi * 2 ^ s + lo / 2 ^ (64 - s) ∧ 0 ≤ lo / 2 ^ (64 - s) ∧ lo / 2 ^ (64 - s) < 2 ^ s := by
  obtain ⟨p1, p2⟩ := h0
  obtain ⟨a1, a2⟩ := h1
  have hP := pow_pos s
  have hQ := pow_pos (64 - s)
  have e64 := pow_64 s hs
  have l0 : 0 ≤ lo / 2 ^ (64 - s) := Int.ediv_nonneg a1 (by omega)
  have l1 : lo / 2 ^ (64 - s) < 2 ^ s := Int.ediv_lt_of_lt_mul (by omega) (by rw [Int.mul_comm, e64]; exact a2)
  refine ⟨?_, l0, l1⟩
  have m0 : 0 ≤ hi * 2 ^ s := Int.mul_nonneg p1 (by omega)
  obtain ⟨H, rfl⟩ := Int.eq_ofNat_of_zero_le p1
  obtain ⟨L, hL⟩ := Int.eq_ofNat_of_zero_le l0
  rw [hL] at l1 ⊢
  have c1 : (H : Int) * 2 ^ s = ((H * 2 ^ s : Nat) : Int) := by push_cast; rfl
  have c2 : (2 : Int) ^ s = ((2 ^ s : Nat) : Int) := by push_cast; rfl
  rw [c1] at hb ⊢
  rw [c2] at l1
  have c3 : 2 ^ s ≤ 2 ^ 63 := Nat.pow_le_pow_right (by decide) hs
  rw [u64_or_nat _ _ (by omega) (by omega), nat_join s (H * 2 ^ s) L (Nat.mul_mod_left _ _) (by omega)]
  omega
theorem down_eq (hi lo : Int) (s : Nat) (hs : s ≤ 63) :
    (hi * 18446744073709551616 + lo) * 2 ^ s = (hi * 2 ^ s + lo / 2 ^ (64 - s)) * 18446744073709551616 + lo * 2 ^ s % 18446744073709551616 := by
  have hP := pow_pos s
  have e64 := pow_64 s hs
  have e1 : lo * 2 ^ s / 18446744073709551616 = lo / 2 ^ (64 - s) := by
    rw [← e64, Int.mul_ediv_mul_of_pos_left _ _ (by omega)]
  have e2 : lo * 2 ^ s = lo * 2 ^ s / 18446744073709551616 * 18446744073709551616 + lo * 2 ^ s % 18446744073709551616 := by omega
  rw [e1] at e2
  rw [Int.add_mul, Int.add_mul, Int.mul_right_comm]
  omega
/-- What is laid out ahead of the first loop. -/
theorem laid (hi lo y : Int) (s : Nat) (h0 : W64 hi) (h1 : W64 lo) (h : hi < y) (hs : s ≤ 63) (s2 : 9223372036854775808 ≤ y * 2 ^ s) (s3 : y * 2 ^ s < 18446744073709551616) :
    ∃ y1 y0 un u1 u0 : Int, y * 2 ^ s / 4294967296 = y1 ∧ bits .and .u64 (y * 2 ^ s) 4294967295 = y0 ∧ bits .or .u64 (hi * 2 ^ s) (lo / 2 ^ (64 - s)) = un ∧
      IntKind.u64.wrap (lo * 2 ^ s) / 4294967296 = u1 ∧ bits .and .u64 (IntKind.u64.wrap (lo * 2 ^ s)) 4294967295 = u0 ∧ 0 ≤ u0 ∧ u0 < 4294967296 ∧
      Ok y1 y0 un u1 ∧ y * 2 ^ s = y1 * 4294967296 + y0 ∧ (hi * 18446744073709551616 + lo) * 2 ^ s = un * 18446744073709551616 + (u1 * 4294967296 + u0) := by
  have hP := pow_pos s
  have hb : (hi + 1) * 2 ^ s ≤ y * 2 ^ s := Int.mul_le_mul_of_nonneg_right (by omega) (by omega)
  rw [Int.add_mul, Int.one_mul] at hb
  have hb0 : 0 ≤ hi * 2 ^ s := Int.mul_nonneg h0.1 (by omega)
  obtain ⟨u1, u2, u3⟩ := up_eq hi lo s h0 h1 hs (by omega)
  have d := down_eq hi lo s hs
  refine ⟨_, _, _, _, _, rfl, maskI _ (by omega) (by omega), u1, rfl, maskI _ (by rw [IntKind.wrap_u64]; omega) (by rw [IntKind.wrap_u64]; omega), by omega, by omega, ?_, by omega, ?_⟩
  · refine ⟨by omega, by omega, by omega, by omega, by omega, by omega, ?_, ?_⟩
    · rw [IntKind.wrap_u64]; omega
    · rw [IntKind.wrap_u64]; omega
  · rw [d, IntKind.wrap_u64]; omega
theorem left_eq {y1 y0 un u q : Int} (o : Ok y1 y0 un u) (f : Fin y1 y0 un u q) :
    IntKind.u64.wrap (IntKind.u64.wrap (IntKind.u64.wrap (un * 4294967296) + u) - IntKind.u64.wrap (q * (y1 * 4294967296 + y0))) = un * 4294967296 + u - q * (y1 * 4294967296 + y0) := by
  obtain ⟨a, b, c, d, e, f', g, h⟩ := o
  obtain ⟨f1, f2, f3, f4⟩ := f
  simp only [IntKind.wrap_u64]
  generalize q * (y1 * 4294967296 + y0) = z at *
  omega
theorem left_ok {y1 y0 un u q u0 : Int} (o : Ok y1 y0 un u) (f : Fin y1 y0 un u q) (h0 : 0 ≤ u0) (h1 : u0 < 4294967296) : Ok y1 y0 (un * 4294967296 + u - q * (y1 * 4294967296 + y0)) u0 := by
  obtain ⟨a, b, c, d, e, f', g, h⟩ := o
  obtain ⟨f1, f2, f3, f4⟩ := f
  generalize q * (y1 * 4294967296 + y0) = z at *
  exact ⟨a, b, c, d, by omega, by omega, h0, h1⟩
set_option maxRecDepth 100000 in
theorem div64_any (hi lo y : Int) (w : World) (h0 : W64 hi) (h1 : W64 lo) (h2 : W64 y) (hp : 1 ≤ hi) (h : hi < y) :
    Calls Try.prog 40 #[.int .u64 hi, .int .u64 lo, .int .u64 y] w fun e w' => e = .returned (.tuple #[.int .u64 ((hi * 18446744073709551616 + lo) / y), .int .u64 ((hi * 18446744073709551616 + lo) % y)]) ∧ w = w' := by
  have k0 := h0
  have k1 := h1
  obtain ⟨p1, p2⟩ := h0
  obtain ⟨a1, a2⟩ := h1
  obtain ⟨b1, b2⟩ := h2
  have c1 : (y == 0) = false := by simp; omega
  have c2 : decide (y ≤ hi) = false := by simp; omega
  have c3 : (hi == 0) = false := by simp; omega
  obtain ⟨s1, s2, s3⟩ := lz_fits y (by omega) b2
  have cc : ((2 ^ lz y : Nat) : Int) = 2 ^ lz y := by push_cast; rfl
  rw [cc] at s2 s3
  clear cc
  have LL := Lib.hid (laid hi lo y (lz y) k0 k1 h s1 s2 s3)
  have hb : (hi + 1) * 2 ^ lz y ≤ y * 2 ^ lz y := Int.mul_le_mul_of_nonneg_right (by omega) (by have := pow_pos (lz y); omega)
  have hb0 : 0 ≤ hi * 2 ^ lz y := Int.mul_nonneg p1 (by have := pow_pos (lz y); omega)
  rw [Int.add_mul, Int.one_mul] at hb
  have hP := pow_pos (lz y)
  go_enter Try.func40, Try.ntmps40
  go_upto_region 15 with (go_at_call 45; refine (lz_any _ _ (by omega) (by omega)).mono ?_; rintro e w' ⟨rfl, rfl⟩)
  obtain ⟨y1, y0, un, u1, u0, e1, e2, e3, e4, e5, z1, z2, ok, hY, hN⟩ := LL.out
  simp only [e1, e2, e3, e4, e5]
  have HY := Lib.hid hY
  have HN := Lib.hid hN
  have OK := Lib.hid ok
  have st := Dv.start ok
  clear LL e1 e2 e3 e4 e5 hN k0 k1 hb hb0 c1 c2 c3
  obtain ⟨o1, o2, o3, o4, o5, o6, o7, o8⟩ := ok
  rw [hY] at s2 s3 ⊢
  clear hY
  obtain ⟨t1, t2, t3, t4, t5, t6⟩ := st
  have T := Lib.hid (show Inv y1 y0 un u1 (un / y1) (un - un / y1 * y1) from ⟨t1, t2, t3, t4, t5, t6⟩)
  clear t5 t6
  have t7 : 0 ≤ un / y1 * y1 := Int.mul_nonneg t1 (by omega)
  go_upto_block 0 with (fail)
  go_cut [15] (fun s15 wx => ∃ q : Int, s15 = .int .u64 q ∧ Fin y1 y0 un u1 q ∧ w = wx)
  case first =>
    go_wp2_with fail
    go_loop [15, 16] (fun a b => ∃ q r : Int, a = .int .u64 q ∧ b = .int .u64 r ∧ Inv y1 y0 un u1 q r) (fun a _ => (intOf a).toNat)
    case atStart => exact ⟨_, _, rfl, rfl, T.out⟩
    case round =>
      obtain ⟨q, r, rfl, rfl, hi⟩ := hrel
      have I := Lib.hid hi
      obtain ⟨i1, i2, i3, i4, i5, i6⟩ := hi
      clear i5 i6
      by_cases g1 : 4294967296 ≤ q
      · have P := pos OK.out I.out (Or.inl g1)
        by_cases g2 : 4294967296 ≤ r + y1
        · go_wp2
          go_meet
          exact ⟨q - 1, rfl, broke OK.out I.out (Or.inl g1) g2, rfl⟩
        · go_wp2
          go_round
          case rel => exact ⟨q - 1, r + y1, rfl, rfl, Dv.step OK.out I.out (Or.inl g1) (by omega)⟩
          case measure => simp [intOf]; omega
      · have m := half_le i1 (by omega) o3 (by omega)
        obtain ⟨m1, m2⟩ := m
        by_cases g3 : 4294967296 * r + u1 < q * y0
        · have P := pos OK.out I.out (Or.inr g3)
          by_cases g2 : 4294967296 ≤ r + y1
          · go_wp2
            go_meet
            exact ⟨q - 1, rfl, broke OK.out I.out (Or.inr g3) g2, rfl⟩
          · go_wp2
            go_round
            case rel => exact ⟨q - 1, r + y1, rfl, rfl, Dv.step OK.out I.out (Or.inr g3) (by omega)⟩
            case measure => simp [intOf]; omega
        · go_wp2
          go_meet
          exact ⟨q, rfl, ends OK.out I.out (by omega), rfl⟩
  case rest =>
    obtain ⟨q1, rfl, F1, rfl⟩ := hcut
    have b1 := F1.1
    have b2 := F1.2.1
    have WH := fun q0 h => whole (h := hi) (l := lo) (q0 := q0) hP HY.out HN.out F1 h
    have OK2 := left_ok OK.out F1 z1 z2
    have LE := left_eq OK.out F1
    clear T t1 t2 t3 t4 t7 HY HN OK F1
    have LE2 := Lib.hid LE
    clear LE
    go_upto_region 22 with (fail)
    rw [LE2.out]
    clear LE2
    generalize un * 4294967296 + u1 - q1 * (y1 * 4294967296 + y0) = v at *
    have OK := Lib.hid OK2
    have st := Dv.start OK2
    have WH2 := Lib.hid WH
    clear WH
    obtain ⟨v1, v2, v3, v4, v5, v6, v7, v8⟩ := OK2
    obtain ⟨t1, t2, t3, t4, t5, t6⟩ := st
    have T := Lib.hid (show Inv y1 y0 v u0 (v / y1) (v - v / y1 * y1) from ⟨t1, t2, t3, t4, t5, t6⟩)
    clear t5 t6
    have t7 : 0 ≤ v / y1 * y1 := Int.mul_nonneg t1 (by omega)
    go_upto_block 2 with (fail)
    go_cut [18] (fun s18 wx => ∃ q : Int, s18 = .int .u64 q ∧ Fin y1 y0 v u0 q ∧ w = wx)
    case first =>
      go_wp2_with fail
      go_loop [18, 16] (fun a b => ∃ q r : Int, a = .int .u64 q ∧ b = .int .u64 r ∧ Inv y1 y0 v u0 q r) (fun a _ => (intOf a).toNat)
      case atStart => exact ⟨_, _, rfl, rfl, T.out⟩
      case round =>
        obtain ⟨q, r, rfl, rfl, hi⟩ := hrel
        have I := Lib.hid hi
        obtain ⟨i1, i2, i3, i4, i5, i6⟩ := hi
        clear i5 i6
        by_cases g1 : 4294967296 ≤ q
        · have P := pos OK.out I.out (Or.inl g1)
          by_cases g2 : 4294967296 ≤ r + y1
          · go_wp2
            go_meet
            exact ⟨q - 1, rfl, broke OK.out I.out (Or.inl g1) g2, rfl⟩
          · go_wp2
            go_round
            case rel => exact ⟨q - 1, r + y1, rfl, rfl, Dv.step OK.out I.out (Or.inl g1) (by omega)⟩
            case measure => simp [intOf]; omega
        · have m := half_le i1 (by omega) o3 (by omega)
          obtain ⟨m1, m2⟩ := m
          by_cases g3 : 4294967296 * r + u0 < q * y0
          · have P := pos OK.out I.out (Or.inr g3)
            by_cases g2 : 4294967296 ≤ r + y1
            · go_wp2
              go_meet
              exact ⟨q - 1, rfl, broke OK.out I.out (Or.inr g3) g2, rfl⟩
            · go_wp2
              go_round
              case rel => exact ⟨q - 1, r + y1, rfl, rfl, Dv.step OK.out I.out (Or.inr g3) (by omega)⟩
              case measure => simp [intOf]; omega
          · go_wp2
            go_meet
            exact ⟨q, rfl, ends OK.out I.out (by omega), rfl⟩
    case rest =>
      obtain ⟨q0, rfl, F0, rfl⟩ := hcut
      have b3 := F0.1
      have b4 := F0.2.1
      have E := WH2.out q0 F0
      have LE := left_eq OK.out F0
      have E2 := Lib.hid E
      have LE2 := Lib.hid LE
      clear E LE F0 OK T t1 t2 t3 t4 t7 WH2
      go_wp2
      go_ret2
      exact ⟨ret_two E2.out.1.symm (by rw [LE2.out]; exact E2.out.2.symm), rfl⟩
/-- math/bits.Div64, at every argument at which it doesn't panic. -/
theorem div64_all (hi lo y : Int) (w : World) (h0 : W64 hi) (h1 : W64 lo) (h2 : W64 y) (h : hi < y) :
    Calls Try.prog 40 #[.int .u64 hi, .int .u64 lo, .int .u64 y] w fun e w' => e = .returned (.tuple #[.int .u64 ((hi * 18446744073709551616 + lo) / y), .int .u64 ((hi * 18446744073709551616 + lo) % y)]) ∧ ∃ k, w' = w.drewN k := by
  by_cases hp : 1 ≤ hi
  · exact (div64_any hi lo y w h0 h1 h2 hp h).mono fun _ _ ⟨he, hw⟩ => ⟨he, 0, hw.symm⟩
  · have e : hi = 0 := by have := h0.1; omega
    subst e
    rw [Int.zero_mul, Int.zero_add]
    exact div64_zero lo y w h1 h2 (by omega)
theorem div_zero (ah al : Int) (w : World) :
    Calls Try.prog 26 #[.agg #[.int .u64 ah, .int .u64 al], .int .u64 0] w fun e w' =>
      e = .returned (.tuple #[.agg #[.int .u64 0, .int .u64 0], .int .u64 0, .bool false]) ∧ Below w.heap.size w w' := by
  go_enter Try.func26, Try.ntmps26
  go_wp2
  refine bodyPost_ret (v := .tuple #[.agg #[.int .u64 0, .int .u64 0], .int .u64 0, .bool false]) (by simp [results, Try.results26, go_sem]) rfl ⟨rfl, ?_⟩
  exact (((Below.refl _ _).alloc (Nat.le_refl _) _).alloc (by simp) _)
theorem div_any (ah al b : Int) (w : World) (h0 : W64 ah) (h1 : W64 al) (h2 : W64 b) (h : 1 ≤ b) :
    Calls Try.prog 26 #[.agg #[.int .u64 ah, .int .u64 al], .int .u64 b] w fun e w' =>
      e = .returned (.tuple #[.agg #[.int .u64 (ah / b), .int .u64 ((ah % b * 18446744073709551616 + al) / b)], .int .u64 ((ah % b * 18446744073709551616 + al) % b), .bool true]) ∧ Below w.heap.size w w' := by
  have k1 := h1
  have k2 := h2
  obtain ⟨p1, p2⟩ := h0
  obtain ⟨a1, a2⟩ := h1
  obtain ⟨b1, b2⟩ := h2
  have m1 : 0 ≤ ah % b := Int.emod_nonneg _ (by omega)
  have m2 : ah % b < b := Int.emod_lt_of_pos _ (by omega)
  have c1 : (b == 0) = false := by simp; omega
  go_enter Try.func26, Try.ntmps26
  go_wp2
  go_quiet (fail)
  go_wp2_with (go_at_call 40; refine (div64_all _ _ _ _ ⟨by omega, by omega⟩ k1 k2 (by omega)).mono ?_; rintro e w' ⟨rfl, k, rfl⟩)
  refine bodyPost_ret (v := .tuple #[.agg #[.int .u64 (ah / b), .int .u64 ((ah % b * 18446744073709551616 + al) / b)], .int .u64 ((ah % b * 18446744073709551616 + al) % b), .bool true]) (by simp [results, Try.results26, go_sem]) rfl ⟨rfl, ?_⟩
  exact ((below_drewN ((((Below.refl _ _).alloc (Nat.le_refl _) _).alloc (by simp) _)) _).setCell (by simp) _).setCell (by simp) _
end Go.Proofs.Ytlbdklkocjlobaa
