/-
  PROVED HERE: whatever q, b and r are, warderlaw01.WordDivs answers true (a number is its quotient by word.Div, many times, and the rest, which is below), and each argument reads behind the call as it read before. Conditions: none.
-/
import Derived.Test.YtlbdklkocjlobaaRows
import Derived.Test.YtlbdklkocjlobaaAlive
import Derived.WalkKit
import Derived.ProofKit
import Derived.OpenShut
import Derived.ChangeOld
import Derived.Below
namespace Go.Proofs.Ytlbdklkocjlobaa.wordDivs
open Go.ChangeShapes Go.WideShapes Go.ChangeAt Go.RowKit

theorem own : ownKnob Try.prog.godebug = none := by kernel_rfl

theorem mul_lt {q b : Int} (hq : W64 q) (hb : W64 b) : 0 ≤ q * b ∧ q * b + b ≤ 18446744073709551616 * b ∧ q * b ≤ 340282366920938463426481119284349108225 := by
  have h1 : 0 ≤ q * b := Int.mul_nonneg hq.1 hb.1
  have h2 : (q + 1) * b ≤ 18446744073709551616 * b := Int.mul_le_mul_of_nonneg_right (by have := hq.2; omega) hb.1
  have h3 : q * b ≤ 18446744073709551615 * 18446744073709551615 := Int.mul_le_mul (by have := hq.2; omega) (by have := hb.2; omega) hb.1 (by decide)
  rw [Int.add_mul, Int.one_mul] at h2
  exact ⟨h1, h2, h3⟩
/-- A number that is so many times a divisor, and a rest, is divided so. -/
theorem div_back (h l b q r : Int) (w : World) (h0 : W64 h) (h1 : W64 l) (h2 : W64 b) (h3 : W64 q) (e : h * 18446744073709551616 + l = q * b + r) (r0 : 0 ≤ r) (r1 : r < b) :
    Calls Try.prog 26 #[.agg #[.int .u64 h, .int .u64 l], .int .u64 b] w fun e w' =>
      e = .returned (.tuple #[.agg #[.int .u64 0, .int .u64 q], .int .u64 r, .bool true]) ∧ Below w.heap.size w w' := by
  obtain ⟨m1, m2, m3⟩ := mul_lt h3 h2
  have hb : h < b := by have := h1.1; omega
  have e1 : h / b = 0 := Int.ediv_eq_zero_of_lt h0.1 hb
  have e2 : h % b = h := Int.emod_eq_of_lt h0.1 hb
  obtain ⟨u1, u2⟩ := Dv.uniq e r0 r1
  have c := div_any h l b w h0 h1 h2 (by omega)
  rw [e1, e2, u1, u2] at c
  exact c
/-- The sum of a product and a rest. -/
theorem sum_back (q b r : Int) (w : World) (hq : W64 q) (hb : W64 b) (r0 : 0 ≤ r) (r1 : r < b) :
    Calls Try.prog 23 #[.agg #[.int .u64 (q * b / 18446744073709551616), .int .u64 (q * b % 18446744073709551616)], .agg #[.int .u64 0, .int .u64 r]] w fun e w' =>
      e = .returned (.tuple #[.agg #[.int .u64 ((q * b + r) / 18446744073709551616), .int .u64 ((q * b + r) % 18446744073709551616)], .bool true]) ∧ Below w.heap.size w w' := by
  obtain ⟨m1, m2, m3⟩ := mul_lt hq hb
  obtain ⟨b0, b1⟩ := hb
  have c := add_yes (q * b / 18446744073709551616) (q * b % 18446744073709551616) 0 r ⟨by omega, by omega⟩ ⟨by omega, by omega⟩ ⟨by omega, by omega⟩ ⟨r0, by omega⟩ (by omega) w
  have e1 : q * b / 18446744073709551616 + 0 + (q * b % 18446744073709551616 + r) / 18446744073709551616 = (q * b + r) / 18446744073709551616 := by omega
  have e2 : (q * b % 18446744073709551616 + r) % 18446744073709551616 = (q * b + r) % 18446744073709551616 := by omega
  rw [e1, e2] at c
  exact c
theorem walk (a0 a1 a2 : Int) (w0 : (Lit.int .u64 a0).wf = true) (w1 : (Lit.int .u64 a1).wf = true) (w2 : (Lit.int .u64 a2).wf = true) (w : World) :
    Calls Try.prog 7 #[.int .u64 a0, .int .u64 a1, .int .u64 a2] w fun e w' => e = .returned (.bool true) ∧ Below w.heap.size w w' := by
  obtain ⟨p0, p1⟩ := bounds_u64 w0
  obtain ⟨q0, q1⟩ := bounds_u64 w1
  obtain ⟨r0, r1⟩ := bounds_u64 w2
  clear w0 w1 w2
  have A : W64 a0 := ⟨p0, by omega⟩
  have B : W64 a1 := ⟨q0, by omega⟩
  have C : W64 a2 := ⟨r0, by omega⟩
  by_cases hz : a1 = 0
  · subst hz
    go_enter Try.func7, Try.ntmps7
    go_wp2_with fail
    refine (alive_any _).mono ?_
    rintro e wa ⟨rfl, ba⟩
    have BA := Lib.hid ba
    clear ba
    go_wp2_with fail
    refine (mul_any _ _ A C _).mono ?_
    rintro e wb ⟨rfl, bb⟩
    have BB := Lib.hid (BA.out.trans (bb.mono BA.out.size))
    clear bb BA
    go_wp2_with fail
    refine (div_zero _ _ _).mono ?_
    rintro e wc ⟨rfl, bc⟩
    have BC := Lib.hid (BB.out.trans (bc.mono BB.out.size))
    clear bc BB
    go_wp2
    go_ret
    exact ⟨rfl, BC.out.alloc BC.out.size _⟩
  · have hz1 : 1 ≤ a1 := by omega
    have hz2 : (a1 == 0) = false := by simpa using hz
    have s0 : 0 ≤ a2 % a1 := Int.emod_nonneg _ hz
    have s1 : a2 % a1 < a1 := Int.emod_lt_of_pos _ (by omega)
    have s2 : 0 ≤ (a0 * a1 + a2 % a1) / 18446744073709551616 ∧ (a0 * a1 + a2 % a1) / 18446744073709551616 < 18446744073709551616 := by
      obtain ⟨m1, m2, m3⟩ := mul_lt A B
      omega
    have S2 : W64 ((a0 * a1 + a2 % a1) / 18446744073709551616) := s2
    clear s2 hz
    have cm : a1 * a0 = a0 * a1 := Int.mul_comm _ _
    have CM := Lib.hid cm
    clear cm
    go_enter Try.func7, Try.ntmps7
    go_wp2_with fail
    refine (alive_any _).mono ?_
    rintro e wa ⟨rfl, ba⟩
    have BA := Lib.hid ba
    clear ba
    go_wp2_with fail
    refine (mul_any _ _ A B _).mono ?_
    rintro e wb ⟨rfl, bb⟩
    have BB := Lib.hid (BA.out.trans (bb.mono BA.out.size))
    clear bb BA
    go_wp2_with fail
    refine (sum_back _ _ _ _ A B s0 s1).mono ?_
    rintro e wc ⟨rfl, bc⟩
    have BC := Lib.hid (BB.out.trans (bc.mono BB.out.size))
    clear bc BB
    go_wp2_with fail
    refine (div_back _ _ _ a0 (a2 % a1) _ S2 (w64_mod _) B A (by omega) s0 s1).mono ?_
    rintro e wd ⟨rfl, bd⟩
    have BD := Lib.hid ((BC.out.alloc BC.out.size _).trans (bd.mono (by have := BC.out.size; simp; omega)))
    clear bd BC
    go_wp2_with fail
    refine (mul_any _ _ A B _).mono ?_
    rintro e we ⟨rfl, be⟩
    have BE := Lib.hid ((BD.out.alloc BD.out.size _).trans (be.mono (by have := BD.out.size; simp; omega)))
    clear be BD
    go_wp2_with fail
    refine (mul_any _ _ B A _).mono ?_
    rintro e wf ⟨rfl, bf⟩
    have BF := Lib.hid (BE.out.trans (bf.mono BE.out.size))
    clear bf BE
    rw [CM.out]
    go_wp2
    go_ret
    exact ⟨rfl, BF.out⟩

set_option maxRecDepth 100000 in
theorem lifted (os : Os) (started : os.Started) (H : Type) (enc : TypeId × Value → H) :
    ReturnsInHanded {} Try.checked os 7 .any (Rows.wordDivsSpec.pre6 enc Try.prog Try.f7 Rows.wordDivsRow.domain false) (Rows.wordDivsSpec.post enc Try.prog Try.f7 false true false false) := by
  refine returnsInHanded_of_change (C := Try.checked) own started (by kernel_rfl) Try.func7
    (ChangeSpec.witness6 (enc := enc) (C := Try.checked) false ⟨#[], #[.int .u64 0, .int .u64 0, .int .u64 0], []⟩ 8 (by kernel_rfl) (by kernel_rfl) (by kernel_rfl) (by kernel_rfl)) ?_
  intro W base args ds gs before hval0 hW hcnd _
  have hval : ∀ (j : Nat) t v, Try.f7.params[j]? = some t → args[j]? = some v → Value.okWide Try.prog W .any base t v := hval0
  have hW' := hW
  obtain ⟨p, q, hA0, hV, rfl, hfz, hnd⟩ := hW
  have hA : DataW.TrodAll enc Try.prog W 0 (fun _ => true) true Try.f7.params.toList args.toList ds p := hA0
  rw [Try.params7] at hA hval
  obtain ⟨v0, vs0, d0, ds0, p0, q0, hargs, rfl, rfl, h0, r0⟩ := trodAll_cons hA
  obtain ⟨v1, vs1, d1, ds1, p1, q1, rfl, rfl, rfl, h1, r1⟩ := trodAll_cons r0
  obtain ⟨v2, vs2, d2, ds2, p2, q2, rfl, rfl, rfl, h2, r2⟩ := trodAll_cons r1
  obtain ⟨rfl, rfl, rfl⟩ := trodAll_nil r2
  obtain rfl : args = #[v0, v1, v2] := by cases args; simp_all
  obtain ⟨rfl, rfl⟩ := trodVars_none hV
  obtain ⟨a0, rfl, rfl, rfl, w0⟩ := open_int Try.underlying38 (hval 0 38 v0 rfl rfl) h0
  obtain ⟨a1, rfl, rfl, rfl, w1⟩ := open_int Try.underlying38 (hval 1 38 v1 rfl rfl) h1
  obtain ⟨a2, rfl, rfl, rfl, w2⟩ := open_int Try.underlying38 (hval 2 38 v2 rfl rfl) h2
  clear hA0 hval0
  simp only [List.append_nil] at hW'
  refine (walk a0 a1 a2 w0 w1 w2 W).mono fun e W' ⟨he, bel⟩ => ?_
  subst he
  exact ⟨_, rfl, _, _, _, [], [], [], hW', trodAll_mk1 (shut_bool Try.underlying4 _), (trodAll_cons_mk (shut_int Try.underlying38 w0) (trodAll_cons_mk (shut_int Try.underlying38 w1) (trodAll_cons_mk (shut_int Try.underlying38 w2) trodAll_mk0))), rfl, bel.frame _, fun h => by cases h⟩

theorem over : Rows.wordDivsRow.holds Try.pinned (OpenSpec.ofChange Rows.wordDivsSpec) :=
  OpenClaim.holds_of_wide 7 Try.f7 rfl rfl rfl rfl rfl rfl rfl ⟨rfl, rfl, rfl, rfl, rfl⟩ rfl rfl rfl rfl rfl (by kernel_rfl) Try.func7 (by kernel_rfl)
    (of_decide_eq_true (by kernel_rfl)) (by unfold Func.isWrapper; first | (rw [if_pos (by decide +kernel)]; kernel_rfl) | (rw [if_neg (by decide +kernel)]; exact ⟨rfl, rfl⟩))
    (fun os started H enc _ => lifted os started H enc)
end Go.Proofs.Ytlbdklkocjlobaa.wordDivs
namespace Go.Proofs.Ytlbdklkocjlobaa
/-- The statement. -/
theorem wordDivs_holds : Rows.WordDivsSaid := wordDivs.over
#print axioms wordDivs_holds
end Go.Proofs.Ytlbdklkocjlobaa
