/-
  PROVED HERE: whatever a, b, x and y are, warderlaw01.WordWides answers true (word.Mul, word.Add, word.Compare and word.Div answer what the document's own Mul, Add, Compare and Div answer), and each argument reads behind the call as it read before. Conditions: none.
-/
import Derived.Test.YtlbdklkocjlobaaWidesCore
import Derived.WalkKit
import Derived.ProofKit
import Derived.OpenShut
import Derived.ChangeOld
import Derived.Below
import Derived.Lib.SmallJoins
namespace Go.Proofs.Ytlbdklkocjlobaa.wordWides
open Go.ChangeShapes Go.WideShapes Go.ChangeAt Go.RowKit Rf Go.Joins

theorem own : ownKnob Try.prog.godebug = none := by kernel_rfl
theorem cells2 : Try.prog.cellsOf 40 = 2 := by kernel_rfl

/-- How both quotients end. -/
theorem quos (A x : Int) (a0 : 0 ≤ A) (a1 : A < 340282366920938463463374607431768211456) (X : W64 x) : ∃ (D r : Int) (h : Bool),
    (∀ w, Calls Try.prog 26 #[wv A, .int .u64 x] w fun e w' => e = .returned (.tuple #[wv D, .int .u64 r, .bool h]) ∧ Below w.heap.size w w') ∧
    (∀ w, Calls Try.prog 27 #[wv A, .int .u64 x] w fun e w' => e = .returned (.tuple #[wv D, .int .u64 r, .bool h]) ∧ Below w.heap.size w w') := by
  by_cases hx : x = 0
  · subst hx
    exact ⟨0, 0, false, fun w => (div_zero _ _ w).mono fun _ _ ⟨he, hb⟩ => ⟨he, hb⟩, fun w => (rdiv_zero _ _ w).mono fun _ _ ⟨he, hb⟩ => ⟨he, hb⟩⟩
  · have x0 : 1 ≤ x := by have := X.1; omega
    exact ⟨A / x, A % x, true, fun w => wdiv A x w a0 a1 x0 X.2, fun w => rdiv_any A x w a0 a1 x0 X.2⟩
/-- How both sums end. -/
theorem sums (A B : Int) (a0 : 0 ≤ A) (a1 : A < 340282366920938463463374607431768211456) (b0 : 0 ≤ B) (b1 : B < 340282366920938463463374607431768211456) : ∃ (S : Int) (o : Bool),
    (∀ w, Calls Try.prog 23 #[wv A, wv B] w fun e w' => e = .returned (.tuple #[wv S, .bool o]) ∧ Below w.heap.size w w') ∧
    (∀ w, Calls Try.prog 24 #[wv A, wv B] w fun e w' => e = .returned (.tuple #[wv S, .bool o]) ∧ Below w.heap.size w w') := by
  by_cases h : A + B < 340282366920938463463374607431768211456
  · have e : addEnd A B = .returned (.tuple #[wv (A + B), .bool true]) := if_pos h
    exact ⟨A + B, true, fun w => (wadd A B w a0 a1 b0 b1).mono fun _ _ ⟨he, hb⟩ => ⟨he.trans e, hb⟩, fun w => (radd_any A B w a0 a1 b0 b1).mono fun _ _ ⟨he, hb⟩ => ⟨he.trans e, hb⟩⟩
  · have e : addEnd A B = .returned (.tuple #[wv 0, .bool false]) := if_neg h
    exact ⟨0, false, fun w => (wadd A B w a0 a1 b0 b1).mono fun _ _ ⟨he, hb⟩ => ⟨he.trans e, hb⟩, fun w => (radd_any A B w a0 a1 b0 b1).mono fun _ _ ⟨he, hb⟩ => ⟨he.trans e, hb⟩⟩
theorem walk (h1 l1 h2 l2 x y : Int) (wa : (Lit.int .u64 h1).wf = true) (wb : (Lit.int .u64 l1).wf = true) (wc : (Lit.int .u64 h2).wf = true) (wd : (Lit.int .u64 l2).wf = true) (wx : (Lit.int .u64 x).wf = true) (wy : (Lit.int .u64 y).wf = true) (w : World) :
    Calls Try.prog 5 #[.agg #[.int .u64 h1, .int .u64 l1], .agg #[.int .u64 h2, .int .u64 l2], .int .u64 x, .int .u64 y] w fun e w' => e = .returned (.bool true) ∧ Below w.heap.size w w' := by
  obtain ⟨p0, p1⟩ := bounds_u64 wa
  obtain ⟨q0, q1⟩ := bounds_u64 wb
  obtain ⟨r0, r1⟩ := bounds_u64 wc
  obtain ⟨s0, s1⟩ := bounds_u64 wd
  obtain ⟨x0, x1⟩ := bounds_u64 wx
  obtain ⟨y0, y1⟩ := bounds_u64 wy
  have X : W64 x := ⟨x0, by omega⟩
  have Y : W64 y := ⟨y0, by omega⟩
  have e1 : (h1 * 18446744073709551616 + l1) / 18446744073709551616 = h1 := by omega
  have e2 : (h1 * 18446744073709551616 + l1) % 18446744073709551616 = l1 := by omega
  have e3 : (h2 * 18446744073709551616 + l2) / 18446744073709551616 = h2 := by omega
  have e4 : (h2 * 18446744073709551616 + l2) % 18446744073709551616 = l2 := by omega
  have a0 : 0 ≤ h1 * 18446744073709551616 + l1 := by omega
  have a1 : h1 * 18446744073709551616 + l1 < 340282366920938463463374607431768211456 := by omega
  have b0 : 0 ≤ h2 * 18446744073709551616 + l2 := by omega
  have b1 : h2 * 18446744073709551616 + l2 < 340282366920938463463374607431768211456 := by omega
  obtain ⟨D, r, h, hd, he⟩ := quos _ x a0 a1 X
  obtain ⟨S, o, ha, hr⟩ := sums _ _ a0 a1 b0 b1
  have c := core (h1 * 18446744073709551616 + l1) (h2 * 18446744073709551616 + l2) x y S D r o h w a0 a1 b0 b1 X Y (Lib.hid ha) (Lib.hid hr) (Lib.hid hd) (Lib.hid he)
  unfold wv at c
  rw [e1, e2, e3, e4] at c
  exact c

set_option maxRecDepth 100000 in
theorem lifted (os : Os) (started : os.Started) (H : Type) (enc : TypeId × Value → H) :
    ReturnsInHanded {} Try.checked os 5 .any (Rows.wordWidesSpec.pre6 enc Try.prog Try.f5 Rows.wordWidesRow.domain false) (Rows.wordWidesSpec.post enc Try.prog Try.f5 false true false false) := by
  refine returnsInHanded_of_change (C := Try.checked) own started (by kernel_rfl) Try.func5
    (ChangeSpec.witness6 (enc := enc) (C := Try.checked) false ⟨#[], #[.agg #[.int .u64 0, .int .u64 0], .agg #[.int .u64 0, .int .u64 0], .int .u64 0, .int .u64 0], []⟩ 8 (by kernel_rfl) (by kernel_rfl) (by kernel_rfl) (by kernel_rfl)) ?_
  intro W base args ds gs before hval0 hW hcnd _
  have hval : ∀ (j : Nat) t v, Try.f5.params[j]? = some t → args[j]? = some v → Value.okWide Try.prog W .any base t v := hval0
  have hW' := hW
  obtain ⟨p, q, hA0, hV, rfl, hfz, hnd⟩ := hW
  have hA : DataW.TrodAll enc Try.prog W 0 (fun _ => true) true Try.f5.params.toList args.toList ds p := hA0
  rw [Try.params5] at hA hval
  obtain ⟨v0, vs0, d0, ds0, p0, q0, hargs, rfl, rfl, h0, r0⟩ := trodAll_cons hA
  obtain ⟨v1, vs1, d1, ds1, p1, q1, rfl, rfl, rfl, h1, r1⟩ := trodAll_cons r0
  obtain ⟨v2, vs2, d2, ds2, p2, q2, rfl, rfl, rfl, h2, r2⟩ := trodAll_cons r1
  obtain ⟨v3, vs3, d3, ds3, p3, q3, rfl, rfl, rfl, h3, r3⟩ := trodAll_cons r2
  obtain ⟨rfl, rfl, rfl⟩ := trodAll_nil r3
  obtain rfl : args = #[v0, v1, v2, v3] := by cases args; simp_all
  obtain ⟨rfl, rfl⟩ := trodVars_none hV
  obtain ⟨c0, c1, y0, y1, m, rfl, rfl, rfl, hy0, hy1⟩ := open_agg2 Try.underlying40 (by kernel_rfl) cells2 (hval 0 40 v0 rfl rfl) h0
  obtain ⟨c2, c3, y2, y3, m2, rfl, rfl, rfl, hy2, hy3⟩ := open_agg2 Try.underlying40 (by kernel_rfl) cells2 (hval 1 40 v1 rfl rfl) h1
  obtain ⟨a, e0, rfl, wa⟩ := DataW.trod_int Try.underlying38 hy0
  obtain ⟨b, e1, rfl, wb⟩ := DataW.trod_int Try.underlying38 hy1
  obtain ⟨c, e2, rfl, wc⟩ := DataW.trod_int Try.underlying38 hy2
  obtain ⟨d, e3, rfl, wd⟩ := DataW.trod_int Try.underlying38 hy3
  simp at e0 e1 e2 e3
  subst e0 e1 e2 e3
  obtain ⟨x, rfl, rfl, rfl, wx⟩ := open_int Try.underlying38 (hval 2 38 v2 rfl rfl) h2
  obtain ⟨y, rfl, rfl, rfl, wy⟩ := open_int Try.underlying38 (hval 3 38 v3 rfl rfl) h3
  clear hA0 hval0
  simp only [List.append_nil] at hW'
  have reads : ∀ (a b : Int) (wa : (Lit.int .u64 a).wf = true) (wb : (Lit.int .u64 b).wf = true) (W' : World) (sp : Nat → Bool), DataW.Trod enc Try.prog W' 0 sp true 40 (.agg #[.int .u64 a, .int .u64 b]) (.agg [.lit (.int .u64 a), .lit (.int .u64 b)]) [] := fun a b wa wb W' sp =>
    shut_agg2 (y0 := (.lit (.int .u64 a), [])) (y1 := (.lit (.int .u64 b), [])) Try.underlying40 (by kernel_rfl) cells2 ⟨1, by simp [DataW.trod, Try.underlying38, wa]⟩ ⟨1, by simp [DataW.trod, Try.underlying38, wb]⟩
  refine (walk a b c d x y wa wb wc wd wx wy W).mono fun e W' ⟨he, bel⟩ => ?_
  subst he
  exact ⟨_, rfl, _, _, _, [], [], [], hW', trodAll_mk1 (shut_bool Try.underlying4 _), (trodAll_cons_mk (reads a b wa wb _ _) (trodAll_cons_mk (reads c d wc wd _ _) (trodAll_cons_mk (shut_int Try.underlying38 wx) (trodAll_cons_mk (shut_int Try.underlying38 wy) trodAll_mk0)))), rfl, bel.frame _, fun h => by cases h⟩

theorem over : Rows.wordWidesRow.holds Try.pinned (OpenSpec.ofChange Rows.wordWidesSpec) :=
  OpenClaim.holds_of_wide 5 Try.f5 rfl rfl rfl rfl rfl rfl rfl ⟨rfl, rfl, rfl, rfl, rfl⟩ rfl rfl rfl rfl rfl (by kernel_rfl) Try.func5 (by kernel_rfl)
    (of_decide_eq_true (by kernel_rfl)) (by unfold Func.isWrapper; first | (rw [if_pos (by decide +kernel)]; kernel_rfl) | (rw [if_neg (by decide +kernel)]; exact ⟨rfl, rfl⟩))
    (fun os started H enc _ => lifted os started H enc)
end Go.Proofs.Ytlbdklkocjlobaa.wordWides
namespace Go.Proofs.Ytlbdklkocjlobaa
/-- The statement. -/
theorem wordWides_holds : Rows.WordWidesSaid := wordWides.over
#print axioms wordWides_holds
end Go.Proofs.Ytlbdklkocjlobaa
