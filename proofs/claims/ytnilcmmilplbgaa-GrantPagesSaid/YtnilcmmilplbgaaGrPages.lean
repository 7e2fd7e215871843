/-
  GrantPages: a guest has taken one grant at a page at most, and two that are not free never have one owner, one frame, and one taker: for every input true, and the input reads as it did; no condition.
-/
import Derived.Test.YtnilcmmilplbgaaGrTold
import Derived.Test.YtnilcmmilplbgaaGrAlive
namespace Go.Proofs.Ytnilcmmilplbgaa
open Go.ChangeShapes Go.WideShapes Go.ChangeAt Go.RowKit Go.Deep
namespace grantPages
open Gr
open Ph (Only)
set_option maxRecDepth 100000 in
set_option maxHeartbeats 8000000 in
theorem walk (pa : Option Addr) (len cap : Nat) (y : Nat → GCallsT) (o : Int) (w : World) (hl : len ≤ cap ∧ cap ≤ maxLen) (hx : GCalls w.heap.size w pa len y) :
    Calls Try.prog 7 #[.slice pa len cap, .int .i64 o] w fun e w' => e = .returned (.bool true) ∧ Below w.heap.size w w' := by
  have HX := Lib.hid hx
  have hlm : len ≤ maxLen := by omega
  unfold maxLen at hlm
  clear hx hl
  have hz : ∀ w, (zeroValue 37).run Try.prog w = .ok (.agg #[.int .i64 0, .int .i64 0, .int .i64 0, .int .i64 0, .int .i64 0, .bool false]) w := fun _ => by kernel_rfl
  go_enter Try.func7, Try.ntmps7
  go_wp2_with fail
  refine (alive_any _).mono ?_
  rintro e w0 ⟨rfl, B0⟩
  by_cases g1 : 60 < len
  · have g1' : (60 : Int) < (len : Int) := by omega
    go_wp2
    go_ret
    exact ⟨rfl, B0⟩
  have g60 : len ≤ 60 := by omega
  have g60' : ¬ (60 : Int) < (len : Int) := by omega
  clear g1
  go_wp2_with fail
  refine (new_any w0).mono ?_
  rintro e w1 ⟨rfl, R1, O1⟩
  have B1 := Lib.hid (B0.trans (O1.below B0.size (by simp)))
  obtain ⟨P, hP⟩ : ∃ p, p = w0.heap.size := ⟨_, rfl⟩
  rw [← hP] at R1 ⊢
  have q1 : w.heap.size ≤ P := by have := B0.size; omega
  have z1 := R1.lt
  have R1' := Lib.hid R1
  clear hP B0 O1 R1
  go_wp2_with fail
  refine (rnew_any w1).mono ?_
  rintro e w2 ⟨rfl, Q2, O2⟩
  have B2 := Lib.hid (B1.out.trans (O2.below B1.out.size (by simp)))
  have D2 := Lib.hid (show Both w2 P (w1.heap.size + 1) w1.heap.size (fun _ => gz) from ⟨R1'.out.kept O2 (by simp), Q2, by omega, by omega, gv_new⟩)
  have q2 : w.heap.size ≤ w1.heap.size := B1.out.size
  have q3 : w.heap.size ≤ w1.heap.size + 1 := by omega
  obtain ⟨r, hr⟩ : ∃ r, r = w1.heap.size + 1 := ⟨_, rfl⟩
  obtain ⟨G, hG⟩ : ∃ g, g = w1.heap.size := ⟨_, rfl⟩
  rw [← hr, ← hG] at D2
  rw [← hr]
  rw [← hG] at q2
  rw [← hr] at q3
  clear hr hG B1 O2 Q2 R1' z1
  go_wp2_with fail
  go_loopw [7] (fun c wr => ∃ (i : Nat) (g : Nat → GtT), c = .int .i64 i ∧ i ≤ len ∧ Both wr P r G g ∧ Below w.heap.size w wr) (fun c _ => len - (intOf c).toNat)
  case atStart => exact ⟨0, _, rfl, Nat.zero_le _, D2.out, B2.out⟩
  case round =>
    obtain ⟨i, g, rfl, hi, hD, hB⟩ := hrel
    have DR := Lib.hid hD
    have BR := Lib.hid hB
    clear D2 B2
    by_cases hlt : i < len
    · obtain ⟨b, off, rfl, hbl, hC⟩ := HX.out.at hB hlt
      have c0 := hC.c0
      have c1 := hC.c1
      have c2 := hC.c2
      have c3 := hC.c3
      have c4 := hC.c4
      have c5 := hC.c5
      generalize y i = c at *
      have hi0 : (0 : Int) ≤ (i : Int) := by omega
      have hil : (i : Int) < (len : Int) := by omega
      have hwr := hB.size
      have HI := Lib.hid hi
      clear hC hD hB HX hi
      go_wp2_with fail
      refine (told_any P r G c g _ DR.out).mono ?_
      rintro e w3 ⟨rfl, D3, O3⟩
      have B3 := Lib.hid (BR.out.trans (O3.below (B := w.heap.size) BR.out.size (by simp; omega)))
      have D3' := Lib.hid D3
      clear c0 c1 c2 c3 c4 c5 DR BR O3 D3 hwr
      generalize toldP c g = ng at *
      go_wp2_with fail
      go_roundw
      case rel => exact ⟨i + 1, ng, by simp, by have := HI.out; omega, D3'.out, B3.out⟩
      case measure => simp only [intOf, Int.toNat_natCast]; omega
    · obtain rfl : i = len := by omega
      have RR := Lib.hid hD.p
      have VR := Lib.hid hD.gv
      have zP := hD.p.lt
      clear hD hB HX DR
      go_wp2_with fail
      go_loopw [8] (fun c wq => ∃ a : Nat, c = .int .i64 a ∧ a ≤ 32 ∧ Row6 wq P g ∧ Below w.heap.size w wq) (fun c _ => 32 - (intOf c).toNat)
      case atStart => exact ⟨0, rfl, Nat.zero_le _, RR.out, BR.out⟩
      case round =>
        obtain ⟨a, rfl, ha, hR, hB⟩ := hrel
        have R2 := Lib.hid hR
        have B2 := Lib.hid hB
        clear hR hB RR BR
        by_cases hal : a < 32
        · go_wp2_with fail
          refine (get_any P a g _ R2.out).mono ?_
          rintro e w3 ⟨he, hO⟩
          rw [show getP g a = g a by unfold getP; rw [idk_in hal]; rfl] at he
          have AT := Lib.hid (fun h => at_taken VR.out hal h)
          have SM := Lib.hid (fun c hc (x0 : sta (g a) ≠ 0) y0 => VR.out.same a c hal hc x0 y0)
          have PGX := Lib.hid (fun c hc (x0 : sta (g a) = 2) y0 => VR.out.page a c hal hc x0 y0)
          obtain ⟨x, hx⟩ : ∃ x, x = g a := ⟨_, rfl⟩
          rw [← hx] at he AT SM PGX
          clear hx
          have R3 := Lib.hid (R2.out.kept hO (by simp))
          have B3 := Lib.hid (B2.out.trans (hO.below (B := w.heap.size) B2.out.size (by simp)))
          clear hO R2 B2
          obtain ⟨xs, xo, xf, xt, xp, xw⟩ := x
          replace he : e = .returned (.agg #[.int .i64 xs, .int .i64 xo, .int .i64 xf, .int .i64 xt, .int .i64 xp, .bool xw]) := he
          subst he
          have oA := Only.alloc [] w3 (.cells #[.int .i64 xs, .int .i64 xo, .int .i64 xf, .int .i64 xt, .int .i64 xp, .bool xw] 37)
          have R4 := Lib.hid (R3.out.kept oA (by simp))
          have B4 := Lib.hid (B3.out.trans (oA.below (B := w.heap.size) B3.out.size (by simp)))
          have X4 := Lib.hid (Bx6.new w3 (xs, xo, xf, xt, xp, xw) 37 rfl)
          clear oA R3 B3
          have aw : (a : Int) < 32 := by omega
          go_wp2_with fail
          obtain ⟨xb, hxb⟩ : ∃ q, q = w3.heap.size := ⟨_, rfl⟩
          rw [← hxb] at X4 ⊢
          clear hxb
          change Hid (Bx6 (w3.alloc (.cells #[.int .i64 xs, .int .i64 xo, .int .i64 xf, .int .i64 xt, .int .i64 xp, .bool xw] 37)) xb (xs, xo, xf, xt, xp, xw)) at X4
          generalize w3.alloc (.cells #[.int .i64 xs, .int .i64 xo, .int .i64 xf, .int .i64 xt, .int .i64 xp, .bool xw] 37) = w4 at *
          go_loopw [10] (fun c wq => ∃ b : Nat, c = .int .i64 b ∧ a < b ∧ b ≤ 32 ∧ Row6 wq P g ∧ Bx6 wq xb (xs, xo, xf, xt, xp, xw) ∧ Below w.heap.size w wq) (fun c _ => 32 - (intOf c).toNat)
          case atStart => exact ⟨a + 1, by simp, by omega, by omega, R4.out, X4.out, B4.out⟩
          case round =>
            obtain ⟨c, rfl, hac, hc, hR, hX, hB⟩ := hrel
            have R2 := Lib.hid hR
            have X2 := Lib.hid hX
            have B2 := Lib.hid hB
            clear hR hX hB R4 X4 B4
            by_cases hcl : c < 32
            · go_wp2_with fail
              refine (get_any P c g _ R2.out).mono ?_
              rintro e w5 ⟨he, hO⟩
              rw [show getP g c = g c by unfold getP; rw [idk_in hcl]; rfl] at he
              have SM2 := Lib.hid (SM.out c hcl)
              have PG2 := Lib.hid (PGX.out c hcl)
              obtain ⟨y, hy⟩ : ∃ y, y = g c := ⟨_, rfl⟩
              rw [← hy] at he SM2 PG2
              clear hy
              have R3 := Lib.hid (R2.out.kept hO (by simp))
              have X3 := Lib.hid (X2.out.kept hO (by simp))
              have B3 := Lib.hid (B2.out.trans (hO.below (B := w.heap.size) B2.out.size (by simp)))
              clear hO R2 X2 B2
              obtain ⟨ys, yo, yf, yt, yp, yw⟩ := y
              replace he : e = .returned (.agg #[.int .i64 ys, .int .i64 yo, .int .i64 yf, .int .i64 yt, .int .i64 yp, .bool yw]) := he
              subst he
              have oA := Only.alloc [] w5 (.cells #[.int .i64 ys, .int .i64 yo, .int .i64 yf, .int .i64 yt, .int .i64 yp, .bool yw] 37)
              have R5 := Lib.hid (R3.out.kept oA (by simp))
              have X5 := Lib.hid (X3.out.kept oA (by simp))
              have B5 := Lib.hid (B3.out.trans (oA.below (B := w.heap.size) B3.out.size (by simp)))
              have lx := X3.out.lt
              have x0 := X3.out.c 0 (by omega)
              have x1 := X3.out.c 1 (by omega)
              have x2 := X3.out.c 2 (by omega)
              have x3 := X3.out.c 3 (by omega)
              have x4 := X3.out.c 4 (by omega)
              simp only [gC] at x0 x1 x2 x3 x4
              clear oA R3 X3 B3
              have PG := Lib.hid (fun (h1 : xs = 2) (h2 : ys = 2) (h3 : xt = yt) (h4 : xp = yp) => (show False by have := PG2.out h1 h2 h3 h4; omega))
              cases d1 : xs == 0 with
              | true =>
                clear SM2 PG2 PG
                go_wp2_with fail
                go_roundw
                case rel => exact ⟨c + 1, by simp, by omega, by omega, R5.out, X5.out, B5.out⟩
                case measure => simp only [intOf, Int.toNat_natCast]; omega
              | false =>
                cases d2 : ys == 0 with
                | true =>
                  clear SM2 PG2 PG
                  go_wp2_with fail
                  go_roundw
                  case rel => exact ⟨c + 1, by simp, by omega, by omega, R5.out, X5.out, B5.out⟩
                  case measure => simp only [intOf, Int.toNat_natCast]; omega
                | false =>
                  have SF := Lib.hid (fun (h3 : xo = yo) (h4 : xf = yf) (h5 : xt = yt) => (show False by have := SM2.out (by simpa using d1) (by simpa using d2) h3 h4 h5; omega))
                  clear SM2 PG2
                  cases e1 : xo == yo with
                  | false =>
                    cases s1 : xs == 2 with
                    | false =>
                      go_wp2_with fail
                      go_roundw
                      case rel => exact ⟨c + 1, by simp, by omega, by omega, R5.out, X5.out, B5.out⟩
                      case measure => simp only [intOf, Int.toNat_natCast]; omega
                    | true =>
                      cases s2 : ys == 2 with
                      | false =>
                        go_wp2_with fail
                        go_roundw
                        case rel => exact ⟨c + 1, by simp, by omega, by omega, R5.out, X5.out, B5.out⟩
                        case measure => simp only [intOf, Int.toNat_natCast]; omega
                      | true =>
                        cases s3 : xt == yt with
                        | false =>
                          go_wp2_with fail
                          go_roundw
                          case rel => exact ⟨c + 1, by simp, by omega, by omega, R5.out, X5.out, B5.out⟩
                          case measure => simp only [intOf, Int.toNat_natCast]; omega
                        | true =>
                          cases s4 : xp == yp with
                          | false =>
                            go_wp2_with fail
                            go_roundw
                            case rel => exact ⟨c + 1, by simp, by omega, by omega, R5.out, X5.out, B5.out⟩
                            case measure => simp only [intOf, Int.toNat_natCast]; omega
                          | true => exact (PG.out (by simpa using s1) (by simpa using s2) (by simpa using s3) (by simpa using s4)).elim
                  | true =>
                    cases e2 : xf == yf with
                    | false =>
                      cases s1 : xs == 2 with
                      | false =>
                        go_wp2_with fail
                        go_roundw
                        case rel => exact ⟨c + 1, by simp, by omega, by omega, R5.out, X5.out, B5.out⟩
                        case measure => simp only [intOf, Int.toNat_natCast]; omega
                      | true =>
                        cases s2 : ys == 2 with
                        | false =>
                          go_wp2_with fail
                          go_roundw
                          case rel => exact ⟨c + 1, by simp, by omega, by omega, R5.out, X5.out, B5.out⟩
                          case measure => simp only [intOf, Int.toNat_natCast]; omega
                        | true =>
                          cases s3 : xt == yt with
                          | false =>
                            go_wp2_with fail
                            go_roundw
                            case rel => exact ⟨c + 1, by simp, by omega, by omega, R5.out, X5.out, B5.out⟩
                            case measure => simp only [intOf, Int.toNat_natCast]; omega
                          | true =>
                            cases s4 : xp == yp with
                            | false =>
                              go_wp2_with fail
                              go_roundw
                              case rel => exact ⟨c + 1, by simp, by omega, by omega, R5.out, X5.out, B5.out⟩
                              case measure => simp only [intOf, Int.toNat_natCast]; omega
                            | true => exact (PG.out (by simpa using s1) (by simpa using s2) (by simpa using s3) (by simpa using s4)).elim
                    | true =>
                      cases e3 : xt == yt with
                      | false =>
                        cases s1 : xs == 2 with
                        | false =>
                          go_wp2_with fail
                          go_roundw
                          case rel => exact ⟨c + 1, by simp, by omega, by omega, R5.out, X5.out, B5.out⟩
                          case measure => simp only [intOf, Int.toNat_natCast]; omega
                        | true =>
                          cases s2 : ys == 2 with
                          | false =>
                            go_wp2_with fail
                            go_roundw
                            case rel => exact ⟨c + 1, by simp, by omega, by omega, R5.out, X5.out, B5.out⟩
                            case measure => simp only [intOf, Int.toNat_natCast]; omega
                          | true =>
                            go_wp2_with fail
                            go_roundw
                            case rel => exact ⟨c + 1, by simp, by omega, by omega, R5.out, X5.out, B5.out⟩
                            case measure => simp only [intOf, Int.toNat_natCast]; omega
                      | true => exact (SF.out (by simpa using e1) (by simpa using e2) (by simpa using e3)).elim
            · obtain rfl : c = 32 := by omega
              have lx := X2.out.lt
              have x0 := X2.out.c 0 (by omega)
              have x3 := X2.out.c 3 (by omega)
              have x4 := X2.out.c 4 (by omega)
              simp only [gC] at x0 x3 x4
              clear SM PGX
              cases d1 : xs == 2 with
              | false =>
                clear AT
                go_wp2_with fail
                go_roundw
                case rel => exact ⟨a + 1, by simp, by omega, R2.out, B2.out⟩
                case measure => simp only [intOf, Int.toNat_natCast]; omega
              | true =>
                cases d2 : xt == o with
                | false =>
                  clear AT
                  go_wp2_with fail
                  go_roundw
                  case rel => exact ⟨a + 1, by simp, by omega, R2.out, B2.out⟩
                  case measure => simp only [intOf, Int.toNat_natCast]; omega
                | true =>
                  obtain rfl : xt = o := by simpa using d2
                  have A1 := Lib.hid (AT.out (by simpa using d1))
                  clear AT
                  go_wp2_with fail
                  have C1 := at_any P xt xp g _ R2.out
                  rw [show atP g xt xp = (a : Int) from A1.out] at C1
                  refine C1.mono ?_
                  clear C1
                  rintro e w6 ⟨rfl, hO⟩
                  have R4 := Lib.hid (R2.out.kept hO (by simp))
                  have B4 := Lib.hid (B2.out.trans (hO.below (B := w.heap.size) B2.out.size (by simp)))
                  clear hO R2 B2 X2 lx x0 x3 x4
                  go_wp2_with fail
                  go_roundw
                  case rel => exact ⟨a + 1, by simp, by omega, R4.out, B4.out⟩
                  case measure => simp only [intOf, Int.toNat_natCast]; omega
        · obtain rfl : a = 32 := by omega
          go_wp2_with fail
          go_ret
          exact ⟨rfl, B2.out⟩
set_option maxRecDepth 100000 in
theorem lifted (os : Os) (started : os.Started) (H : Type) (enc : TypeId × Value → H) :
    ReturnsInHanded {} Try.checked os 7 .any (Rows.grantPagesSpec.pre6 enc Try.prog Try.f7 Rows.grantPagesRow.domain false) (Rows.grantPagesSpec.post enc Try.prog Try.f7 false true false false) := by
  refine returnsInHanded_of_change_sized (C := Try.checked) ownK started (by kernel_rfl) Try.func7
    (ChangeSpec.witness6 (enc := enc) (C := Try.checked) false ⟨#[], #[.slice none 0 0, .int .i64 0], []⟩ 8 (by kernel_rfl) (by kernel_rfl) (by kernel_rfl) (by kernel_rfl)) ?_
  intro W base args ds gs before hval0 hW hcnd hZ0 _
  have hval : ∀ (j : Nat) t v, Try.f7.params[j]? = some t → args[j]? = some v → Value.okWide Try.prog W .any base t v := hval0
  have hZ : ∀ n ∈ DataW.weightsEach Try.prog (Try.f7.params.toList ++ []) (ds ++ gs), n ≤ reachBytes := fun n hn => of_decide_eq_true (List.all_eq_true.1 hZ0 n hn)
  have hW' := hW
  obtain ⟨p, q, hA0, hV, rfl, hfz, hnd⟩ := hW
  have hA : DataW.TrodAll enc Try.prog W 0 (fun _ => true) true Try.f7.params.toList args.toList ds p := hA0
  rw [Try.params7] at hA hval hZ
  obtain ⟨v0, vs0, d0, ds0, p0, q0, hargs, rfl, rfl, h0, r0⟩ := trodAll_cons hA
  obtain ⟨v1, vs1, d1, ds1, p1, q1, rfl, rfl, rfl, h1, r1⟩ := trodAll_cons r0
  obtain ⟨rfl, rfl, rfl⟩ := trodAll_nil r1
  obtain rfl : args = #[v0, v1] := by cases args; simp_all
  obtain ⟨rfl, rfl⟩ := trodVars_none hV
  have k0 := h0
  have hz0 : ∀ n ∈ d0.weights Try.prog 22, n ≤ reachBytes := fun n hn => hZ n (by simp only [List.append_nil, DataW.weightsEach, List.mem_append]; exact Or.inl hn)
  obtain ⟨a0, n0, c0, y0, rfl, m0, lt0, z0⟩ := gcalls_open (hval 0 22 v0 rfl rfl) h0 hz0
  obtain ⟨x1, rfl, rfl, rfl, w1⟩ := open_int Try.underlying3 (hval 1 3 v1 rfl rfl) h1
  clear hA0 hval0 hZ0
  refine (walk a0 n0 c0 y0 x1 W m0 z0).mono fun e W' ⟨he, ho⟩ => ?_
  subst he
  have bel : Below W.heap.size W W' := ho
  exact ⟨_, rfl, _, _, _, [], _, [], hW', trodAll_mk1 (shut_bool Try.underlying4 _), (trodAll_cons_mk (Below.trod laidOut (by kernel_rfl) (of_decide_eq_true (by kernel_rfl)) k0 bel lt0) (trodAll_cons_mk (shut_int Try.underlying3 w1) trodAll_mk0)), rfl, bel.frame _, fun h => by cases h⟩
theorem over : Rows.grantPagesRow.holds Try.pinned (OpenSpec.ofChange Rows.grantPagesSpec) :=
  OpenClaim.holds_of_wide 7 Try.f7 rfl rfl rfl rfl rfl rfl rfl ⟨rfl, rfl, rfl, rfl, rfl⟩ rfl rfl rfl rfl rfl (by kernel_rfl) Try.func7 (by kernel_rfl)
    (of_decide_eq_true (by kernel_rfl)) (by unfold Func.isWrapper; first | (rw [if_pos (by decide +kernel)]; kernel_rfl) | (rw [if_neg (by decide +kernel)]; exact ⟨rfl, rfl⟩))
    (fun os started H enc _ => lifted os started H enc)
end grantPages
/-- The statement. -/
theorem grantPages_holds : Rows.GrantPagesSaid := grantPages.over
#print axioms grantPages_holds
end Go.Proofs.Ytnilcmmilplbgaa
