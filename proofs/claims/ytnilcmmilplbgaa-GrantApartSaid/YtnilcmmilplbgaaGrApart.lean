/-
  GrantApart: when a guest is gone, the grants among the others are as they were, and it has none, and none is made to it: for every input true, and the input reads as it did; no condition.
-/
import Derived.Test.YtnilcmmilplbgaaGrTold
import Derived.Test.YtnilcmmilplbgaaGrAlive
namespace Go.Proofs.Ytnilcmmilplbgaa
open Go.ChangeShapes Go.WideShapes Go.ChangeAt Go.RowKit Go.Deep
namespace grantApart
open Gr
open Ph (Only)
/-- The first grants. -/
def pre (g : Nat → GtT) (j : Nat) : List GtT := (List.range j).map g
theorem pre_len (g : Nat → GtT) (j : Nat) : (pre g j).length = j := by unfold pre; simp
theorem pre_next (g : Nat → GtT) (j : Nat) : pre g (j + 1) = pre g j ++ [g j] := by unfold pre; rw [List.range_succ, List.map_append]; rfl
theorem pre_at (g : Nat → GtT) {j n : Nat} (h : j < n) : (pre g n)[j]? = some (g j) := by unfold pre; simp [h]
theorem bx_same {W W' : World} {b : Nat} {x : GtT} (h : Bx6 W b x) (e : W'.heap[b]? = W.heap[b]?) (hs : W.heap.size ≤ W'.heap.size) : Bx6 W' b x :=
  ⟨Nat.lt_of_lt_of_le h.lt hs, fun k hk => (World.cell?_of_block (a := ⟨b, k, none⟩) (w := W) e).trans (h.c k hk), fun k hk => (World.frozen?_of_block (a := ⟨b, k, none⟩) (w := W) e).trans (h.fz k hk)⟩
set_option maxRecDepth 100000 in
/-- One grant is appended to a row; other blocks stay. -/
theorem step_app2 {ops : Array Oper} {rest : List Oper} {o : Oper} {a : Act} {Q : Exit → Act → World → Prop} (hgd : o.guard = none) (s x : Operand)
    (ho : o.op = .call { callee := .builtin .append, args := #[s, x], argTypes := #[48, 48] }) (B : Nat) (v : Value) (xs : List GtT) (z : GtT) (W : World)
    (hv : W.ownsRow B 37 6 v xs.length (flatG xs)) (hB : B ≤ W.heap.size) (hn : xs.length ≤ 64)
    (hs : a.eval s = v) (hx : a.eval x = .slice (some ⟨W.heap.size, 0, none⟩) 1 1)
    (h : ∀ v' W', W'.ownsRow B 37 6 v' (xs ++ [z]).length (flatG (xs ++ [z])) → Below B W W' → (∀ k, k < W.heap.size → some k ≠ v.ownBlock → W'.heap[k]? = W.heap[k]?) → wpList Try.prog ops Q rest (a.put o.dst v') W') :
    wpList Try.prog ops Q (o :: rest) a (W.alloc (.cells #[.int .i64 (sta z), .int .i64 (own z), .int .i64 (frm z), .int .i64 (too z), .int .i64 (pag z), .bool (wri z)] 37)) := by
  obtain ⟨i0, hi, hz0, hz1, hz2⟩ := info_parts infoG
  refine wpList_append_own _ hgd s x 48 ho B 37 i0 (.agg (encG gz).toArray) 6 48 Try.underlying48 hi hz0 hz1 hz2 rfl (by decide) v xs.length (flatG xs) hs (hv.alloc _) ⟨W.heap.size, 0, none⟩ 1 1 (encG z) hx rfl
    (World.news_of_block (cs := (encG z).toArray) (t := 37) (fr := (0, 0)) (heap_alloc_new W _)) (by simp [encG, Value.oneCell']) (by unfold maxLen; omega) (by omega) (by simp; omega) ?_
  intro v' W' hown hgrow _
  refine h v' W' ?_ ?_ (fun k hk hne => ?_)
  · rw [List.length_append, flatG_snoc]; exact hown
  · exact ((Below.refl B W).alloc hB _).grown hgrow (by simp; omega) (fun k hk => (hv.lt k hk).1)
  · have h1 := hgrow.block k (by simp; omega) hne
    rw [h1]
    exact ((Below.refl (k + 1) W).alloc (by omega) _).block k (by omega)
set_option maxRecDepth 100000 in
set_option maxHeartbeats 8000000 in
theorem walk (pa : Option Addr) (len cap : Nat) (y : Nat → GCallsT) (o : Int) (w : World) (hl : len ≤ cap ∧ cap ≤ maxLen) (hx : GCalls w.heap.size w pa len y) :
    Calls Try.prog 6 #[.slice pa len cap, .int .i64 o] w fun e w' => e = .returned (.bool true) ∧ Below w.heap.size w w' := by
  have HX := Lib.hid hx
  have hlm : len ≤ maxLen := by omega
  unfold maxLen at hlm
  clear hx hl
  have hz : ∀ w, (zeroValue 37).run Try.prog w = .ok (.agg #[.int .i64 0, .int .i64 0, .int .i64 0, .int .i64 0, .int .i64 0, .bool false]) w := fun _ => by kernel_rfl
  go_enter Try.func6, Try.ntmps6
  go_wp2_with fail
  refine (alive_any _).mono ?_
  rintro e w0 ⟨rfl, B0⟩
  by_cases g1 : 60 < len
  · have g1' : (60 : Int) < (len : Int) := by omega
    go_wp2
    go_ret
    exact ⟨rfl, B0⟩
  have g60 : len ≤ 60 := by omega
  have g60' : ¬ (60 : Int) < (len : Int) := by omega
  clear g1
  by_cases gao : o < 2
  · have gdo : decide (o < 2) = true := decide_eq_true gao
    go_wp2
    go_ret
    exact ⟨rfl, B0⟩
  have gdo : decide (o < 2) = false := decide_eq_false gao
  by_cases gbo : 9 < o
  · have gfo : decide (9 < o) = true := decide_eq_true gbo
    go_wp2
    go_ret
    exact ⟨rfl, B0⟩
  have gfo : decide (9 < o) = false := decide_eq_false gbo
  have HGO := Lib.hid (show 2 ≤ o ∧ o ≤ 9 by omega)
  clear gao gbo
  go_wp2_with fail
  refine (new_any w0).mono ?_
  rintro e w1 ⟨rfl, R1, O1⟩
  have B1 := Lib.hid (B0.trans (O1.below B0.size (by simp)))
  obtain ⟨P, hP⟩ : ∃ p, p = w0.heap.size := ⟨_, rfl⟩
  rw [← hP] at R1 ⊢
  have q1 : w.heap.size ≤ P := by have := B0.size; omega
  have z1 := R1.lt
  have R1' := Lib.hid R1
  clear hP B0 O1 R1
  go_wp2_with fail
  refine (rnew_any w1).mono ?_
  rintro e w2 ⟨rfl, Q2, O2⟩
  have B2 := Lib.hid (B1.out.trans (O2.below B1.out.size (by simp)))
  have D2 := Lib.hid (show Both w2 P (w1.heap.size + 1) w1.heap.size (fun _ => gz) from ⟨R1'.out.kept O2 (by simp), Q2, by omega, by omega, gv_new⟩)
  have q2 : w.heap.size ≤ w1.heap.size := B1.out.size
  have q3 : w.heap.size ≤ w1.heap.size + 1 := by omega
  obtain ⟨r, hr⟩ : ∃ r, r = w1.heap.size + 1 := ⟨_, rfl⟩
  obtain ⟨G, hG⟩ : ∃ g, g = w1.heap.size := ⟨_, rfl⟩
  rw [← hr, ← hG] at D2
  rw [← hr]
  rw [← hG] at q2
  rw [← hr] at q3
  clear hr hG B1 O2 Q2 R1' z1
  go_wp2_with fail
  go_loopw [7] (fun c wr => ∃ (i : Nat) (g : Nat → GtT), c = .int .i64 i ∧ i ≤ len ∧ Both wr P r G g ∧ Below w.heap.size w wr) (fun c _ => len - (intOf c).toNat)
  case atStart => exact ⟨0, _, rfl, Nat.zero_le _, D2.out, B2.out⟩
  case round =>
    obtain ⟨i, g, rfl, hi, hD, hB⟩ := hrel
    have DR := Lib.hid hD
    have BR := Lib.hid hB
    clear D2 B2
    by_cases hlt : i < len
    · obtain ⟨b, off, rfl, hbl, hC⟩ := HX.out.at hB hlt
      have c0 := hC.c0
      have c1 := hC.c1
      have c2 := hC.c2
      have c3 := hC.c3
      have c4 := hC.c4
      have c5 := hC.c5
      generalize y i = c at *
      have hi0 : (0 : Int) ≤ (i : Int) := by omega
      have hil : (i : Int) < (len : Int) := by omega
      have hwr := hB.size
      have HI := Lib.hid hi
      clear hC hD hB HX hi
      go_wp2_with fail
      refine (told_any P r G c g _ DR.out).mono ?_
      rintro e w3 ⟨rfl, D3, O3⟩
      have B3 := Lib.hid (BR.out.trans (O3.below (B := w.heap.size) BR.out.size (by simp; omega)))
      have D3' := Lib.hid D3
      clear c0 c1 c2 c3 c4 c5 DR BR O3 D3 hwr
      generalize toldP c g = ng at *
      go_wp2_with fail
      go_roundw
      case rel => exact ⟨i + 1, ng, by simp, by have := HI.out; omega, D3'.out, B3.out⟩
      case measure => simp only [intOf, Int.toNat_natCast]; omega
    · obtain rfl : i = len := by omega
      have RR := Lib.hid hD.p
      have VR := Lib.hid hD.gv
      have zP := hD.p.lt
      clear hD hB HX DR
      have W0 := Lib.hid (World.ownsRow_lit (e := 37) (size := 6) wr #[] 0 (Nat.le_refl _) (by unfold maxLen; omega) (by simp))
      have oA := Only.alloc [] wr (.cells #[] 37)
      have R4 := Lib.hid (RR.out.kept oA (by simp))
      have B4 := Lib.hid (BR.out.trans (oA.below (B := w.heap.size) BR.out.size (by simp)))
      have qb := BR.out.size
      obtain ⟨base, hbase⟩ : ∃ q, q = wr.heap.size := ⟨_, rfl⟩
      rw [← hbase] at W0 zP qb
      clear oA RR BR
      go_wp2_with fail
      rw [← hbase]
      clear hbase
      generalize wr.alloc (.cells #[] 37) = wb at *
      go_loopw [8, 9, 10] (fun v q c wq => ∃ j : Nat, c = .int .i64 j ∧ j ≤ 32 ∧ q = .int .i64 (cntO o g j : Nat) ∧ wq.ownsRow base 37 6 v (pre g j).length (flatG (pre g j)) ∧ Row6 wq P g ∧ base ≤ wq.heap.size ∧ Below w.heap.size w wq) (fun _ _ c _ => 32 - (intOf c).toNat)
      case atStart => exact ⟨0, rfl, Nat.zero_le _, rfl, W0.out, R4.out, Nat.le_of_lt (W0.out.lt base rfl).2, B4.out⟩
      case round =>
        obtain ⟨j, rfl, hj, rfl, hW, hR, hbs, hB⟩ := hrel
        have WR := Lib.hid hW
        have R2 := Lib.hid hR
        have B2 := Lib.hid hB
        clear hW hR hB W0 R4 B4
        by_cases hjl : j < 32
        · go_wp2_with fail
          refine (get_any P j g _ R2.out).mono ?_
          rintro e w3 ⟨he, hO⟩
          rw [show getP g j = g j by unfold getP; rw [idk_in hjl]; rfl] at he
          have GN := Lib.hid (pre_next g j)
          have CN := Lib.hid (cntO_next o g j)
          have CL := Lib.hid (gonL_len o g j)
          have hof : isOf o (g j) = (sta (g j) != 0 && (own (g j) == o || too (g j) == o)) := rfl
          have HOF := Lib.hid hof
          clear hof
          obtain ⟨x, hx⟩ : ∃ x, x = g j := ⟨_, rfl⟩
          rw [← hx] at he GN CN HOF
          clear hx
          have R3 := Lib.hid (R2.out.kept hO (by simp))
          have W3 := Lib.hid (owns_only WR.out hO (by simp))
          have B3 := Lib.hid (B2.out.trans (hO.below (B := w.heap.size) B2.out.size (by simp)))
          have z3 := B3.out.size
          have qs : base ≤ w3.heap.size := Nat.le_trans hbs hO.size
          clear hO R2 WR B2
          obtain ⟨xs, xo, xf, xt, xp, xw⟩ := x
          replace he : e = .returned (.agg #[.int .i64 xs, .int .i64 xo, .int .i64 xf, .int .i64 xt, .int .i64 xp, .bool xw]) := he
          subst he
          have oA := Only.alloc [] w3 (.cells #[.int .i64 xs, .int .i64 xo, .int .i64 xf, .int .i64 xt, .int .i64 xp, .bool xw] 37)
          have R4 := Lib.hid (R3.out.kept oA (by simp))
          have W4 := Lib.hid (owns_only W3.out oA (by simp))
          have B4 := Lib.hid (B3.out.trans (oA.below (B := w.heap.size) B3.out.size (by simp)))
          have X4 := Lib.hid (Bx6.new w3 (xs, xo, xf, xt, xp, xw) 37 rfl)
          have OB := Lib.hid (fun k hk => (W3.out.lt k hk).2)
          have qn := oA.size
          clear oA R3 W3 B3
          have hpl : (pre g j).length ≤ 64 := by rw [pre_len]; omega
          have cb32 : cntO o g j ≤ 32 := by have := CL.out; unfold cntO; omega
          have qp : w3.heap.size < (w3.alloc (.cells #[.int .i64 xs, .int .i64 xo, .int .i64 xf, .int .i64 xt, .int .i64 xp, .bool xw] 37)).heap.size := X4.out.lt
          cases d0 : xs != 0 with
          | false =>
            go_wp2_with (at_builtin; refine step_app2 rfl (.tmp 50) (.tmp 52) rfl base _ (pre g j) (xs, xo, xf, xt, xp, xw) (w3.alloc (.cells #[.int .i64 xs, .int .i64 xo, .int .i64 xf, .int .i64 xt, .int .i64 xp, .bool xw] 37)) W4.out (by omega) hpl rfl (by rw [World.size_alloc]; rfl) ?_; intro v' w5 hown hb hf; have X5 := bx_same X4.out (hf w3.heap.size (by omega) (fun h => by have := OB.out _ h.symm; omega)) hb.size; have OW := Lib.hid hown; have BW := Lib.hid hb; have x0 := X5.c 0 (by omega); have x1 := X5.c 1 (by omega); have x3 := X5.c 3 (by omega); have l5 := X5.lt; simp only [gC] at x0 x1 x3; clear hown hb hf X5)
            have R5 := Lib.hid (R4.out.keptB BW.out zP)
            have B5 := Lib.hid (B4.out.trans (BW.out.mono qb))
            have q5 : base ≤ w5.heap.size := Nat.le_trans (by omega) BW.out.size
            clear x0 x1 x3 l5 R4 B4 W4 X4 BW OB
            go_roundw
            case rel => exact ⟨j + 1, by simp, by omega, by rw [CN.out, HOF.out]; simp [d0], by rw [GN.out]; exact OW.out, R5.out, q5, B5.out⟩
            case measure => simp only [intOf, Int.toNat_natCast]; omega
          | true =>
            cases d1 : xo == o with
            | true =>
              go_wp2_with (at_builtin; refine step_app2 rfl (.tmp 50) (.tmp 52) rfl base _ (pre g j) (xs, xo, xf, xt, xp, xw) (w3.alloc (.cells #[.int .i64 xs, .int .i64 xo, .int .i64 xf, .int .i64 xt, .int .i64 xp, .bool xw] 37)) W4.out (by omega) hpl rfl (by rw [World.size_alloc]; rfl) ?_; intro v' w5 hown hb hf; have X5 := bx_same X4.out (hf w3.heap.size (by omega) (fun h => by have := OB.out _ h.symm; omega)) hb.size; have OW := Lib.hid hown; have BW := Lib.hid hb; have x0 := X5.c 0 (by omega); have x1 := X5.c 1 (by omega); have x3 := X5.c 3 (by omega); have l5 := X5.lt; simp only [gC] at x0 x1 x3; clear hown hb hf X5)
              have R5 := Lib.hid (R4.out.keptB BW.out zP)
              have B5 := Lib.hid (B4.out.trans (BW.out.mono qb))
              have q5 : base ≤ w5.heap.size := Nat.le_trans (by omega) BW.out.size
              clear x0 x1 x3 l5 R4 B4 W4 X4 BW OB
              go_roundw
              case rel => exact ⟨j + 1, by simp, by omega, by rw [CN.out, HOF.out]; simp [d0, d1], by rw [GN.out]; exact OW.out, R5.out, q5, B5.out⟩
              case measure => simp only [intOf, Int.toNat_natCast]; omega
            | false =>
              cases d2 : xt == o with
              | true =>
                go_wp2_with (at_builtin; refine step_app2 rfl (.tmp 50) (.tmp 52) rfl base _ (pre g j) (xs, xo, xf, xt, xp, xw) (w3.alloc (.cells #[.int .i64 xs, .int .i64 xo, .int .i64 xf, .int .i64 xt, .int .i64 xp, .bool xw] 37)) W4.out (by omega) hpl rfl (by rw [World.size_alloc]; rfl) ?_; intro v' w5 hown hb hf; have X5 := bx_same X4.out (hf w3.heap.size (by omega) (fun h => by have := OB.out _ h.symm; omega)) hb.size; have OW := Lib.hid hown; have BW := Lib.hid hb; have x0 := X5.c 0 (by omega); have x1 := X5.c 1 (by omega); have x3 := X5.c 3 (by omega); have l5 := X5.lt; simp only [gC] at x0 x1 x3; clear hown hb hf X5)
                have R5 := Lib.hid (R4.out.keptB BW.out zP)
                have B5 := Lib.hid (B4.out.trans (BW.out.mono qb))
                have q5 : base ≤ w5.heap.size := Nat.le_trans (by omega) BW.out.size
                clear x0 x1 x3 l5 R4 B4 W4 X4 BW OB
                go_roundw
                case rel => exact ⟨j + 1, by simp, by omega, by rw [CN.out, HOF.out]; simp [d0, d1, d2], by rw [GN.out]; exact OW.out, R5.out, q5, B5.out⟩
                case measure => simp only [intOf, Int.toNat_natCast]; omega
              | false =>
                go_wp2_with (at_builtin; refine step_app2 rfl (.tmp 50) (.tmp 52) rfl base _ (pre g j) (xs, xo, xf, xt, xp, xw) (w3.alloc (.cells #[.int .i64 xs, .int .i64 xo, .int .i64 xf, .int .i64 xt, .int .i64 xp, .bool xw] 37)) W4.out (by omega) hpl rfl (by rw [World.size_alloc]; rfl) ?_; intro v' w5 hown hb hf; have X5 := bx_same X4.out (hf w3.heap.size (by omega) (fun h => by have := OB.out _ h.symm; omega)) hb.size; have OW := Lib.hid hown; have BW := Lib.hid hb; have x0 := X5.c 0 (by omega); have x1 := X5.c 1 (by omega); have x3 := X5.c 3 (by omega); have l5 := X5.lt; simp only [gC] at x0 x1 x3; clear hown hb hf X5)
                have R5 := Lib.hid (R4.out.keptB BW.out zP)
                have B5 := Lib.hid (B4.out.trans (BW.out.mono qb))
                have q5 : base ≤ w5.heap.size := Nat.le_trans (by omega) BW.out.size
                clear x0 x1 x3 l5 R4 B4 W4 X4 BW OB
                go_roundw
                case rel => exact ⟨j + 1, by simp, by omega, by rw [CN.out, HOF.out]; simp [d0, d1, d2], by rw [GN.out]; exact OW.out, R5.out, q5, B5.out⟩
                case measure => simp only [intOf, Int.toNat_natCast]; omega
        · obtain rfl : j = 32 := by omega
          go_wp2_with fail
          refine (gone_any P o g _ R2.out).mono ?_
          rintro e w3 ⟨v3, rfl, S3, hR3, hO3⟩
          obtain ⟨va, vc, rfl⟩ := S3.form
          have R3 := Lib.hid hR3
          have W3 := Lib.hid (owns_only WR.out hO3 (by simp; exact zP))
          have B3 := Lib.hid (B2.out.trans (hO3.below (B := w.heap.size) B2.out.size (by simp; omega)))
          rw [show cntO o g 32 = (gonL o g 32).length from rfl]
          clear S3 hR3 hO3 R2 WR B2
          go_wp2_with fail
          go_loopw [12] (fun c wq => ∃ m : Nat, c = .int .i64 m ∧ m ≤ 32 ∧ wq.ownsRow base 37 6 u8 (pre g 32).length (flatG (pre g 32)) ∧ Row6 wq P (gonP g o) ∧ Below w.heap.size w wq) (fun c _ => 32 - (intOf c).toNat)
          case atStart => exact ⟨0, rfl, Nat.zero_le _, W3.out, R3.out, B3.out⟩
          case round =>
            obtain ⟨m, rfl, hm, hW, hR, hB⟩ := hrel
            have WR := Lib.hid hW
            have R2 := Lib.hid hR
            have B2 := Lib.hid hB
            clear hW hR hB W3 R3 B3
            by_cases hml : m < 32
            · go_wp2_with fail
              refine (get_any P m (gonP g o) _ R2.out).mono ?_
              rintro e w4 ⟨he, hO⟩
              rw [show getP (gonP g o) m = gonP g o m by unfold getP; rw [idk_in hml]; rfl] at he
              have GN := Lib.hid (gone_none (g := g) o hml)
              have FAR := Lib.hid (fun h => gone_far (g := g) o (j := m) h)
              have PA := Lib.hid (pre_at g (n := 32) hml)
              obtain ⟨z, hz2⟩ : ∃ z, z = gonP g o m := ⟨_, rfl⟩
              obtain ⟨x, hx⟩ : ∃ x, x = g m := ⟨_, rfl⟩
              rw [← hz2] at he GN FAR
              rw [← hx] at FAR PA
              clear hz2 hx
              have R3 := Lib.hid (R2.out.kept hO (by simp))
              have W3 := Lib.hid (owns_only WR.out hO (by simp))
              have B3 := Lib.hid (B2.out.trans (hO.below (B := w.heap.size) B2.out.size (by simp)))
              clear hO R2 WR B2
              obtain ⟨zs, zo, zf, zt, zp, zw⟩ := z
              replace he : e = .returned (.agg #[.int .i64 zs, .int .i64 zo, .int .i64 zf, .int .i64 zt, .int .i64 zp, .bool zw]) := he
              subst he
              have oA := Only.alloc [] w4 (.cells #[.int .i64 zs, .int .i64 zo, .int .i64 zf, .int .i64 zt, .int .i64 zp, .bool zw] 37)
              have R5 := Lib.hid (R3.out.kept oA (by simp))
              have W5 := Lib.hid (owns_only W3.out oA (by simp))
              have B5 := Lib.hid (B3.out.trans (oA.below (B := w.heap.size) B3.out.size (by simp)))
              have X5 := Lib.hid (Bx6.new w4 (zs, zo, zf, zt, zp, zw) 37 rfl)
              obtain ⟨bb, bc, hv, hbl2, hbB, hcc⟩ := (row_seen W5.out).at PA.out
              clear oA R3 W3 B3
              have nof : isOf o (zs, zo, zf, zt, zp, zw) = (zs != 0 && (zo == o || zt == o)) := rfl
              rw [nof] at GN
              clear nof
              have g0 := hcc 0 (by omega)
              have g1 := hcc 1 (by omega)
              have g2 := hcc 2 (by omega)
              have g3 := hcc 3 (by omega)
              have g4 := hcc 4 (by omega)
              have g5 := hcc 5 (by omega)
              simp only [gC, Nat.add_zero] at g0 g1 g2 g3 g4 g5
              have hpl : (pre g 32).length = 32 := pre_len g 32
              rw [hpl] at hv
              subst hv
              have RL := Lib.hid (fun (u : World) (h : Only [] (w4.alloc (.cells #[.int .i64 zs, .int .i64 zo, .int .i64 zf, .int .i64 zt, .int .i64 zp, .bool zw] 37)) u) => (show u.ownsRow base 37 6 (.slice (some ⟨bb, 0, none⟩) 32 bc) (pre g 32).length (flatG (pre g 32)) ∧ Row6 u P (gonP g o) ∧ Below w.heap.size w u from ⟨owns_only W5.out h (by simp), R5.out.kept h (by simp), B5.out.trans (h.below B5.out.size (by simp))⟩))
              clear hcc R5 W5 B5 hpl
              obtain ⟨xs, xo, xf, xt, xp, xw⟩ := x
              have mi : (m : Int) < 32 := by omega
              have mi0 : (0 : Int) ≤ (m : Int) := by omega
              cases d0 : zs != 0 with
              | false =>
                by_cases e1 : xo = o
                · have h1 : (xo != o) = false := by simpa using e1
                  clear e1 FAR PA GN
                  go_wp2_with fail
                  go_quiet (fail)
                  go_wp2_with fail
                  obtain ⟨r1, r2, r3⟩ := RL.out _ (Only.drewN [] _ nq)
                  go_roundw
                  case rel => exact ⟨m + 1, by simp, by omega, r1, r2, r3⟩
                  case measure => simp only [intOf, Int.toNat_natCast]; omega
                · have h1 : (xo != o) = true := by simpa using e1
                  by_cases e2 : xt = o
                  · have h2 : (xt != o) = false := by simpa using e2
                    clear e1 e2 FAR PA GN
                    go_wp2_with fail
                    go_quiet (fail)
                    go_wp2_with fail
                    obtain ⟨r1, r2, r3⟩ := RL.out _ (Only.drewN [] _ nq)
                    go_roundw
                    case rel => exact ⟨m + 1, by simp, by omega, r1, r2, r3⟩
                    case measure => simp only [intOf, Int.toNat_natCast]; omega
                  · have h2 : (xt != o) = true := by simpa using e2
                    have hfar := FAR.out (by unfold isOf; simp [e1, e2])
                    simp only [Prod.mk.injEq] at hfar
                    obtain ⟨rfl, rfl, rfl, rfl, rfl, rfl⟩ := hfar
                    have eE : ∀ w, (binOp .neq 37 (.agg #[.int .i64 zs, .int .i64 zo, .int .i64 zf, .int .i64 zt, .int .i64 zp, .bool zw]) (.agg #[.int .i64 zs, .int .i64 zo, .int .i64 zf, .int .i64 zt, .int .i64 zp, .bool zw])).run Try.prog w = .ok (.bool false) w := fun w => by
                      have h := neqG (zs, zo, zf, zt, zp, zw) (zs, zo, zf, zt, zp, zw) w
                      rw [decide_eq_true rfl] at h
                      exact h
                    clear e1 e2 FAR PA GN
                    go_wp2_with fail
                    go_quiet (fail)
                    go_wp2_with fail
                    obtain ⟨r1, r2, r3⟩ := RL.out _ (Only.drewN [] _ nq)
                    go_roundw
                    case rel => exact ⟨m + 1, by simp, by omega, r1, r2, r3⟩
                    case measure => simp only [intOf, Int.toNat_natCast]; omega
              | true =>
                have gn := GN.out
                rw [d0, Bool.true_and, Bool.or_eq_false_iff] at gn
                obtain ⟨d1, d2⟩ := gn
                by_cases e1 : xo = o
                · have h1 : (xo != o) = false := by simpa using e1
                  clear e1 FAR PA GN
                  go_wp2_with fail
                  go_quiet (fail)
                  go_wp2_with fail
                  obtain ⟨r1, r2, r3⟩ := RL.out _ (Only.drewN [] _ nq)
                  go_roundw
                  case rel => exact ⟨m + 1, by simp, by omega, r1, r2, r3⟩
                  case measure => simp only [intOf, Int.toNat_natCast]; omega
                · have h1 : (xo != o) = true := by simpa using e1
                  by_cases e2 : xt = o
                  · have h2 : (xt != o) = false := by simpa using e2
                    clear e1 e2 FAR PA GN
                    go_wp2_with fail
                    go_quiet (fail)
                    go_wp2_with fail
                    obtain ⟨r1, r2, r3⟩ := RL.out _ (Only.drewN [] _ nq)
                    go_roundw
                    case rel => exact ⟨m + 1, by simp, by omega, r1, r2, r3⟩
                    case measure => simp only [intOf, Int.toNat_natCast]; omega
                  · have h2 : (xt != o) = true := by simpa using e2
                    have hfar := FAR.out (by unfold isOf; simp [e1, e2])
                    simp only [Prod.mk.injEq] at hfar
                    obtain ⟨rfl, rfl, rfl, rfl, rfl, rfl⟩ := hfar
                    have eE : ∀ w, (binOp .neq 37 (.agg #[.int .i64 zs, .int .i64 zo, .int .i64 zf, .int .i64 zt, .int .i64 zp, .bool zw]) (.agg #[.int .i64 zs, .int .i64 zo, .int .i64 zf, .int .i64 zt, .int .i64 zp, .bool zw])).run Try.prog w = .ok (.bool false) w := fun w => by
                      have h := neqG (zs, zo, zf, zt, zp, zw) (zs, zo, zf, zt, zp, zw) w
                      rw [decide_eq_true rfl] at h
                      exact h
                    clear e1 e2 FAR PA GN
                    go_wp2_with fail
                    go_quiet (fail)
                    go_wp2_with fail
                    obtain ⟨r1, r2, r3⟩ := RL.out _ (Only.drewN [] _ nq)
                    go_roundw
                    case rel => exact ⟨m + 1, by simp, by omega, r1, r2, r3⟩
                    case measure => simp only [intOf, Int.toNat_natCast]; omega
            · obtain rfl : m = 32 := by omega
              go_wp2_with fail
              go_ret
              exact ⟨rfl, B2.out⟩
set_option maxRecDepth 100000 in
theorem lifted (os : Os) (started : os.Started) (H : Type) (enc : TypeId × Value → H) :
    ReturnsInHanded {} Try.checked os 6 .any (Rows.grantApartSpec.pre6 enc Try.prog Try.f6 Rows.grantApartRow.domain false) (Rows.grantApartSpec.post enc Try.prog Try.f6 false true false false) := by
  refine returnsInHanded_of_change_sized (C := Try.checked) ownK started (by kernel_rfl) Try.func6
    (ChangeSpec.witness6 (enc := enc) (C := Try.checked) false ⟨#[], #[.slice none 0 0, .int .i64 0], []⟩ 8 (by kernel_rfl) (by kernel_rfl) (by kernel_rfl) (by kernel_rfl)) ?_
  intro W base args ds gs before hval0 hW hcnd hZ0 _
  have hval : ∀ (j : Nat) t v, Try.f6.params[j]? = some t → args[j]? = some v → Value.okWide Try.prog W .any base t v := hval0
  have hZ : ∀ n ∈ DataW.weightsEach Try.prog (Try.f6.params.toList ++ []) (ds ++ gs), n ≤ reachBytes := fun n hn => of_decide_eq_true (List.all_eq_true.1 hZ0 n hn)
  have hW' := hW
  obtain ⟨p, q, hA0, hV, rfl, hfz, hnd⟩ := hW
  have hA : DataW.TrodAll enc Try.prog W 0 (fun _ => true) true Try.f6.params.toList args.toList ds p := hA0
  rw [Try.params6] at hA hval hZ
  obtain ⟨v0, vs0, d0, ds0, p0, q0, hargs, rfl, rfl, h0, r0⟩ := trodAll_cons hA
  obtain ⟨v1, vs1, d1, ds1, p1, q1, rfl, rfl, rfl, h1, r1⟩ := trodAll_cons r0
  obtain ⟨rfl, rfl, rfl⟩ := trodAll_nil r1
  obtain rfl : args = #[v0, v1] := by cases args; simp_all
  obtain ⟨rfl, rfl⟩ := trodVars_none hV
  have k0 := h0
  have hz0 : ∀ n ∈ d0.weights Try.prog 22, n ≤ reachBytes := fun n hn => hZ n (by simp only [List.append_nil, DataW.weightsEach, List.mem_append]; exact Or.inl hn)
  obtain ⟨a0, n0, c0, y0, rfl, m0, lt0, z0⟩ := gcalls_open (hval 0 22 v0 rfl rfl) h0 hz0
  obtain ⟨x1, rfl, rfl, rfl, w1⟩ := open_int Try.underlying3 (hval 1 3 v1 rfl rfl) h1
  clear hA0 hval0 hZ0
  refine (walk a0 n0 c0 y0 x1 W m0 z0).mono fun e W' ⟨he, ho⟩ => ?_
  subst he
  have bel : Below W.heap.size W W' := ho
  exact ⟨_, rfl, _, _, _, [], _, [], hW', trodAll_mk1 (shut_bool Try.underlying4 _), (trodAll_cons_mk (Below.trod laidOut (by kernel_rfl) (of_decide_eq_true (by kernel_rfl)) k0 bel lt0) (trodAll_cons_mk (shut_int Try.underlying3 w1) trodAll_mk0)), rfl, bel.frame _, fun h => by cases h⟩
theorem over : Rows.grantApartRow.holds Try.pinned (OpenSpec.ofChange Rows.grantApartSpec) :=
  OpenClaim.holds_of_wide 6 Try.f6 rfl rfl rfl rfl rfl rfl rfl ⟨rfl, rfl, rfl, rfl, rfl⟩ rfl rfl rfl rfl rfl (by kernel_rfl) Try.func6 (by kernel_rfl)
    (of_decide_eq_true (by kernel_rfl)) (by unfold Func.isWrapper; first | (rw [if_pos (by decide +kernel)]; kernel_rfl) | (rw [if_neg (by decide +kernel)]; exact ⟨rfl, rfl⟩))
    (fun os started H enc _ => lifted os started H enc)
end grantApart
/-- The statement. -/
theorem grantApart_holds : Rows.GrantApartSaid := grantApart.over
#print axioms grantApart_holds
end Go.Proofs.Ytnilcmmilplbgaa
