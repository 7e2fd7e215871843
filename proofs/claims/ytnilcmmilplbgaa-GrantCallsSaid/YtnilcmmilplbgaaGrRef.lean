/-
  What the document's own New, At, Offer, Accept, Leave and Revoke answer, and leave. Conditions: that its grants lie there, and are ones.
-/
import Derived.Test.YtnilcmmilplbgaaGrDo
namespace Go.Proofs.Ytnilcmmilplbgaa
open Go.RowKit
namespace Gr
open Ph (Only)
/-- The document's own grants: their place, their block. -/
structure RGr (w : World) (r G : Nat) (g : Nat → GtT) : Prop where
  lt : r < w.heap.size
  ne : r ≠ G
  head : w.cell? ⟨r, 0, none⟩ = some (.slice (some ⟨G, 0, none⟩) 32 32)
  row : Row6 w G g
theorem RGr.kept {w w' : World} {r G : Nat} {g : Nat → GtT} {S : List Nat} (h : RGr w r G g) (ho : Only S w w') (hr : r ∉ S) (hG : G ∉ S) : RGr w' r G g :=
  ⟨Nat.lt_of_lt_of_le h.lt ho.size, h.ne, (ho.cell h.lt hr 0).trans h.head, h.row.kept ho hG⟩
/-- Its grants are turned. -/
theorem RGr.with {w w' : World} {r G : Nat} {g g' : Nat → GtT} {S : List Nat} (h : RGr w r G g) (ho : Only S w w') (hr : r ∉ S) (h' : Row6 w' G g') : RGr w' r G g' :=
  ⟨Nat.lt_of_lt_of_le h.lt ho.size, h.ne, (ho.cell h.lt hr 0).trans h.head, h'⟩
theorem rguest_any (n : Int) (w : World) :
    Calls Try.prog 36 #[.int .i64 n] w fun e w' => e = .returned (.bool (gst n)) ∧ w = w' := by
  by_cases h : 2 ≤ n
  · have d : decide (2 ≤ n) = true := decide_eq_true h
    have e : gst n = decide (n ≤ 9) := by unfold gst; rw [d]; simp
    rw [e]
    clear e
    go_enter Try.func36, Try.ntmps36
    go_wp2
    go_ret
    exact ⟨rfl, rfl⟩
  · have d : decide (2 ≤ n) = false := decide_eq_false h
    have e : gst n = false := by unfold gst; rw [d]; simp
    rw [e]
    clear e
    go_enter Try.func36, Try.ntmps36
    go_wp2
    go_ret
    exact ⟨rfl, rfl⟩
theorem rid_any (n : Int) (w : World) :
    Calls Try.prog 37 #[.int .i64 n] w fun e w' => e = .returned (.bool (idk n)) ∧ w = w' := by
  by_cases h : 0 ≤ n
  · have d : decide (0 ≤ n) = true := decide_eq_true h
    have e : idk n = decide (n < 32) := by unfold idk; rw [d]; simp
    rw [e]
    clear e
    go_enter Try.func37, Try.ntmps37
    go_wp2
    go_ret
    exact ⟨rfl, rfl⟩
  · have d : decide (0 ≤ n) = false := decide_eq_false h
    have e : idk n = false := by unfold idk; rw [d]; simp
    rw [e]
    clear e
    go_enter Try.func37, Try.ntmps37
    go_wp2
    go_ret
    exact ⟨rfl, rfl⟩
theorem made_rows (wx : World) : (Instr.makeSlice 33 (.int .i64 32) (.int .i64 32)).run Try.prog wx = .ok (.slice (some ⟨wx.heap.size, 0, none⟩) 32 32) (wx.alloc (.cells zG 32)) := by kernel_rfl
theorem rnew_any (w : World) :
    Calls Try.prog 10 #[] w fun e w' => e = .returned (.pointer (some ⟨w.heap.size + 1, 0, none⟩)) ∧ RGr w' (w.heap.size + 1) w.heap.size (fun _ => gz) ∧ Only [] w w' := by
  have hm := fun wx => made_rows wx
  have hr := Lib.hid (row_made w 32)
  go_enter Try.func10, Try.ntmps10
  go_wp2_with fail
  go_ret
  have ho := Only.alloc [] (w.alloc (.cells zG 32)) (.cells #[.slice (some ⟨w.heap.size, 0, none⟩) 32 32] 35)
  refine ⟨rfl, ⟨by simp, by omega, ?_, hr.out.kept ho (by simp)⟩, (Only.alloc [] w _).trans ho⟩
  have h := World.cell?_alloc_new (w.alloc (.cells zG 32)) #[.slice (some ⟨w.heap.size, 0, none⟩) 32 32] 35 0
  rw [World.size_alloc] at h
  exact h
set_option maxRecDepth 100000 in
theorem rat_any (r G : Nat) (t p : Int) (g : Nat → GtT) (w : World) (hR : RGr w r G g) :
    Calls Try.prog 16 #[.pointer (some ⟨r, 0, none⟩), .int .i64 t, .int .i64 p] w fun e w' => e = .returned (.int .i64 (atP g t p)) ∧ w = w' := by
  have hh := hR.head
  have hlt := hR.lt
  have HR := Lib.hid hR
  clear hR
  go_enter Try.func16, Try.ntmps16
  go_wp2_with fail
  go_loopw [7] (fun c wr => ∃ i : Nat, c = .int .i64 i ∧ i ≤ 32 ∧ (∀ j, j < i → isAt t p (g j) = false) ∧ w = wr) (fun c _ => 32 - (intOf c).toNat)
  case atStart => exact ⟨0, rfl, Nat.zero_le _, fun j hj => absurd hj (by omega), rfl⟩
  case round =>
    obtain ⟨i, rfl, hi, hno, rfl⟩ := hrel
    have HNO := Lib.hid hno
    clear hno
    by_cases hil : i < 32
    · have hlr := HR.out.row.lt
      have k0 := HR.out.row.c0 hil
      have k1 := HR.out.row.c1 hil
      have k2 := HR.out.row.c2 hil
      have k3 := HR.out.row.c3 hil
      have k4 := HR.out.row.c4 hil
      have k5 := HR.out.row.c5 hil
      obtain ⟨x, hx⟩ : ∃ x, x = g i := ⟨_, rfl⟩
      have HX := Lib.hid hx
      rw [← hx] at k0 k1 k2 k3 k4 k5
      clear hx
      obtain ⟨xs, xo, xf, xt, xp, xw⟩ := x
      cases d0 : xs == 2 with
      | false =>
        go_wp2_with fail
        go_roundw
        case rel =>
          refine ⟨i + 1, rfl, by omega, fun j hj => ?_, by trivial⟩
          by_cases e : j = i
          · subst e; rw [← HX.out]; simp [isAt, d0]
          · exact HNO.out j (by omega)
        case measure => simp only [intOf, Int.toNat_natCast]; omega
      | true =>
        cases d1 : xt == t with
        | false =>
          go_wp2_with fail
          go_roundw
          case rel =>
            refine ⟨i + 1, rfl, by omega, fun j hj => ?_, by trivial⟩
            by_cases e : j = i
            · subst e; rw [← HX.out]; simp [isAt, d0, d1]
            · exact HNO.out j (by omega)
          case measure => simp only [intOf, Int.toNat_natCast]; omega
        | true =>
          cases d2 : xp == p with
          | false =>
            go_wp2_with fail
            go_roundw
            case rel =>
              refine ⟨i + 1, rfl, by omega, fun j hj => ?_, by trivial⟩
              by_cases e : j = i
              · subst e; rw [← HX.out]; simp [isAt, d0, d1, d2]
              · exact HNO.out j (by omega)
            case measure => simp only [intOf, Int.toNat_natCast]; omega
          | true =>
            go_wp2_with fail
            go_ret
            rw [show atP g t p = (i : Int) by unfold atP; rw [lst_at hil (isAt_iff.2 (by simp only [← HX.out]; exact ⟨by simpa using d0, by simpa using d1, by simpa using d2⟩)) HNO.out]]
            exact ⟨rfl, rfl⟩
    · obtain rfl : i = 32 := by omega
      go_wp2_with fail
      go_ret
      rw [show atP g t p = -1 by unfold atP; rw [lst_no HNO.out]]
      exact ⟨rfl, rfl⟩
set_option maxRecDepth 100000 in
set_option maxHeartbeats 4000000 in
theorem roffer_any (r G : Nat) (o f t : Int) (v : Bool) (g : Nat → GtT) (w : World) (hR : RGr w r G g) (hg : Gv g) :
    Calls Try.prog 22 #[.pointer (some ⟨r, 0, none⟩), .int .i64 o, .int .i64 f, .int .i64 t, .bool v] w fun e w' => e = .returned (.tuple #[.int .i64 (offP g o f t v).1, .int .i64 (offP g o f t v).2.1]) ∧ RGr w' r G (offP g o f t v).2.2 ∧ Only [G] w w' := by
  have hlt := hR.lt
  have hh := hR.head
  have HR := Lib.hid hR
  have HG := Lib.hid hg
  obtain ⟨ans, hans⟩ : ∃ ans, ans = offP g o f t v := ⟨_, rfl⟩
  rw [← hans]
  clear hR hg
  cases g1 : gst o with
  | false =>
    obtain rfl := hans.trans (off_range (Or.inl g1))
    clear hans
    go_enter Try.func22, Try.ntmps22
    go_wp2_with (first | (go_at_call 36; with_reducible refine (rguest_any o _).mono ?_; rintro e w1 ⟨rfl, rfl⟩; rw [g1]))
    go_ret2
    exact ⟨rfl, HR.out, Only.refl _ _⟩
  | true =>
  cases g2 : gst t with
  | false =>
    obtain rfl := hans.trans (off_range (Or.inr (Or.inl g2)))
    clear hans
    go_enter Try.func22, Try.ntmps22
    go_wp2_with (first | (go_at_call 36; with_reducible refine (rguest_any o _).mono ?_; rintro e w1 ⟨rfl, rfl⟩; rw [g1]) | (go_at_call 36; with_reducible refine (rguest_any t _).mono ?_; rintro e w1 ⟨rfl, rfl⟩; rw [g2]))
    go_ret2
    exact ⟨rfl, HR.out, Only.refl _ _⟩
  | true =>
  by_cases h3 : o = t
  · subst h3
    obtain rfl := hans.trans (off_range (Or.inr (Or.inr (Or.inl rfl))))
    clear hans
    go_enter Try.func22, Try.ntmps22
    go_wp2_with (first | (go_at_call 36; with_reducible refine (rguest_any o _).mono ?_; rintro e w1 ⟨rfl, rfl⟩; rw [g1]))
    go_ret2
    exact ⟨rfl, HR.out, Only.refl _ _⟩
  have d3 : (o == t) = false := by simpa using h3
  by_cases h4 : f < 0
  · have d4 : decide (f < 0) = true := decide_eq_true h4
    obtain rfl := hans.trans (off_range (Or.inr (Or.inr (Or.inr h4))))
    clear hans
    go_enter Try.func22, Try.ntmps22
    go_wp2_with (first | (go_at_call 36; with_reducible refine (rguest_any o _).mono ?_; rintro e w1 ⟨rfl, rfl⟩; rw [g1]) | (go_at_call 36; with_reducible refine (rguest_any t _).mono ?_; rintro e w1 ⟨rfl, rfl⟩; rw [g2]))
    go_ret2
    exact ⟨rfl, HR.out, Only.refl _ _⟩
  have d4 : decide (f < 0) = false := decide_eq_false h4
  have hin := off_in (g := g) (f := f) (v := v) g1 g2 h3 (by omega)
  have HIN := Lib.hid hin
  clear hin h3 h4
  go_enter Try.func22, Try.ntmps22
  go_wp2_with (first | (go_at_call 36; with_reducible refine (rguest_any o _).mono ?_; rintro e w1 ⟨rfl, rfl⟩; rw [g1]) | (go_at_call 36; with_reducible refine (rguest_any t _).mono ?_; rintro e w1 ⟨rfl, rfl⟩; rw [g2]))
  clear g1 g2 d3 d4
  go_loopw [12] (fun c wr => ∃ i : Nat, c = .int .i64 i ∧ i ≤ 32 ∧ (∀ j, j < i → isSame o f t (g j) = false) ∧ Only [] w wr) (fun c _ => 32 - (intOf c).toNat)
  case atStart => exact ⟨0, rfl, Nat.zero_le _, fun j hj => absurd hj (by omega), Only.refl _ _⟩
  case round =>
    obtain ⟨i, rfl, hi, hno, hO⟩ := hrel
    have HNO := Lib.hid hno
    have HO := Lib.hid hO
    have HW := Lib.hid (HR.out.kept hO (by simp) (by simp))
    clear hno hO hh hlt
    have hh := HW.out.head
    have hlt := HW.out.lt
    have hlr := HW.out.row.lt
    by_cases hil : i < 32
    · have HS := Lib.hid (HG.out.one i hil).st
      have k0 := HW.out.row.c0 hil
      have k1 := HW.out.row.c1 hil
      have k2 := HW.out.row.c2 hil
      have k3 := HW.out.row.c3 hil
      have k4 := HW.out.row.c4 hil
      have k5 := HW.out.row.c5 hil
      obtain ⟨x, hx⟩ : ∃ x, x = g i := ⟨_, rfl⟩
      have HX := Lib.hid hx
      rw [← hx] at k0 k1 k2 k3 k4 k5
      clear hx
      obtain ⟨xs, xo, xf, xt, xp, xw⟩ := x
      cases d0 : decide (0 < xs) with
      | false =>
        go_wp2_with fail
        go_roundw
        case rel =>
          refine ⟨i + 1, rfl, by omega, fun j hj => ?_, HO.out.trans (Only.alloc [] _ _)⟩
          by_cases e : j = i
          · subst e; rw [← HX.out]; have := of_decide_eq_false d0; have hs := HS.out; rw [← HX.out] at hs; simp only [sta] at hs; have h0 : xs = 0 := (by omega); subst h0; rfl
          · exact HNO.out j (by omega)
        case measure => simp only [intOf, Int.toNat_natCast]; omega
      | true =>
        cases d1 : xo == o with
        | false =>
          go_wp2_with fail
          go_roundw
          case rel =>
            refine ⟨i + 1, rfl, by omega, fun j hj => ?_, HO.out.trans (Only.alloc [] _ _)⟩
            by_cases e : j = i
            · subst e; rw [← HX.out]; simp [isSame, d1]
            · exact HNO.out j (by omega)
          case measure => simp only [intOf, Int.toNat_natCast]; omega
        | true =>
          cases d2 : xf == f with
          | false =>
            go_wp2_with fail
            go_roundw
            case rel =>
              refine ⟨i + 1, rfl, by omega, fun j hj => ?_, HO.out.trans (Only.alloc [] _ _)⟩
              by_cases e : j = i
              · subst e; rw [← HX.out]; simp [isSame, d1, d2]
              · exact HNO.out j (by omega)
            case measure => simp only [intOf, Int.toNat_natCast]; omega
          | true =>
            cases d3 : xt == t with
            | false =>
              go_wp2_with fail
              go_roundw
              case rel =>
                refine ⟨i + 1, rfl, by omega, fun j hj => ?_, HO.out.trans (Only.alloc [] _ _)⟩
                by_cases e : j = i
                · subst e; rw [← HX.out]; simp [isSame, d1, d2, d3]
                · exact HNO.out j (by omega)
              case measure => simp only [intOf, Int.toNat_natCast]; omega
            | true =>
              obtain rfl := hans.trans (HIN.out.trans (if_pos (lst_isSome.2 ⟨i, hil, isSame_iff.2 (by simp only [← HX.out]; exact ⟨by have := of_decide_eq_true d0; simp only [sta]; omega, by simpa using d1, by simpa using d2, by simpa using d3⟩)⟩)))
              clear hans HIN
              go_wp2_with fail
              go_ret2
              exact ⟨rfl, HW.out.kept (Only.alloc [] _ _) (by simp) (by simp), (HO.out.trans (Only.alloc [] _ _)).mono (by simp)⟩
    · obtain rfl : i = 32 := by omega
      have hj := HIN.out.trans (if_neg (by rw [lst_no HNO.out]; decide))
      have HJ := Lib.hid hj
      have HA := Lib.hid hans
      clear hj HIN HNO hans
      go_wp2_with fail
      go_loopw [14] (fun c wq => ∃ i : Nat, c = .int .i64 i ∧ i ≤ 32 ∧ (∀ j, j < i → isFree (g j) = false) ∧ wr = wq) (fun c _ => 32 - (intOf c).toNat)
      case atStart => exact ⟨0, rfl, Nat.zero_le _, fun j hj => absurd hj (by omega), rfl⟩
      case round =>
        obtain ⟨i, rfl, hi, hno, rfl⟩ := hrel
        have HNO := Lib.hid hno
        clear hno
        by_cases hil : i < 32
        · have k0 := HW.out.row.c0 hil
          have k1 := HW.out.row.c1 hil
          have k2 := HW.out.row.c2 hil
          have k3 := HW.out.row.c3 hil
          have k4 := HW.out.row.c4 hil
          have k5 := HW.out.row.c5 hil
          have f0 : wr.frozen? ⟨G, i * 6, none⟩ = false := HW.out.row.fz _ (by omega)
          have f1 : wr.frozen? ⟨G, i * 6 + 1, none⟩ = false := HW.out.row.fz _ (by omega)
          have f2 : wr.frozen? ⟨G, i * 6 + 2, none⟩ = false := HW.out.row.fz _ (by omega)
          have f3 : wr.frozen? ⟨G, i * 6 + 3, none⟩ = false := HW.out.row.fz _ (by omega)
          have f4 : wr.frozen? ⟨G, i * 6 + 4, none⟩ = false := HW.out.row.fz _ (by omega)
          have f5 : wr.frozen? ⟨G, i * 6 + 5, none⟩ = false := HW.out.row.fz _ (by omega)
          cases d0 : sta (g i) == 0 with
          | false =>
            go_wp2_with fail
            go_roundw
            case rel =>
              refine ⟨i + 1, rfl, by omega, fun j hj => ?_, by trivial⟩
              by_cases e : j = i
              · subst e; exact d0
              · exact HNO.out j (by omega)
            case measure => simp only [intOf, Int.toNat_natCast]; omega
          | true =>
            have hq := HJ.out
            rw [lst_at (P := isFree) hil d0 HNO.out] at hq
            obtain rfl := HA.out.trans hq
            clear HA hq HJ
            have oS := Lib.hid (only_set6 wr G i (1, o, f, t, 0, v))
            have RF := Lib.hid (HW.out.with oS.out (by simp; exact HW.out.ne) (HW.out.row.set hil (1, o, f, t, 0, v)))
            have hii : ¬ (i : Int) < 0 := by omega
            unfold set6 at oS RF
            go_wp2_with fail
            go_ret2
            exact ⟨rfl, RF.out, (HO.out.mono (by simp)).trans oS.out⟩
        · obtain rfl : i = 32 := by omega
          have hq := HJ.out
          rw [lst_no HNO.out] at hq
          obtain rfl := HA.out.trans hq
          clear HA hq HJ
          go_wp2_with fail
          go_ret2
          exact ⟨rfl, HW.out, HO.out.mono (by simp)⟩
theorem res_rleave (tm : Array Value) (W : World) (b : Nat) (x : GtT) (code : Int) (h1 : tm[6]? = some (.pointer (some ⟨b, 0, none⟩))) (h2 : tm[7]? = some (.int .i64 code)) (X : Bx6 W b x) :
    (results Try.f24 tm).run Try.prog W = .ok (.tuple #[gV x, .int .i64 code]) W := by
  have c0 := X.c 0 (by omega)
  have c1 := X.c 1 (by omega)
  have c2 := X.c 2 (by omega)
  have c3 := X.c 3 (by omega)
  have c4 := X.c 4 (by omega)
  have c5 := X.c 5 (by omega)
  simp only [gC] at c0 c1 c2 c3 c4 c5
  simp [results, Try.results24, go_sem, h1, h2, c0, c1, c2, c3, c4, c5]
set_option maxRecDepth 100000 in
set_option maxHeartbeats 4000000 in
theorem rleave_any (r G : Nat) (n t : Int) (g : Nat → GtT) (w : World) (hR : RGr w r G g) :
    Calls Try.prog 24 #[.pointer (some ⟨r, 0, none⟩), .int .i64 n, .int .i64 t] w fun e w' => e = .returned (.tuple #[gV (lveP g n t).1, .int .i64 (lveP g n t).2.1]) ∧ RGr w' r G (lveP g n t).2.2 ∧ Only [G] w w' := by
  have hz : ∀ w, (zeroValue 32).run Try.prog w = .ok (gV gz) w := fun _ => by kernel_rfl
  have hlt := hR.lt
  have hlg := hR.row.lt
  have hh := hR.head
  have X0 := Lib.hid (Bx6.new w gz 32 rfl)
  have O0 := Lib.hid (Only.alloc [] w (.cells #[.int .i64 (sta gz), .int .i64 (own gz), .int .i64 (frm gz), .int .i64 (too gz), .int .i64 (pag gz), .bool (wri gz)] 32))
  have HR := Lib.hid hR
  have R0 := Lib.hid (hR.kept O0.out (by simp) (by simp))
  obtain ⟨ans, hans⟩ : ∃ ans, ans = lveP g n t := ⟨_, rfl⟩
  rw [← hans]
  cases g1 : idk n with
  | false =>
    obtain rfl := hans.trans (show lveP g n t = (gz, 11, g) by unfold lveP; rw [if_pos (Or.inl g1)])
    clear hans
    go_enter Try.func24, Try.ntmps24
    go_wp2_with (first | (go_at_call 37; with_reducible refine (rid_any n _).mono ?_; rintro e w1 ⟨rfl, rfl⟩; rw [g1]))
    refine bodyPost_ret (v := .tuple #[gV gz, .int .i64 11]) (res_rleave _ _ w.heap.size gz 11 rfl rfl X0.out) rfl ⟨rfl, R0.out, O0.out.mono (by simp)⟩
  | true =>
  cases g2 : gst t with
  | false =>
    obtain rfl := hans.trans (show lveP g n t = (gz, 11, g) by unfold lveP; rw [if_pos (Or.inr g2)])
    clear hans
    go_enter Try.func24, Try.ntmps24
    go_wp2_with (first | (go_at_call 37; with_reducible refine (rid_any n _).mono ?_; rintro e w1 ⟨rfl, rfl⟩; rw [g1]) | (go_at_call 36; with_reducible refine (rguest_any t _).mono ?_; rintro e w1 ⟨rfl, rfl⟩; rw [g2]))
    refine bodyPost_ret (v := .tuple #[gV gz, .int .i64 11]) (res_rleave _ _ w.heap.size gz 11 rfl rfl X0.out) rfl ⟨rfl, R0.out, O0.out.mono (by simp)⟩
  | true =>
  have hin : lveP g n t = if sta (g n.toNat) = 0 ∨ too (g n.toNat) ≠ t then (gz, 12, g) else if sta (g n.toNat) = 1 then (gz, 20, g) else (g n.toNat, 0, upd g n.toNat (1, own (g n.toNat), frm (g n.toNat), too (g n.toNat), 0, wri (g n.toNat))) := by unfold lveP; rw [if_neg (by rw [g1, g2]; decide)]
  obtain ⟨k, rfl, hk⟩ := idk_nat g1
  simp only [Int.toNat_natCast] at hin
  have k0 := hR.row.c0 hk
  have k1 := hR.row.c1 hk
  have k2 := hR.row.c2 hk
  have k3 := hR.row.c3 hk
  have k4 := hR.row.c4 hk
  have k5 := hR.row.c5 hk
  have f0 : w.frozen? ⟨G, k * 6, none⟩ = false := hR.row.fz _ (by omega)
  have f1 : w.frozen? ⟨G, k * 6 + 1, none⟩ = false := hR.row.fz _ (by omega)
  have f2 : w.frozen? ⟨G, k * 6 + 2, none⟩ = false := hR.row.fz _ (by omega)
  have f3 : w.frozen? ⟨G, k * 6 + 3, none⟩ = false := hR.row.fz _ (by omega)
  have f4 : w.frozen? ⟨G, k * 6 + 4, none⟩ = false := hR.row.fz _ (by omega)
  have f5 : w.frozen? ⟨G, k * 6 + 5, none⟩ = false := hR.row.fz _ (by omega)
  obtain ⟨x, hx⟩ : ∃ x, x = g k := ⟨_, rfl⟩
  rw [← hx] at k0 k1 k2 k3 k4 k5 hin
  have HX := Lib.hid hx
  have HIN := Lib.hid hin
  have hne : w.heap.size ≠ G := by omega
  have hrg := hR.ne
  have hgr : ¬ G = r := fun e => hrg e.symm
  clear hx hin hR
  obtain ⟨xs, xo, xf, xt, xp, xw⟩ := x
  cases d0 : xs == 0 with
  | true =>
    obtain rfl := hans.trans (HIN.out.trans (if_pos (Or.inl (by simpa using d0))))
    clear hans
    go_enter Try.func24, Try.ntmps24
    go_wp2_with (first | (go_at_call 37; with_reducible refine (rid_any k _).mono ?_; rintro e w1 ⟨rfl, rfl⟩; rw [g1]) | (go_at_call 36; with_reducible refine (rguest_any t _).mono ?_; rintro e w1 ⟨rfl, rfl⟩; rw [g2]))
    refine bodyPost_ret (v := .tuple #[gV gz, .int .i64 12]) (res_rleave _ _ w.heap.size gz 12 rfl rfl (X0.out.kept (Only.alloc [] _ _) (by simp))) rfl ⟨rfl, R0.out.kept (Only.alloc [] _ _) (by simp) (by simp), (O0.out.trans (Only.alloc [] _ _)).mono (by simp)⟩
  | false =>
  cases d1 : xt != t with
  | true =>
    obtain rfl := hans.trans (HIN.out.trans (if_pos (Or.inr (by simpa using d1))))
    clear hans
    go_enter Try.func24, Try.ntmps24
    go_wp2_with (first | (go_at_call 37; with_reducible refine (rid_any k _).mono ?_; rintro e w1 ⟨rfl, rfl⟩; rw [g1]) | (go_at_call 36; with_reducible refine (rguest_any t _).mono ?_; rintro e w1 ⟨rfl, rfl⟩; rw [g2]))
    refine bodyPost_ret (v := .tuple #[gV gz, .int .i64 12]) (res_rleave _ _ w.heap.size gz 12 rfl rfl (X0.out.kept (Only.alloc [] _ _) (by simp))) rfl ⟨rfl, R0.out.kept (Only.alloc [] _ _) (by simp) (by simp), (O0.out.trans (Only.alloc [] _ _)).mono (by simp)⟩
  | false =>
  have hi2 := HIN.out.trans (if_neg (by simp only [not_or]; exact ⟨by simpa using d0, by simpa using d1⟩))
  have HI2 := Lib.hid hi2
  clear hi2
  cases d2 : xs == 1 with
  | true =>
    obtain rfl := hans.trans (HI2.out.trans (if_pos (by simpa using d2)))
    clear hans
    go_enter Try.func24, Try.ntmps24
    go_wp2_with (first | (go_at_call 37; with_reducible refine (rid_any k _).mono ?_; rintro e w1 ⟨rfl, rfl⟩; rw [g1]) | (go_at_call 36; with_reducible refine (rguest_any t _).mono ?_; rintro e w1 ⟨rfl, rfl⟩; rw [g2]))
    refine bodyPost_ret (v := .tuple #[gV gz, .int .i64 20]) (res_rleave _ _ w.heap.size gz 20 rfl rfl (X0.out.kept (Only.alloc [] _ _) (by simp))) rfl ⟨rfl, R0.out.kept (Only.alloc [] _ _) (by simp) (by simp), (O0.out.trans (Only.alloc [] _ _)).mono (by simp)⟩
  | false =>
  obtain rfl := hans.trans (HI2.out.trans (if_neg (by simpa using d2)))
  clear hans
  go_enter Try.func24, Try.ntmps24
  go_wp2_with (first | (go_at_call 37; with_reducible refine (rid_any k _).mono ?_; rintro e w1 ⟨rfl, rfl⟩; rw [g1]) | (go_at_call 36; with_reducible refine (rguest_any t _).mono ?_; rintro e w1 ⟨rfl, rfl⟩; rw [g2]))
  have oZ : Only [G] w ((w.setCell ⟨G, k * 6, none⟩ (.int .i64 1)).setCell ⟨G, k * 6 + 4, none⟩ (.int .i64 0)) := (Only.setCell w (by simp) _ _).trans (Only.setCell _ (by simp) _ _)
  have hr := HR.out.row.two hk 1 0
  rw [← HX.out] at hr
  have RF := HR.out.with oZ (by simp; exact hrg) hr
  have XF := Bx6.new ((w.setCell ⟨G, k * 6, none⟩ (.int .i64 1)).setCell ⟨G, k * 6 + 4, none⟩ (.int .i64 0)) (xs, xo, xf, xt, xp, xw) 32 (b := w.heap.size) (by simp)
  refine bodyPost_ret (v := .tuple #[gV (xs, xo, xf, xt, xp, xw), .int .i64 0]) (res_rleave _ _ w.heap.size (xs, xo, xf, xt, xp, xw) 0 rfl rfl (XF.kept (Only.alloc [] _ _) (by simp))) rfl ⟨rfl, RF.kept ((Only.alloc [] _ _).trans (Only.alloc [] _ _)) (by simp) (by simp), oZ.trans ((Only.alloc _ _ _).trans (Only.alloc _ _ _))⟩
theorem res_rrevoke (tm : Array Value) (W : World) (b : Nat) (x : GtT) (code : Int) (h1 : tm[6]? = some (.pointer (some ⟨b, 0, none⟩))) (h2 : tm[7]? = some (.int .i64 code)) (X : Bx6 W b x) :
    (results Try.f25 tm).run Try.prog W = .ok (.tuple #[gV x, .int .i64 code]) W := by
  have c0 := X.c 0 (by omega)
  have c1 := X.c 1 (by omega)
  have c2 := X.c 2 (by omega)
  have c3 := X.c 3 (by omega)
  have c4 := X.c 4 (by omega)
  have c5 := X.c 5 (by omega)
  simp only [gC] at c0 c1 c2 c3 c4 c5
  simp [results, Try.results25, go_sem, h1, h2, c0, c1, c2, c3, c4, c5]
set_option maxRecDepth 100000 in
set_option maxHeartbeats 4000000 in
theorem rrevoke_any (r G : Nat) (n t : Int) (g : Nat → GtT) (w : World) (hR : RGr w r G g) :
    Calls Try.prog 25 #[.pointer (some ⟨r, 0, none⟩), .int .i64 n, .int .i64 t] w fun e w' => e = .returned (.tuple #[gV (revP g n t).1, .int .i64 (revP g n t).2.1]) ∧ RGr w' r G (revP g n t).2.2 ∧ Only [G] w w' := by
  have hz : ∀ w, (zeroValue 32).run Try.prog w = .ok (gV gz) w := fun _ => by kernel_rfl
  have hlt := hR.lt
  have hlg := hR.row.lt
  have hh := hR.head
  have X0 := Lib.hid (Bx6.new w gz 32 rfl)
  have O0 := Lib.hid (Only.alloc [] w (.cells #[.int .i64 (sta gz), .int .i64 (own gz), .int .i64 (frm gz), .int .i64 (too gz), .int .i64 (pag gz), .bool (wri gz)] 32))
  have HR := Lib.hid hR
  have R0 := Lib.hid (hR.kept O0.out (by simp) (by simp))
  obtain ⟨ans, hans⟩ : ∃ ans, ans = revP g n t := ⟨_, rfl⟩
  rw [← hans]
  cases g1 : idk n with
  | false =>
    obtain rfl := hans.trans (show revP g n t = (gz, 11, g) by unfold revP; rw [if_pos (Or.inl g1)])
    clear hans
    go_enter Try.func25, Try.ntmps25
    go_wp2_with (first | (go_at_call 37; with_reducible refine (rid_any n _).mono ?_; rintro e w1 ⟨rfl, rfl⟩; rw [g1]))
    refine bodyPost_ret (v := .tuple #[gV gz, .int .i64 11]) (res_rrevoke _ _ w.heap.size gz 11 rfl rfl X0.out) rfl ⟨rfl, R0.out, O0.out.mono (by simp)⟩
  | true =>
  cases g2 : gst t with
  | false =>
    obtain rfl := hans.trans (show revP g n t = (gz, 11, g) by unfold revP; rw [if_pos (Or.inr g2)])
    clear hans
    go_enter Try.func25, Try.ntmps25
    go_wp2_with (first | (go_at_call 37; with_reducible refine (rid_any n _).mono ?_; rintro e w1 ⟨rfl, rfl⟩; rw [g1]) | (go_at_call 36; with_reducible refine (rguest_any t _).mono ?_; rintro e w1 ⟨rfl, rfl⟩; rw [g2]))
    refine bodyPost_ret (v := .tuple #[gV gz, .int .i64 11]) (res_rrevoke _ _ w.heap.size gz 11 rfl rfl X0.out) rfl ⟨rfl, R0.out, O0.out.mono (by simp)⟩
  | true =>
  have hin : revP g n t = if sta (g n.toNat) = 0 ∨ own (g n.toNat) ≠ t then (gz, 16, g) else (g n.toNat, 0, upd g n.toNat gz) := by unfold revP; rw [if_neg (by rw [g1, g2]; decide)]
  obtain ⟨k, rfl, hk⟩ := idk_nat g1
  simp only [Int.toNat_natCast] at hin
  have k0 := hR.row.c0 hk
  have k1 := hR.row.c1 hk
  have k2 := hR.row.c2 hk
  have k3 := hR.row.c3 hk
  have k4 := hR.row.c4 hk
  have k5 := hR.row.c5 hk
  have f0 : w.frozen? ⟨G, k * 6, none⟩ = false := hR.row.fz _ (by omega)
  have f1 : w.frozen? ⟨G, k * 6 + 1, none⟩ = false := hR.row.fz _ (by omega)
  have f2 : w.frozen? ⟨G, k * 6 + 2, none⟩ = false := hR.row.fz _ (by omega)
  have f3 : w.frozen? ⟨G, k * 6 + 3, none⟩ = false := hR.row.fz _ (by omega)
  have f4 : w.frozen? ⟨G, k * 6 + 4, none⟩ = false := hR.row.fz _ (by omega)
  have f5 : w.frozen? ⟨G, k * 6 + 5, none⟩ = false := hR.row.fz _ (by omega)
  obtain ⟨x, hx⟩ : ∃ x, x = g k := ⟨_, rfl⟩
  rw [← hx] at k0 k1 k2 k3 k4 k5 hin
  have HX := Lib.hid hx
  have HIN := Lib.hid hin
  have hne : w.heap.size ≠ G := by omega
  have hrg := hR.ne
  have hgr : ¬ G = r := fun e => hrg e.symm
  clear hx hin hR
  obtain ⟨xs, xo, xf, xt, xp, xw⟩ := x
  cases d0 : xs == 0 with
  | true =>
    obtain rfl := hans.trans (HIN.out.trans (if_pos (Or.inl (by simpa using d0))))
    clear hans
    go_enter Try.func25, Try.ntmps25
    go_wp2_with (first | (go_at_call 37; with_reducible refine (rid_any k _).mono ?_; rintro e w1 ⟨rfl, rfl⟩; rw [g1]) | (go_at_call 36; with_reducible refine (rguest_any t _).mono ?_; rintro e w1 ⟨rfl, rfl⟩; rw [g2]))
    refine bodyPost_ret (v := .tuple #[gV gz, .int .i64 16]) (res_rrevoke _ _ w.heap.size gz 16 rfl rfl (X0.out.kept (Only.alloc [] _ _) (by simp))) rfl ⟨rfl, R0.out.kept (Only.alloc [] _ _) (by simp) (by simp), (O0.out.trans (Only.alloc [] _ _)).mono (by simp)⟩
  | false =>
  cases d1 : xo != t with
  | true =>
    obtain rfl := hans.trans (HIN.out.trans (if_pos (Or.inr (by simpa using d1))))
    clear hans
    go_enter Try.func25, Try.ntmps25
    go_wp2_with (first | (go_at_call 37; with_reducible refine (rid_any k _).mono ?_; rintro e w1 ⟨rfl, rfl⟩; rw [g1]) | (go_at_call 36; with_reducible refine (rguest_any t _).mono ?_; rintro e w1 ⟨rfl, rfl⟩; rw [g2]))
    refine bodyPost_ret (v := .tuple #[gV gz, .int .i64 16]) (res_rrevoke _ _ w.heap.size gz 16 rfl rfl (X0.out.kept (Only.alloc [] _ _) (by simp))) rfl ⟨rfl, R0.out.kept (Only.alloc [] _ _) (by simp) (by simp), (O0.out.trans (Only.alloc [] _ _)).mono (by simp)⟩
  | false =>
  have hi2 := HIN.out.trans (if_neg (by simp only [not_or]; exact ⟨by simpa using d0, by simpa using d1⟩))
  have HI2 := Lib.hid hi2
  clear hi2
  obtain rfl := hans.trans HI2.out
  clear hans
  go_enter Try.func25, Try.ntmps25
  go_wp2_with (first | (go_at_call 37; with_reducible refine (rid_any k _).mono ?_; rintro e w1 ⟨rfl, rfl⟩; rw [g1]) | (go_at_call 36; with_reducible refine (rguest_any t _).mono ?_; rintro e w1 ⟨rfl, rfl⟩; rw [g2]))
  have oZ := only_set6 w G k gz
  have RF := HR.out.with oZ (by simp; exact hrg) (HR.out.row.set hk gz)
  have XF := Bx6.new (set6 w G k gz) (xs, xo, xf, xt, xp, xw) 32 (b := w.heap.size) (by simp [set6])
  refine bodyPost_ret (v := .tuple #[gV (xs, xo, xf, xt, xp, xw), .int .i64 0]) (res_rrevoke _ _ w.heap.size (xs, xo, xf, xt, xp, xw) 0 rfl rfl (XF.kept (Only.alloc [] _ _) (by simp))) rfl ⟨rfl, RF.kept ((Only.alloc [] _ _).trans (Only.alloc [] _ _)) (by simp) (by simp), oZ.trans ((Only.alloc _ _ _).trans (Only.alloc _ _ _))⟩
theorem res_raccept (tm : Array Value) (W : World) (b : Nat) (x : GtT) (code : Int) (h1 : tm[8]? = some (.pointer (some ⟨b, 0, none⟩))) (h2 : tm[9]? = some (.int .i64 code)) (X : Bx6 W b x) :
    (results Try.f23 tm).run Try.prog W = .ok (.tuple #[gV x, .int .i64 code]) W := by
  have c0 := X.c 0 (by omega)
  have c1 := X.c 1 (by omega)
  have c2 := X.c 2 (by omega)
  have c3 := X.c 3 (by omega)
  have c4 := X.c 4 (by omega)
  have c5 := X.c 5 (by omega)
  simp only [gC] at c0 c1 c2 c3 c4 c5
  simp [results, Try.results23, go_sem, h1, h2, c0, c1, c2, c3, c4, c5]
set_option maxRecDepth 100000 in
set_option maxHeartbeats 4000000 in
theorem raccept_any (r G : Nat) (n t p : Int) (g : Nat → GtT) (w : World) (hR : RGr w r G g) :
    Calls Try.prog 23 #[.pointer (some ⟨r, 0, none⟩), .int .i64 n, .int .i64 t, .int .i64 p] w fun e w' => e = .returned (.tuple #[gV (accP g n t p).1, .int .i64 (accP g n t p).2.1]) ∧ RGr w' r G (accP g n t p).2.2 ∧ Only [G] w w' := by
  have hz : ∀ w, (zeroValue 32).run Try.prog w = .ok (gV gz) w := fun _ => by kernel_rfl
  have hlt := hR.lt
  have hlg := hR.row.lt
  have hh := hR.head
  have X0 := Lib.hid (Bx6.new w gz 32 rfl)
  have O0 := Lib.hid (Only.alloc [] w (.cells #[.int .i64 (sta gz), .int .i64 (own gz), .int .i64 (frm gz), .int .i64 (too gz), .int .i64 (pag gz), .bool (wri gz)] 32))
  have HR := Lib.hid hR
  have R0 := Lib.hid (hR.kept O0.out (by simp) (by simp))
  obtain ⟨ans, hans⟩ : ∃ ans, ans = accP g n t p := ⟨_, rfl⟩
  rw [← hans]
  cases g1 : idk n with
  | false =>
    obtain rfl := hans.trans (show accP g n t p = (gz, 11, g) by unfold accP; rw [if_pos (Or.inl g1)])
    clear hans
    go_enter Try.func23, Try.ntmps23
    go_wp2_with (first | (go_at_call 37; with_reducible refine (rid_any n _).mono ?_; rintro e w1 ⟨rfl, rfl⟩; rw [g1]))
    refine bodyPost_ret (v := .tuple #[gV gz, .int .i64 11]) (res_raccept _ _ w.heap.size gz 11 rfl rfl X0.out) rfl ⟨rfl, R0.out, O0.out.mono (by simp)⟩
  | true =>
  cases g2 : gst t with
  | false =>
    obtain rfl := hans.trans (show accP g n t p = (gz, 11, g) by unfold accP; rw [if_pos (Or.inr (Or.inl g2))])
    clear hans
    go_enter Try.func23, Try.ntmps23
    go_wp2_with (first | (go_at_call 37; with_reducible refine (rid_any n _).mono ?_; rintro e w1 ⟨rfl, rfl⟩; rw [g1]) | (go_at_call 36; with_reducible refine (rguest_any t _).mono ?_; rintro e w1 ⟨rfl, rfl⟩; rw [g2]))
    refine bodyPost_ret (v := .tuple #[gV gz, .int .i64 11]) (res_raccept _ _ w.heap.size gz 11 rfl rfl X0.out) rfl ⟨rfl, R0.out, O0.out.mono (by simp)⟩
  | true =>
  by_cases p0 : p < 0
  · have dp : decide (p < 0) = true := decide_eq_true p0
    obtain ⟨k, rfl, hk⟩ := idk_nat g1
    obtain rfl := hans.trans (acc_page (Or.inl p0))
    clear hans
    go_enter Try.func23, Try.ntmps23
    go_wp2_with (first | (go_at_call 37; with_reducible refine (rid_any k _).mono ?_; rintro e w1 ⟨rfl, rfl⟩; rw [g1]) | (go_at_call 36; with_reducible refine (rguest_any t _).mono ?_; rintro e w1 ⟨rfl, rfl⟩; rw [g2]))
    refine bodyPost_ret (v := .tuple #[gV gz, .int .i64 11]) (res_raccept _ _ w.heap.size gz 11 rfl rfl X0.out) rfl ⟨rfl, R0.out, O0.out.mono (by simp)⟩
  by_cases p1 : 4095 < p
  · have dp : decide (p < 0) = false := decide_eq_false p0
    have dq : decide (4095 < p) = true := decide_eq_true p1
    obtain ⟨k, rfl, hk⟩ := idk_nat g1
    obtain rfl := hans.trans (acc_page (Or.inr p1))
    clear hans
    go_enter Try.func23, Try.ntmps23
    go_wp2_with (first | (go_at_call 37; with_reducible refine (rid_any k _).mono ?_; rintro e w1 ⟨rfl, rfl⟩; rw [g1]) | (go_at_call 36; with_reducible refine (rguest_any t _).mono ?_; rintro e w1 ⟨rfl, rfl⟩; rw [g2]))
    refine bodyPost_ret (v := .tuple #[gV gz, .int .i64 11]) (res_raccept _ _ w.heap.size gz 11 rfl rfl X0.out) rfl ⟨rfl, R0.out, O0.out.mono (by simp)⟩
  have dp : decide (p < 0) = false := decide_eq_false p0
  have dq : decide (4095 < p) = false := decide_eq_false p1
  have hin : accP g n t p = if sta (g n.toNat) = 0 ∨ too (g n.toNat) ≠ t then (gz, 12, g) else if sta (g n.toNat) = 2 then (gz, 20, g) else if (lst (isAt t p) g 32).isSome = true then (gz, 17, g) else ((2, own (g n.toNat), frm (g n.toNat), too (g n.toNat), p, wri (g n.toNat)), 0, upd g n.toNat (2, own (g n.toNat), frm (g n.toNat), too (g n.toNat), p, wri (g n.toNat))) := by unfold accP; rw [if_neg (by rw [g1, g2]; simp; omega)]
  obtain ⟨k, rfl, hk⟩ := idk_nat g1
  simp only [Int.toNat_natCast] at hin
  clear p0 p1
  have k0 := hR.row.c0 hk
  have k1 := hR.row.c1 hk
  have k2 := hR.row.c2 hk
  have k3 := hR.row.c3 hk
  have k4 := hR.row.c4 hk
  have k5 := hR.row.c5 hk
  have f0 : w.frozen? ⟨G, k * 6, none⟩ = false := hR.row.fz _ (by omega)
  have f1 : w.frozen? ⟨G, k * 6 + 1, none⟩ = false := hR.row.fz _ (by omega)
  have f2 : w.frozen? ⟨G, k * 6 + 2, none⟩ = false := hR.row.fz _ (by omega)
  have f3 : w.frozen? ⟨G, k * 6 + 3, none⟩ = false := hR.row.fz _ (by omega)
  have f4 : w.frozen? ⟨G, k * 6 + 4, none⟩ = false := hR.row.fz _ (by omega)
  have f5 : w.frozen? ⟨G, k * 6 + 5, none⟩ = false := hR.row.fz _ (by omega)
  obtain ⟨x, hx⟩ : ∃ x, x = g k := ⟨_, rfl⟩
  rw [← hx] at k0 k1 k2 k3 k4 k5 hin
  have HX := Lib.hid hx
  have HIN := Lib.hid hin
  have hne : w.heap.size ≠ G := by omega
  have hrg := hR.ne
  have hgr : ¬ G = r := fun e => hrg e.symm
  clear hx hin hR
  obtain ⟨xs, xo, xf, xt, xp, xw⟩ := x
  cases d0 : xs == 0 with
  | true =>
    obtain rfl := hans.trans (HIN.out.trans (if_pos (Or.inl (by simpa using d0))))
    clear hans
    go_enter Try.func23, Try.ntmps23
    go_wp2_with (first | (go_at_call 37; with_reducible refine (rid_any k _).mono ?_; rintro e w1 ⟨rfl, rfl⟩; rw [g1]) | (go_at_call 36; with_reducible refine (rguest_any t _).mono ?_; rintro e w1 ⟨rfl, rfl⟩; rw [g2]))
    refine bodyPost_ret (v := .tuple #[gV gz, .int .i64 12]) (res_raccept _ _ w.heap.size gz 12 rfl rfl (X0.out.kept (Only.alloc [] _ _) (by simp))) rfl ⟨rfl, R0.out.kept (Only.alloc [] _ _) (by simp) (by simp), (O0.out.trans (Only.alloc [] _ _)).mono (by simp)⟩
  | false =>
  cases d1 : xt != t with
  | true =>
    obtain rfl := hans.trans (HIN.out.trans (if_pos (Or.inr (by simpa using d1))))
    clear hans
    go_enter Try.func23, Try.ntmps23
    go_wp2_with (first | (go_at_call 37; with_reducible refine (rid_any k _).mono ?_; rintro e w1 ⟨rfl, rfl⟩; rw [g1]) | (go_at_call 36; with_reducible refine (rguest_any t _).mono ?_; rintro e w1 ⟨rfl, rfl⟩; rw [g2]))
    refine bodyPost_ret (v := .tuple #[gV gz, .int .i64 12]) (res_raccept _ _ w.heap.size gz 12 rfl rfl (X0.out.kept (Only.alloc [] _ _) (by simp))) rfl ⟨rfl, R0.out.kept (Only.alloc [] _ _) (by simp) (by simp), (O0.out.trans (Only.alloc [] _ _)).mono (by simp)⟩
  | false =>
  have hi2 := HIN.out.trans (if_neg (by simp only [not_or]; exact ⟨by simpa using d0, by simpa using d1⟩))
  have HI2 := Lib.hid hi2
  clear hi2
  cases d2 : xs == 2 with
  | true =>
    obtain rfl := hans.trans (HI2.out.trans (if_pos (by simpa using d2)))
    clear hans
    go_enter Try.func23, Try.ntmps23
    go_wp2_with (first | (go_at_call 37; with_reducible refine (rid_any k _).mono ?_; rintro e w1 ⟨rfl, rfl⟩; rw [g1]) | (go_at_call 36; with_reducible refine (rguest_any t _).mono ?_; rintro e w1 ⟨rfl, rfl⟩; rw [g2]))
    refine bodyPost_ret (v := .tuple #[gV gz, .int .i64 20]) (res_raccept _ _ w.heap.size gz 20 rfl rfl (X0.out.kept (Only.alloc [] _ _) (by simp))) rfl ⟨rfl, R0.out.kept (Only.alloc [] _ _) (by simp) (by simp), (O0.out.trans (Only.alloc [] _ _)).mono (by simp)⟩
  | false =>
  have hi3 := HI2.out.trans (if_neg (by simpa using d2))
  have HI3 := Lib.hid hi3
  have HA := Lib.hid (fun u (h : RGr u r G g) => rat_any r G t p g u h)
  have DA := Lib.hid (atP_some g t p)
  have R1 := Lib.hid (R0.out.kept (Only.alloc [] _ (.cells #[.int .i64 xs, .int .i64 xo, .int .i64 xf, .int .i64 xt, .int .i64 xp, .bool xw] 32)) (by simp) (by simp))
  clear hi3 HIN HI2
  obtain ⟨q, hq⟩ : ∃ q, q = atP g t p := ⟨_, rfl⟩
  rw [← hq] at HA DA
  clear hq
  cases hb : (lst (isAt t p) g 32).isSome with
  | true =>
    obtain rfl := hans.trans (HI3.out.trans (if_pos hb))
    have dd := DA.out.trans hb
    clear hans hb
    go_enter Try.func23, Try.ntmps23
    go_wp2_with (first | (go_at_call 37; with_reducible refine (rid_any k _).mono ?_; rintro e w1 ⟨rfl, rfl⟩; rw [g1]) | (go_at_call 36; with_reducible refine (rguest_any t _).mono ?_; rintro e w1 ⟨rfl, rfl⟩; rw [g2]) | (go_at_call 16; refine (HA.out _ R1.out).mono ?_; rintro e w1 ⟨rfl, rfl⟩))
    refine bodyPost_ret (v := .tuple #[gV gz, .int .i64 17]) (res_raccept _ _ w.heap.size gz 17 rfl rfl (X0.out.kept (Only.alloc [] _ _) (by simp))) rfl ⟨rfl, R1.out, (O0.out.trans (Only.alloc [] _ _)).mono (by simp)⟩
  | false =>
    obtain rfl := hans.trans (HI3.out.trans (if_neg (by rw [hb]; decide)))
    have dd := DA.out.trans hb
    clear hans hb
    go_enter Try.func23, Try.ntmps23
    go_wp2_with (first | (go_at_call 37; with_reducible refine (rid_any k _).mono ?_; rintro e w1 ⟨rfl, rfl⟩; rw [g1]) | (go_at_call 36; with_reducible refine (rguest_any t _).mono ?_; rintro e w1 ⟨rfl, rfl⟩; rw [g2]) | (go_at_call 16; refine (HA.out _ R1.out).mono ?_; rintro e w1 ⟨rfl, rfl⟩))
    go_region
    go_wp2_with fail
    have oZ := only_set6 w G k (2, xo, xf, xt, p, xw)
    have RF := HR.out.with oZ (by simp; exact hrg) (HR.out.row.set hk (2, xo, xf, xt, p, xw))
    have XF := Bx6.new (set6 w G k (2, xo, xf, xt, p, xw)) (2, xo, xf, xt, p, xw) 32 (b := w.heap.size) (by simp [set6])
    refine bodyPost_ret (v := .tuple #[gV (2, xo, xf, xt, p, xw), .int .i64 0]) (res_raccept _ _ w.heap.size (2, xo, xf, xt, p, xw) 0 rfl rfl ((XF.kept (Only.alloc [] _ _) (by simp)).kept (Only.drewN [] _ 1) (by simp))) rfl ⟨rfl, RF.kept (((Only.alloc [] _ _).trans (Only.alloc [] _ _)).trans (Only.drewN [] _ 1)) (by simp) (by simp), oZ.trans (((Only.alloc _ _ _).trans (Only.alloc _ _ _)).trans (Only.drewN _ _ 1))⟩
end Gr
end Go.Proofs.Ytnilcmmilplbgaa
