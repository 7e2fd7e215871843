/-
  VmidApart: if the TLB is cleared whenever Dropped is told, who takes a number finds nothing under it: for every input true, and the input reads as it did; no condition.
-/
import Derived.Test.YtcpadnedfnkieaaVmOpen
import Derived.Test.YtcpadnedfnkieaaTlList
import Derived.Test.YtcpadnedfnkieaaTlFill
import Derived.Test.YtcpadnedfnkieaaTlPlain
import Derived.Deep.CutRange
import Derived.Deep.CutBlock
namespace Go.Proofs.Ytcpadnedfnkieaa
open Go.ChangeShapes Go.WideShapes Go.ChangeAt Go.RowKit Go.Deep
namespace vmidApart
open Vm
open Ph (Only)
/-- All that is kept has a number that is taken or stale. -/
def Live (m : Nat) (s : Nat → Int) (ps : List (Option Tl.SlotT)) : Prop := ∀ x : Tl.SlotT, some x ∈ ps → ∃ j : Nat, j < m ∧ x.1 = (j : Int) + 1 ∧ s j ≠ 0
theorem live_none (m : Nat) (s : Nat → Int) (k : Nat) : Live m s (List.replicate k none) := fun x hx => by simp at hx
theorem live_upd {m : Nat} {s : Nat → Int} {ps : List (Option Tl.SlotT)} (h : Live m s ps) (t : Nat) {v : Int} (hv : v ≠ 0) : Live m (upd s t v) ps := fun x hx => by
  obtain ⟨j, hj, e, hs⟩ := h x hx
  refine ⟨j, hj, e, ?_⟩
  by_cases q : j = t
  · subst q; rw [upd_at]; exact hv
  · rw [upd_ne _ _ q]; exact hs
theorem live_gv {m : Nat} {s : Nat → Int} {ps : List (Option Tl.SlotT)} (h : Live m s ps) (z : Int) : Live m (gvP s m z).2 ps := by
  unfold gvP
  split
  · exact h
  · split
    · exact h
    · exact live_upd h _ (by decide)
theorem live_fill {m : Nat} {s : Nat → Int} {ps : List (Option Tl.SlotT)} (h : Live m s ps) (hG : Tl.Good ps) (next t : Nat) (ht : t < m) (hs : s t ≠ 0) (x : Tl.SlotT) (hx : x.1 = (t : Int) + 1) : Live m s (Tl.fillP next ps x) := fun y hy => by
  rcases Tl.fill_mem hG hy with rfl | ⟨hy', _⟩
  · exact ⟨t, ht, hx, hs⟩
  · exact h y hy'
theorem live_not {m : Nat} {s : Nat → Int} {ps : List (Option Tl.SlotT)} (h : Live m s ps) {t : Nat} (ht : s t = 0) : ∀ x ∈ Tl.slots ps, x.1 ≠ (t : Int) + 1 := fun x hx e => by
  obtain ⟨j, _, e', hs⟩ := h x (Tl.mem_slots.1 hx)
  have : j = t := by omega
  subst this
  exact hs ht
theorem page_w (i : Nat) (h : i < 100) : Tl.W64 (bits .and .i64 (i : Int) 15) := by
  have := (by decide +kernel : ∀ i : Fin 100, (Lit.int .i64 (bits .and .i64 ((i : Nat) : Int) 15)).wf = true) ⟨i, h⟩
  exact this
theorem num_w (t m : Nat) (h : t < m) (hm : m ≤ 255) : Tl.W64 ((t : Int) + 1) := by
  have := (by decide +kernel : ∀ i : Fin 256, (Lit.int .i64 (((i : Nat) : Int) + 1)).wf = true) ⟨t, by omega⟩
  exact this
set_option maxRecDepth 100000 in
set_option maxHeartbeats 8000000 in
theorem walk (n : Int) (pa : Option Addr) (len cap : Nat) (y : Nat → VCallsT) (w : World) (hl : len ≤ cap ∧ cap ≤ maxLen) (hx : VCalls w.heap.size w pa len y) :
    Calls Try.prog 4 #[.int .i64 n, .slice pa len cap] w fun e w' => e = .returned (.bool true) ∧ Below w.heap.size w w' := by
  have HX := Lib.hid hx
  have hlm : len ≤ maxLen := by omega
  unfold maxLen at hlm
  clear hx hl
  go_enter Try.func4, Try.ntmps4
  go_wp2_with fail
  refine (alive_any _).mono ?_
  rintro e w0 ⟨rfl, B0⟩
  by_cases g1 : 100 < len
  · have g1' : (100 : Int) < (len : Int) := by omega
    go_wp2
    go_ret
    exact ⟨rfl, B0⟩
  have g1' : ¬ (100 : Int) < (len : Int) := by omega
  have g0 : len ≤ 100 := by omega
  clear g1
  by_cases g2 : n < 1
  · have d1 : decide (n < 1) = true := decide_eq_true g2
    go_wp2
    go_ret
    exact ⟨rfl, B0⟩
  have d1 : decide (n < 1) = false := decide_eq_false g2
  by_cases g3 : 255 < n
  · have d2 : decide (255 < n) = true := decide_eq_true g3
    go_wp2
    go_ret
    exact ⟨rfl, B0⟩
  have d2 : decide (255 < n) = false := decide_eq_false g3
  obtain ⟨m, rfl⟩ : ∃ m : Nat, n = (m : Int) := ⟨n.toNat, by omega⟩
  have m1 : 1 ≤ m := by omega
  have m2 : m ≤ 255 := by omega
  go_wp2_with fail
  refine (new_yes m w0 m1 m2).mono ?_
  rintro e w1 ⟨rfl, R1, O1⟩
  have B1 := Lib.hid (B0.trans (O1.below B0.size (by simp)))
  obtain ⟨P, hP⟩ : ∃ p, p = w0.heap.size := ⟨_, rfl⟩
  rw [← hP] at R1 ⊢
  have q1 : w.heap.size ≤ P := by have := B0.size; omega
  have R1' := Lib.hid R1
  clear hP B0 O1 R1 g2 g3 d1 d2 g1' hlm
  go_wp2_with fail
  refine (Tl.new_yes 16 w1 (by omega) (by omega)).mono ?_
  rintro e w2 ⟨rfl, T2, O2⟩
  have B2 := Lib.hid (B1.out.trans (O2.below B1.out.size (by simp)))
  obtain ⟨M, hM⟩ : ∃ p, p = w1.heap.size := ⟨_, rfl⟩
  have q2 : P + 1 < M := by rw [hM]; exact R1'.out.lt
  have R1k := Lib.hid (R1'.out.kept O2 (by simp) (by simp))
  rw [← hM] at T2 ⊢
  have T2' := Lib.hid T2
  clear hM O2 T2 R1' B1
  go_wp2_with fail
  go_loopw [9] (fun c wr => ∃ (i : Nat) (s : Nat → Int) (next : Nat) (ps : List (Option Tl.SlotT)), c = .int .i64 i ∧ i ≤ len ∧ Hid (Is3 s m) ∧ Hid (Live m s ps) ∧ Hid (Pl wr (P + 1) P m s) ∧ Hid (Tl.Tlb wr (M + 1) M 16 next ps) ∧ Hid (Below w.heap.size w wr)) (fun c _ => len - (intOf c).toNat)
  case atStart => exact ⟨0, _, _, _, rfl, Nat.zero_le _, Lib.hid (fun _ _ => Or.inl rfl), Lib.hid (live_none m _ 16), R1k, T2', B2⟩
  case round =>
    obtain ⟨i, s, next, ps, rfl, hi, IR, LR, RR, TR, BR⟩ := hrel
    clear R1k T2' B2
    obtain ⟨wo, rfl⟩ : ∃ wo, wo = wr := ⟨_, rfl⟩
    by_cases hlt : i < len
    · obtain ⟨b, off, rfl, hbl, hC⟩ := HX.out.at BR.out hlt
      have c0 := hC.c0
      have c1 := hC.c1
      generalize y i = c at *
      obtain ⟨a, z⟩ := c
      simp only at c0 c1
      have hi0 : (0 : Int) ≤ (i : Int) := by omega
      have hil : (i : Int) < (len : Int) := by omega
      have zo : w.heap.size ≤ wo.heap.size := BR.out.size
      have zP : P + 1 < wo.heap.size := RR.out.lt
      have zM : M + 1 < wo.heap.size := TR.out.lt
      clear hC
      by_cases h0 : a = 0
      · subst h0
        have C1 := take_any (P + 1) P m s _ m2 RR.out
        cases hl0 : lst 0 s m with
        | none =>
          have e : tkP s m = (0, if (lst 2 s m).isSome = true then 17 else 15, s) := by unfold tkP; rw [hl0]; simp only; split <;> rfl
          rw [e] at C1
          cases hl2 : (lst 2 s m).isSome with
          | true =>
            rw [hl2, if_pos rfl] at C1
            clear e hl0 hl2 c1
            go_wp2_with fail
            refine C1.mono ?_
            rintro e w3 ⟨rfl, R3, O3⟩
            have T3 := Lib.hid (TR.out.kept O3 (by simp; omega) (by simp; omega))
            have B3 := Lib.hid (BR.out.trans (O3.below (B := w.heap.size) zo (by simp; omega)))
            have R3' := Lib.hid R3
            clear R3 O3 RR TR BR C1 c0
            go_wp2_with fail
            go_roundw
            case rel => exact ⟨i + 1, _, _, _, by push_cast; rfl, by omega, IR, LR, R3', T3, B3⟩
            case measure => simp only [intOf]; omega
          | false =>
            rw [hl2, if_neg (by decide)] at C1
            clear e hl0 hl2 c1
            go_wp2_with fail
            refine C1.mono ?_
            rintro e w3 ⟨rfl, R3, O3⟩
            have T3 := Lib.hid (TR.out.kept O3 (by simp; omega) (by simp; omega))
            have B3 := Lib.hid (BR.out.trans (O3.below (B := w.heap.size) zo (by simp; omega)))
            have R3' := Lib.hid R3
            clear R3 O3 RR TR BR C1 c0
            go_wp2_with fail
            go_roundw
            case rel => exact ⟨i + 1, _, _, _, by push_cast; rfl, by omega, IR, LR, R3', T3, B3⟩
            case measure => simp only [intOf]; omega
        | some t =>
          obtain ⟨htm, hst, _⟩ := lst_some hl0
          have e : tkP s m = ((t : Int) + 1, 0, upd s t 1) := by unfold tkP; rw [hl0]
          rw [e] at C1
          have I2 := Lib.hid (show Is3 (upd s t 1) m from by have := is3_tk IR.out; rw [e] at this; exact this)
          have NO := Lib.hid (live_not LR.out hst)
          have L2 := Lib.hid (live_upd LR.out t (v := 1) (by decide))
          have HF := Lib.hid (show upd s t 1 t ≠ 0 from by rw [upd_at]; decide)
          clear e hl0 hst LR IR c1
          go_wp2_with fail
          refine C1.mono ?_
          rintro e w3 ⟨rfl, R3, O3⟩
          have T3 := Lib.hid (TR.out.kept O3 (by simp; omega) (by simp; omega))
          have B3 := Lib.hid (BR.out.trans (O3.below (B := w.heap.size) zo (by simp; omega)))
          have R3' := Lib.hid R3
          have zz3 := O3.size
          clear R3 O3 RR TR BR C1 c0
          generalize upd s t 1 = s1 at *
          go_wp2_with fail
          refine (Tl.list_any (M + 1) M 16 next ps _ T3.out).mono ?_
          rintro e w4 ⟨L, rfl, hK, hL, hB4⟩
          have o4 := Only.of hB4 []
          have K4 := Lib.hid hK
          have R4 := Lib.hid (R3'.out.kept o4 (by simp) (by simp))
          have T4 := Lib.hid (T3.out.kept o4 (by simp) (by simp))
          have B4 := Lib.hid (B3.out.trans (hB4.mono B3.out.size))
          have n16 : (Tl.slots ps).length ≤ 16 := by have := Tl.slots_len ps; rw [T3.out.len] at this; exact this
          clear hK hL hB4 o4 R3' T3 B3
          go_wp2_with fail
          go_loopw [13] (fun c wx => ∃ j : Nat, c = .int .i64 j ∧ j ≤ (Tl.slots ps).length ∧ w4 = wx) (fun c _ => (Tl.slots ps).length - (intOf c).toNat)
          case atStart => exact ⟨0, rfl, Nat.zero_le _, rfl⟩
          case round =>
            obtain ⟨j, rfl, hj, rfl⟩ := hrel
            by_cases hjl : j < (Tl.slots ps).length
            · obtain ⟨x, hx⟩ : ∃ x, (Tl.slots ps)[j]? = some x := ⟨_, List.getElem?_eq_getElem hjl⟩
              have k0 := K4.out.range j x hx 0 _ rfl
              rw [Nat.add_zero] at k0
              have hne := NO.out x (List.mem_of_getElem? hx)
              have dne : (x.1 == (t : Int) + 1) = false := by simpa using hne
              have hlL := K4.out.lt
              clear hx hne
              obtain ⟨x0, x1, x2, x3, x4⟩ := x
              simp only at k0 dne
              go_wp2_with fail
              go_roundw
              case rel => exact ⟨j + 1, by push_cast; rfl, by omega, by trivial⟩
              case measure => simp only [intOf]; omega
            · obtain rfl : j = (Tl.slots ps).length := by omega
              have hG := Lib.hid T4.out.good
              have hp := Lib.hid (page_w i (by omega))
              have hn := Lib.hid (num_w t m htm m2)
              clear K4 NO
              go_wp2_with fail
              refine (Tl.fill_any (M + 1) M 16 next ps ((t : Int) + 1, bits .and .i64 (i : Int) 15, (i : Int), false, false) _ T4.out hn.out hp.out).mono ?_
              rintro e w5 ⟨rfl, T5, O5⟩
              have T5' := Lib.hid T5
              have R5 := Lib.hid (R4.out.kept O5 (by simp; omega) (by simp; omega))
              have B5 := Lib.hid (B4.out.trans (O5.below (B := w.heap.size) B4.out.size (by simp; omega)))
              have L5 := Lib.hid (live_fill L2.out hG.out next t htm HF.out ((t : Int) + 1, bits .and .i64 (i : Int) 15, (i : Int), false, false) rfl)
              clear T5 O5 R4 T4 B4 hp hn hG
              go_wp2_with fail
              go_roundw
              case rel => exact ⟨i + 1, _, _, _, by push_cast; rfl, by omega, I2, L5, R5, T5', B5⟩
              case measure => simp only [intOf]; omega
      have d0 : (a == 0) = false := by simpa using h0
      by_cases h1 : a = 1
      · subst h1
        have C1 := give_any (P + 1) P m s z _ m2 IR.out RR.out
        have I2 := Lib.hid (is3_gv IR.out z)
        have L2 := Lib.hid (live_gv LR.out z)
        generalize gvP s m z = gp at *
        go_wp2_with fail
        refine C1.mono ?_
        rintro e w3 ⟨rfl, R3, O3⟩
        have T3 := Lib.hid (TR.out.kept O3 (by simp; omega) (by simp; omega))
        have B3 := Lib.hid (BR.out.trans (O3.below (B := w.heap.size) zo (by simp; omega)))
        have R3' := Lib.hid R3
        clear R3 O3 RR TR BR C1 c0 c1
        go_wp2_with fail
        go_roundw
        case rel => exact ⟨i + 1, _, _, _, by push_cast; rfl, by omega, I2, L2, R3', T3, B3⟩
        case measure => simp only [intOf]; omega
      have d1 : (a == 1) = false := by simpa using h1
      by_cases h2 : a = 2
      · subst h2
        have C1 := dropped_any (P + 1) P m s _ m2 RR.out
        have I2 := Lib.hid (is3_dr IR.out)
        generalize drP s m = dp at *
        go_wp2_with fail
        refine C1.mono ?_
        rintro e w3 ⟨rfl, R3, O3⟩
        have T3 := Lib.hid (TR.out.kept O3 (by simp; omega) (by simp; omega))
        have B3 := Lib.hid (BR.out.trans (O3.below (B := w.heap.size) zo (by simp; omega)))
        have R3' := Lib.hid R3
        have zz3 := O3.size
        clear R3 O3 RR TR BR C1 c0 c1
        go_wp2_with fail
        refine (Tl.clear_any (M + 1) M 16 next ps _ T3.out).mono ?_
        rintro e w4 ⟨rfl, T4, O4⟩
        have T4' := Lib.hid T4
        have R4 := Lib.hid (R3'.out.kept O4 (by simp; omega) (by simp; omega))
        have B4 := Lib.hid (B3.out.trans (O4.below (B := w.heap.size) B3.out.size (by simp; omega)))
        clear T4 O4 R3' T3 B3
        go_wp2_with fail
        go_roundw
        case rel => exact ⟨i + 1, _, _, _, by push_cast; rfl, by omega, I2, Lib.hid (live_none m _ 16), R4, T4', B4⟩
        case measure => simp only [intOf]; omega
      have d2 : (a == 2) = false := by simpa using h2
      go_wp2_with fail
      go_roundw
      case rel => exact ⟨i + 1, _, _, _, by push_cast; rfl, by omega, IR, LR, RR, TR, BR⟩
      case measure => simp only [intOf]; omega
    · obtain rfl : i = len := by omega
      clear hlt
      go_wp2_with fail
      go_ret
      exact ⟨rfl, BR.out⟩
set_option maxRecDepth 100000 in
theorem lifted (os : Os) (started : os.Started) (H : Type) (enc : TypeId × Value → H) :
    ReturnsInHanded {} Try.checked os 4 .any (Rows.vmidApartSpec.pre6 enc Try.prog Try.f4 Rows.vmidApartRow.domain false) (Rows.vmidApartSpec.post enc Try.prog Try.f4 false true false false) := by
  refine returnsInHanded_of_change_sized (C := Try.checked) ownK started (by kernel_rfl) Try.func4
    (ChangeSpec.witness6 (enc := enc) (C := Try.checked) false ⟨#[], #[.int .i64 0, .slice none 0 0], []⟩ 8 (by kernel_rfl) (by kernel_rfl) (by kernel_rfl) (by kernel_rfl)) ?_
  intro W base args ds gs before hval0 hW hcnd hZ0 _
  have hval : ∀ (j : Nat) t v, Try.f4.params[j]? = some t → args[j]? = some v → Value.okWide Try.prog W .any base t v := hval0
  have hZ : ∀ n ∈ DataW.weightsEach Try.prog (Try.f4.params.toList ++ []) (ds ++ gs), n ≤ reachBytes := fun n hn => of_decide_eq_true (List.all_eq_true.1 hZ0 n hn)
  have hW' := hW
  obtain ⟨p, q, hA0, hV, rfl, hfz, hnd⟩ := hW
  have hA : DataW.TrodAll enc Try.prog W 0 (fun _ => true) true Try.f4.params.toList args.toList ds p := hA0
  rw [Try.params4] at hA hval hZ
  obtain ⟨v0, vs0, d0, ds0, p0, q0, hargs, rfl, rfl, h0, r0⟩ := trodAll_cons hA
  obtain ⟨v1, vs1, d1, ds1, p1, q1, rfl, rfl, rfl, h1, r1⟩ := trodAll_cons r0
  obtain ⟨rfl, rfl, rfl⟩ := trodAll_nil r1
  obtain rfl : args = #[v0, v1] := by cases args; simp_all
  obtain ⟨rfl, rfl⟩ := trodVars_none hV
  obtain ⟨x0, rfl, rfl, rfl, w0⟩ := open_int Try.underlying3 (hval 0 3 v0 rfl rfl) h0
  have k1 := h1
  have hz1 : ∀ n ∈ d1.weights Try.prog 22, n ≤ reachBytes := fun n hn => hZ n (by simp only [List.append_nil, DataW.weightsEach, List.mem_append]; exact Or.inr (hn))
  obtain ⟨a1, n1, c1, y1, rfl, m1, lt1, z1⟩ := vcalls_open (hval 1 22 v1 rfl rfl) h1 hz1
  clear hA0 hval0 hZ0
  refine (walk x0 a1 n1 c1 y1 W m1 z1).mono fun e W' ⟨he, ho⟩ => ?_
  subst he
  have bel : Below W.heap.size W W' := ho
  exact ⟨_, rfl, _, _, _, [], _, [], hW', trodAll_mk1 (shut_bool Try.underlying4 _), (trodAll_cons_mk (shut_int Try.underlying3 w0) (trodAll_cons_mk (Below.trod laidOut (by kernel_rfl) (of_decide_eq_true (by kernel_rfl)) k1 bel lt1) trodAll_mk0)), rfl, bel.frame _, fun h => by cases h⟩
theorem over : Rows.vmidApartRow.holds Try.pinned (OpenSpec.ofChange Rows.vmidApartSpec) :=
  OpenClaim.holds_of_wide 4 Try.f4 rfl rfl rfl rfl rfl rfl rfl ⟨rfl, rfl, rfl, rfl, rfl⟩ rfl rfl rfl rfl rfl (by kernel_rfl) Try.func4 (by kernel_rfl)
    (of_decide_eq_true (by kernel_rfl)) (by unfold Func.isWrapper; first | (rw [if_pos (by decide +kernel)]; kernel_rfl) | (rw [if_neg (by decide +kernel)]; exact ⟨rfl, rfl⟩))
    (fun os started H enc _ => lifted os started H enc)
end vmidApart
/-- The statement. -/
theorem vmidApart_holds : Rows.VmidApartSaid := vmidApart.over
#print axioms vmidApart_holds
end Go.Proofs.Ytcpadnedfnkieaa
