/-
  TlbKeeps: what was filled last is found; nothing is found that wasn't filled so, or was dropped since: for every input true, and the input reads as it did; no condition.
-/
import Derived.Test.YtcajclalpmfafaaTlLast
import Derived.Test.YtcajclalpmfafaaTlAlive
namespace Go.Proofs.Ytcajclalpmfafaa
open Go.ChangeShapes Go.WideShapes Go.ChangeAt Go.RowKit Go.Deep
namespace tlbKeeps
open Tl
open Ph (Only)
theorem cut_calls {w w' : World} {pa : Option Addr} {len n : Nat} {y : Nat → HeldT} (h : TCalls w.heap.size w pa len y) (hb : Below w.heap.size w w') (hn : n ≤ len) : TCalls w'.heap.size w' pa n y := fun h0 => by
  obtain ⟨b, off, e, hl, _⟩ := h (by omega)
  refine ⟨b, off, e, Nat.lt_of_lt_of_le hl hb.size, fun k hk => ?_⟩
  obtain ⟨b', off', e', hl', hc⟩ := h.at hb (show k < len by omega)
  rw [e] at e'
  simp only [Option.some.injEq, Addr.mk.injEq, and_true] at e'
  obtain ⟨rfl, rfl⟩ := e'
  exact hc
set_option maxRecDepth 100000 in
set_option maxHeartbeats 4000000 in
theorem walk (room : Int) (pa : Option Addr) (len cap : Nat) (y : Nat → HeldT) (w : World) (hl : len ≤ cap ∧ cap ≤ maxLen) (hx : TCalls w.heap.size w pa len y) :
    Calls Try.prog 4 #[.int .i64 room, .slice pa len cap] w fun e w' => e = .returned (.bool true) ∧ Below w.heap.size w w' := by
  have HX := Lib.hid hx
  have hlc : len ≤ cap := hl.1
  have hcm : cap ≤ maxLen := hl.2
  clear hx hl
  go_enter Try.func4, Try.ntmps4
  go_wp2_with fail
  refine (alive_any _).mono ?_
  rintro e w0 ⟨rfl, B0⟩
  by_cases g1 : 60 < len
  · go_wp2
    go_ret
    exact ⟨rfl, B0⟩
  by_cases g2 : room < 1
  · go_wp2
    go_ret
    exact ⟨rfl, B0⟩
  by_cases g3 : 64 < room
  · go_wp2
    go_ret
    exact ⟨rfl, B0⟩
  obtain ⟨R, rfl⟩ := Int.eq_ofNat_of_zero_le (show 0 ≤ room by omega)
  have r1 : 1 ≤ R := by omega
  have r2 : R ≤ 64 := by omega
  have g60 : len ≤ 60 := by omega
  clear g1 g2 g3
  go_wp2_with fail
  refine (new_yes R w0 r1 r2).mono ?_
  rintro e w1 ⟨rfl, T1, O1⟩
  have B1 := Lib.hid (B0.trans (O1.below B0.size (by simp)))
  obtain ⟨P, hP⟩ : ∃ p, p = w0.heap.size + 1 := ⟨_, rfl⟩
  obtain ⟨M, hM⟩ : ∃ p, p = w0.heap.size := ⟨_, rfl⟩
  rw [← hP, ← hM] at T1
  have q1 : w.heap.size ≤ P := by have := B0.size; omega
  have q2 : w.heap.size ≤ M := by have := B0.size; omega
  have T1' := Lib.hid T1
  rw [← hP]
  clear hP hM B0 O1 T1
  go_wp2_with fail
  go_loopw [7] (fun c wr => ∃ i : Nat, c = .int .i64 i ∧ i ≤ len ∧ ∃ next ps, Tlb wr P M R next ps ∧ Fine ps y i ∧ Below w.heap.size w wr) (fun c _ => len - (intOf c).toNat)
  case atStart => exact ⟨0, rfl, Nat.zero_le _, 0, _, T1'.out, Fine.none _ _ _, B1.out⟩
  case round =>
    obtain ⟨i, rfl, hi', next, ps, hT, hF, hB⟩ := hrel
    clear T1' B1
    by_cases hlt : i < len
    · obtain ⟨b, ofs, rfl, hbl, hC⟩ := HX.out.at hB hlt
      obtain ⟨⟨t, v, p, f, wri, ex⟩, hyk⟩ : ∃ h, y i = h := ⟨_, rfl⟩
      rw [hyk] at hC
      have c0 := hC.c0
      have c1 := hC.c1
      have c2 := hC.c2
      have c3 := hC.c3
      have c4 := hC.c4
      have c5 := hC.c5
      have s1 := hC.w1
      have s2 := hC.w2
      have HY := Lib.hid hyk
      have hbr : b < wr.heap.size := Nat.lt_of_lt_of_le hbl hB.size
      have hPr := hT.lt
      have hMr := hT.map.lt
      have hnl := Lib.hid (show next < ps.length by rw [hT.len]; exact hT.nlt)
      have hG := Lib.hid hT.good
      have hF' := Lib.hid hF
      have hL := Lib.hid (Lay.new wr 31 [.int .i64 v, .int .i64 p, .int .i64 f, .bool wri, .bool ex])
      have hT' := Lib.hid (hT.kept (Only.alloc [] wr (.cells #[.int .i64 v, .int .i64 p, .int .i64 f, .bool wri, .bool ex] 31)) (by simp) (by simp))
      have hB' := Lib.hid (hB.alloc hB.size (.cells #[.int .i64 v, .int .i64 p, .int .i64 f, .bool wri, .bool ex] 31))
      clear hC hyk hT hF hB
      replace s1 : W64 v := s1
      replace s2 : W64 p := s2
      by_cases t0 : t = 0
      · subst t0
        go_wp2_with fail
        refine (fill_any P M R next ps ((v, p, f, wri, ex) : SlotT) _ hT'.out s1 s2).mono ?_
        rintro e w3 ⟨rfl, T3, O3⟩
        have L3 := hL.out.kept O3 (by simp; omega)
        have B3 := Lib.hid (hB'.out.trans (O3.below hB'.out.size (by simp; omega)))
        have T3' := Lib.hid T3
        have z3 := L3.lt
        obtain ⟨ff1, ff2⟩ := find_fill (next := next) ((v, p, f, wri, ex) : SlotT) hG.out hnl.out
        have FF1 := Lib.hid ff1
        have FF2 := Lib.hid ff2
        clear hL hT' hB' T3 O3 c0 c1 c2 c3 c4 c5 ff1 ff2
        have e0 := L3.cell 0
        have e1 := L3.cell 1
        have e2 := L3.cell 2
        have e3 := L3.cell 3
        have e4 := L3.cell 4
        simp only [List.getElem?_cons_zero, List.getElem?_cons_succ] at e0 e1 e2 e3 e4
        have L3' := Lib.hid L3
        clear L3
        go_wp2_with fail
        refine (find_any P M R _ _ v p _ T3'.out s1 s2).mono ?_
        rintro e w4 ⟨he, b4⟩
        replace he : e = .returned (.tuple #[.agg #[.int .i64 v, .int .i64 p, .int .i64 f, .bool wri, .bool ex], .bool true]) := by
          rw [he]
          have h1 := FF1.out
          have h2 := FF2.out
          rw [h1, h2]
        subst he
        have L4 := Lib.hid (L3'.out.kept (Only.of b4 []) (by simp))
        have T4 := Lib.hid ((T3'.out.kept (Only.of b4 []) (by simp) (by simp)).kept (Only.alloc [] _ (.cells #[.int .i64 v, .int .i64 p, .int .i64 f, .bool wri, .bool ex] 31)) (by simp) (by simp))
        have B4 := Lib.hid ((B3.out.trans (b4.mono B3.out.size)).alloc (Nat.le_trans B3.out.size b4.size) (.cells #[.int .i64 v, .int .i64 p, .int .i64 f, .bool wri, .bool ex] 31))
        clear e0 e1 e2 e3 e4 T3' B3 L3' b4 FF1 FF2
        have z4 := L4.out.lt
        have e0 := L4.out.cell 0
        have e1 := L4.out.cell 1
        have e2 := L4.out.cell 2
        have e3 := L4.out.cell 3
        have e4 := L4.out.cell 4
        simp only [List.getElem?_cons_zero, List.getElem?_cons_succ] at e0 e1 e2 e3 e4
        have hne : ∀ w, (binOp .neq 31 (.agg #[.int .i64 v, .int .i64 p, .int .i64 f, .bool wri, .bool ex]) (.agg #[.int .i64 v, .int .i64 p, .int .i64 f, .bool wri, .bool ex])).run Try.prog w = .ok (.bool false) w := fun w => by
          have := neqSlot (v, p, f, wri, ex) (v, p, f, wri, ex) w
          simpa using this
        have F4 := Lib.hid (show Fine (fillP next ps ((v, p, f, wri, ex) : SlotT)) y (i + 1) by
          have := hF'.out.fill (next := next) hG.out (by rw [HY.out])
          rw [HY.out] at this
          exact this)
        clear L4
        go_wp2_with fail
        refine (list_any P M R _ _ _ T4.out).mono ?_
        rintro e w9 ⟨L, rfl, K9, hL9, b9⟩
        have T9 := Lib.hid (T4.out.kept (Only.of b9 []) (by simp) (by simp))
        have B9 := Lib.hid (B4.out.trans (b9.mono B4.out.size))
        have F9 := Lib.hid F4.out
        have hle := slots_len (fillP next ps (v, p, f, wri, ex))
        rw [T9.out.len] at hle
        have K9' := Lib.hid K9
        clear K9 b9 T4 B4
        go_wp2_with fail
        refine (lasting_true _ (slots (fillP next ps (v, p, f, wri, ex))) _ (i + 1) cap y _ (by omega) (by omega) K9'.out.seen (cut_calls HX.out B9.out (by omega)) (fun s hs => F9.out s (mem_slots.1 hs))).mono ?_
        rintro e w10 ⟨rfl, b10⟩
        have T10 := Lib.hid (T9.out.kept (Only.of b10 []) (by simp) (by simp))
        have B10 := Lib.hid (B9.out.trans (b10.mono B9.out.size))
        clear T9 B9 K9' b10 hL9
        go_wp2_with fail
        go_roundw
        case rel => exact ⟨i + 1, by simp, by omega, _, _, T10.out, F9.out, B10.out⟩
        case measure => simp only [intOf, Int.toNat_natCast]; omega
      by_cases t1 : t = 1
      · subst t1
        go_wp2_with fail
        refine (drop1_any P M R next ps v p _ hT'.out s1 s2).mono ?_
        rintro e w3 ⟨rfl, T3, O3⟩
        have L3 := hL.out.kept O3 (by simp; omega)
        have B3 := Lib.hid (hB'.out.trans (O3.below hB'.out.size (by simp; omega)))
        have T3' := Lib.hid T3
        have z3 := L3.lt
        have FF := Lib.hid (find_del v p ps)
        clear hL hT' hB' T3 O3 c0 c1 c2 c3 c4 c5
        have e0 := L3.cell 0
        have e1 := L3.cell 1
        have e2 := L3.cell 2
        have e3 := L3.cell 3
        have e4 := L3.cell 4
        simp only [List.getElem?_cons_zero, List.getElem?_cons_succ] at e0 e1 e2 e3 e4
        clear L3
        go_wp2_with fail
        refine (find_any P M R _ _ v p _ T3'.out s1 s2).mono ?_
        rintro e w4 ⟨he, b4⟩
        obtain ⟨z, hz⟩ : ∃ z, z = ((findP v p 0 (delP v p ps)).getD zeroH).2 := ⟨_, rfl⟩
        rw [← hz, FF.out] at he
        clear hz
        subst he
        have T4 := Lib.hid ((T3'.out.kept (Only.of b4 []) (by simp) (by simp)).kept (Only.alloc [] _ (.cells #[.int .i64 z.1, .int .i64 z.2.1, .int .i64 z.2.2.1, .bool z.2.2.2.1, .bool z.2.2.2.2] 31)) (by simp) (by simp))
        have B4 := Lib.hid ((B3.out.trans (b4.mono B3.out.size)).alloc (Nat.le_trans B3.out.size b4.size) (.cells #[.int .i64 z.1, .int .i64 z.2.1, .int .i64 z.2.2.1, .bool z.2.2.2.1, .bool z.2.2.2.2] 31))
        clear e0 e1 e2 e3 e4 T3' B3 b4 FF
        have F4 := Lib.hid (show Fine (delP v p ps) y (i + 1) by
          have := hF'.out.del (by rw [HY.out])
          rw [HY.out] at this
          exact this)
        go_wp2_with fail
        refine (list_any P M R _ _ _ T4.out).mono ?_
        rintro e w9 ⟨L, rfl, K9, hL9, b9⟩
        have T9 := Lib.hid (T4.out.kept (Only.of b9 []) (by simp) (by simp))
        have B9 := Lib.hid (B4.out.trans (b9.mono B4.out.size))
        have F9 := Lib.hid F4.out
        have hle := slots_len (delP v p ps)
        rw [T9.out.len] at hle
        have K9' := Lib.hid K9
        clear K9 b9 T4 B4
        go_wp2_with fail
        refine (lasting_true _ (slots (delP v p ps)) _ (i + 1) cap y _ (by omega) (by omega) K9'.out.seen (cut_calls HX.out B9.out (by omega)) (fun s hs => F9.out s (mem_slots.1 hs))).mono ?_
        rintro e w10 ⟨rfl, b10⟩
        have T10 := Lib.hid (T9.out.kept (Only.of b10 []) (by simp) (by simp))
        have B10 := Lib.hid (B9.out.trans (b10.mono B9.out.size))
        clear T9 B9 K9' b10 hL9
        go_wp2_with fail
        go_roundw
        case rel => exact ⟨i + 1, by simp, by omega, _, _, T10.out, F9.out, B10.out⟩
        case measure => simp only [intOf, Int.toNat_natCast]; omega
      by_cases t2 : t = 2
      · subst t2
        go_wp2_with fail
        refine (dropAll_any P M R next ps v _ hT'.out).mono ?_
        rintro e w3 ⟨rfl, T3, O3⟩
        have B4 := Lib.hid (hB'.out.trans (O3.below hB'.out.size (by simp; omega)))
        have T4 := Lib.hid T3
        clear hL hT' hB' T3 O3 c0 c1 c2 c3 c4 c5
        have F4 := Lib.hid (show Fine (ps.map (off fun s => decide (s.1 = v))) y (i + 1) by
          have := hF'.out.all (by rw [HY.out])
          rw [HY.out] at this
          exact this)
        go_wp2_with fail
        refine (list_any P M R _ _ _ T4.out).mono ?_
        rintro e w9 ⟨L, rfl, K9, hL9, b9⟩
        have T9 := Lib.hid (T4.out.kept (Only.of b9 []) (by simp) (by simp))
        have B9 := Lib.hid (B4.out.trans (b9.mono B4.out.size))
        have F9 := Lib.hid F4.out
        have hle := slots_len (ps.map (off fun s => decide (s.1 = v)))
        rw [T9.out.len] at hle
        have K9' := Lib.hid K9
        clear K9 b9 T4 B4
        go_wp2_with fail
        refine (lasting_true _ (slots (ps.map (off fun s => decide (s.1 = v)))) _ (i + 1) cap y _ (by omega) (by omega) K9'.out.seen (cut_calls HX.out B9.out (by omega)) (fun s hs => F9.out s (mem_slots.1 hs))).mono ?_
        rintro e w10 ⟨rfl, b10⟩
        have T10 := Lib.hid (T9.out.kept (Only.of b10 []) (by simp) (by simp))
        have B10 := Lib.hid (B9.out.trans (b10.mono B9.out.size))
        clear T9 B9 K9' b10 hL9
        go_wp2_with fail
        go_roundw
        case rel => exact ⟨i + 1, by simp, by omega, _, _, T10.out, F9.out, B10.out⟩
        case measure => simp only [intOf, Int.toNat_natCast]; omega
      by_cases t3 : t = 3
      · subst t3
        go_wp2_with fail
        refine (dropFrame_any P M R next ps f _ hT'.out).mono ?_
        rintro e w3 ⟨rfl, T3, O3⟩
        have B4 := Lib.hid (hB'.out.trans (O3.below hB'.out.size (by simp; omega)))
        have T4 := Lib.hid T3
        clear hL hT' hB' T3 O3 c0 c1 c2 c3 c4 c5
        have F4 := Lib.hid (show Fine (ps.map (off fun s => decide (s.2.2.1 = f))) y (i + 1) by
          have := hF'.out.frame (by rw [HY.out])
          rw [HY.out] at this
          exact this)
        go_wp2_with fail
        refine (list_any P M R _ _ _ T4.out).mono ?_
        rintro e w9 ⟨L, rfl, K9, hL9, b9⟩
        have T9 := Lib.hid (T4.out.kept (Only.of b9 []) (by simp) (by simp))
        have B9 := Lib.hid (B4.out.trans (b9.mono B4.out.size))
        have F9 := Lib.hid F4.out
        have hle := slots_len (ps.map (off fun s => decide (s.2.2.1 = f)))
        rw [T9.out.len] at hle
        have K9' := Lib.hid K9
        clear K9 b9 T4 B4
        go_wp2_with fail
        refine (lasting_true _ (slots (ps.map (off fun s => decide (s.2.2.1 = f)))) _ (i + 1) cap y _ (by omega) (by omega) K9'.out.seen (cut_calls HX.out B9.out (by omega)) (fun s hs => F9.out s (mem_slots.1 hs))).mono ?_
        rintro e w10 ⟨rfl, b10⟩
        have T10 := Lib.hid (T9.out.kept (Only.of b10 []) (by simp) (by simp))
        have B10 := Lib.hid (B9.out.trans (b10.mono B9.out.size))
        clear T9 B9 K9' b10 hL9
        go_wp2_with fail
        go_roundw
        case rel => exact ⟨i + 1, by simp, by omega, _, _, T10.out, F9.out, B10.out⟩
        case measure => simp only [intOf, Int.toNat_natCast]; omega
      by_cases t4 : t = 4
      · subst t4
        go_wp2_with fail
        refine (clear_any P M R next ps _ hT'.out).mono ?_
        rintro e w3 ⟨rfl, T3, O3⟩
        have B4 := Lib.hid (hB'.out.trans (O3.below hB'.out.size (by simp; omega)))
        have T4 := Lib.hid T3
        clear hL hT' hB' T3 O3 c0 c1 c2 c3 c4 c5
        have F4 := Lib.hid (Fine.none R y (i + 1))
        go_wp2_with fail
        refine (list_any P M R _ _ _ T4.out).mono ?_
        rintro e w9 ⟨L, rfl, K9, hL9, b9⟩
        have T9 := Lib.hid (T4.out.kept (Only.of b9 []) (by simp) (by simp))
        have B9 := Lib.hid (B4.out.trans (b9.mono B4.out.size))
        have F9 := Lib.hid F4.out
        have hle := slots_len (List.replicate R none)
        rw [T9.out.len] at hle
        have K9' := Lib.hid K9
        clear K9 b9 T4 B4
        go_wp2_with fail
        refine (lasting_true _ (slots (List.replicate R none)) _ (i + 1) cap y _ (by omega) (by omega) K9'.out.seen (cut_calls HX.out B9.out (by omega)) (fun s hs => F9.out s (mem_slots.1 hs))).mono ?_
        rintro e w10 ⟨rfl, b10⟩
        have T10 := Lib.hid (T9.out.kept (Only.of b10 []) (by simp) (by simp))
        have B10 := Lib.hid (B9.out.trans (b10.mono B9.out.size))
        clear T9 B9 K9' b10 hL9
        go_wp2_with fail
        go_roundw
        case rel => exact ⟨i + 1, by simp, by omega, _, _, T10.out, F9.out, B10.out⟩
        case measure => simp only [intOf, Int.toNat_natCast]; omega
      have F4 := Lib.hid (hF'.out.more (by rw [HY.out]; exact t0) (by rw [HY.out]; exact t1) (by rw [HY.out]; exact t2) (by rw [HY.out]; exact t3) (by rw [HY.out]; exact t4))
      go_wp2_with fail
      refine (list_any P M R _ _ _ hT'.out).mono ?_
      rintro e w9 ⟨L, rfl, K9, hL9, b9⟩
      have T9 := Lib.hid (hT'.out.kept (Only.of b9 []) (by simp) (by simp))
      have B9 := Lib.hid (hB'.out.trans (b9.mono hB'.out.size))
      have F9 := Lib.hid F4.out
      have hle := slots_len (ps)
      rw [T9.out.len] at hle
      have K9' := Lib.hid K9
      clear K9 b9 hT' hB'
      go_wp2_with fail
      refine (lasting_true _ (slots (ps)) _ (i + 1) cap y _ (by omega) (by omega) K9'.out.seen (cut_calls HX.out B9.out (by omega)) (fun s hs => F9.out s (mem_slots.1 hs))).mono ?_
      rintro e w10 ⟨rfl, b10⟩
      have T10 := Lib.hid (T9.out.kept (Only.of b10 []) (by simp) (by simp))
      have B10 := Lib.hid (B9.out.trans (b10.mono B9.out.size))
      clear T9 B9 K9' b10 hL9
      go_wp2_with fail
      go_roundw
      case rel => exact ⟨i + 1, by simp, by omega, _, _, T10.out, F9.out, B10.out⟩
      case measure => simp only [intOf, Int.toNat_natCast]; omega
    · obtain rfl : i = len := by omega
      have HB := Lib.hid hB
      clear hT hF hB HX
      go_wp2
      go_ret
      exact ⟨rfl, HB.out⟩
set_option maxRecDepth 100000 in
theorem lifted (os : Os) (started : os.Started) (H : Type) (enc : TypeId × Value → H) :
    ReturnsInHanded {} Try.checked os 4 .any (Rows.tlbKeepsSpec.pre6 enc Try.prog Try.f4 Rows.tlbKeepsRow.domain false) (Rows.tlbKeepsSpec.post enc Try.prog Try.f4 false true false false) := by
  refine returnsInHanded_of_change_sized (C := Try.checked) own started (by kernel_rfl) Try.func4
    (ChangeSpec.witness6 (enc := enc) (C := Try.checked) false ⟨#[], #[.int .i64 0, .slice none 0 0], []⟩ 8 (by kernel_rfl) (by kernel_rfl) (by kernel_rfl) (by kernel_rfl)) ?_
  intro W base args ds gs before hval0 hW hcnd hZ0 _
  have hval : ∀ (j : Nat) t v, Try.f4.params[j]? = some t → args[j]? = some v → Value.okWide Try.prog W .any base t v := hval0
  have hZ : ∀ n ∈ DataW.weightsEach Try.prog (Try.f4.params.toList ++ []) (ds ++ gs), n ≤ reachBytes := fun n hn => of_decide_eq_true (List.all_eq_true.1 hZ0 n hn)
  have hW' := hW
  obtain ⟨p, q, hA0, hV, rfl, hfz, hnd⟩ := hW
  have hA : DataW.TrodAll enc Try.prog W 0 (fun _ => true) true Try.f4.params.toList args.toList ds p := hA0
  rw [Try.params4] at hA hval hZ
  obtain ⟨v0, vs0, d0, ds0, p0, q0, hargs, rfl, rfl, h0, r0⟩ := trodAll_cons hA
  obtain ⟨v1, vs1, d1, ds1, p1, q1, rfl, rfl, rfl, h1, r1⟩ := trodAll_cons r0
  obtain ⟨rfl, rfl, rfl⟩ := trodAll_nil r1
  obtain rfl : args = #[v0, v1] := by cases args; simp_all
  obtain ⟨rfl, rfl⟩ := trodVars_none hV
  obtain ⟨x0, rfl, rfl, rfl, w0⟩ := open_int Try.underlying3 (hval 0 3 v0 rfl rfl) h0
  have k1 := h1
  have hz1 : ∀ n ∈ d1.weights Try.prog 22, n ≤ reachBytes := fun n hn => hZ n (by simp only [List.append_nil, DataW.weightsEach, List.mem_append]; exact Or.inr (hn))
  obtain ⟨a1, n1, c1, y1, rfl, m1, lt1, z1⟩ := tcalls_open (hval 1 22 v1 rfl rfl) h1 hz1
  clear hA0 hval0 hZ0
  refine (walk x0 a1 n1 c1 y1 W m1 z1).mono fun e W' ⟨he, ho⟩ => ?_
  subst he
  have bel : Below W.heap.size W W' := ho
  exact ⟨_, rfl, _, _, _, [], _, [], hW', trodAll_mk1 (shut_bool Try.underlying4 _), (trodAll_cons_mk (shut_int Try.underlying3 w0) (trodAll_cons_mk (Below.trod laidOut (by kernel_rfl) (of_decide_eq_true (by kernel_rfl)) k1 bel lt1) trodAll_mk0)), rfl, bel.frame _, fun h => by cases h⟩
theorem over : Rows.tlbKeepsRow.holds Try.pinned (OpenSpec.ofChange Rows.tlbKeepsSpec) :=
  OpenClaim.holds_of_wide 4 Try.f4 rfl rfl rfl rfl rfl rfl rfl ⟨rfl, rfl, rfl, rfl, rfl⟩ rfl rfl rfl rfl rfl (by kernel_rfl) Try.func4 (by kernel_rfl)
    (of_decide_eq_true (by kernel_rfl)) (by unfold Func.isWrapper; first | (rw [if_pos (by decide +kernel)]; kernel_rfl) | (rw [if_neg (by decide +kernel)]; exact ⟨rfl, rfl⟩))
    (fun os started H enc _ => lifted os started H enc)
end tlbKeeps
/-- The statement. -/
theorem tlbKeeps_holds : Rows.TlbKeepsSaid := tlbKeeps.over
#print axioms tlbKeeps_holds
end Go.Proofs.Ytcajclalpmfafaa
