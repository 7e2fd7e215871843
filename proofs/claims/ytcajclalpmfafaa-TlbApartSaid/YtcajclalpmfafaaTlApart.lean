/-
  TlbApart: what is dropped of one vmid, or of a frame, leaves all others as they were, in order: for every input true, and the input reads as it did; no condition.
-/
import Derived.Test.YtcajclalpmfafaaTlSeen
import Derived.Test.YtcajclalpmfafaaTlAlive
namespace Go.Proofs.Ytcajclalpmfafaa
open Go.ChangeShapes Go.WideShapes Go.ChangeAt Go.RowKit Go.Deep
namespace tlbApart
open Tl
open Ph (Only)
/-- What is left of the first i entries. -/
def keepV (n : Int) (l : List SlotT) (i : Nat) : List SlotT := (l.take i).filter (fun s => !decide (s.1 = n))
def keepF (n : Int) (l : List SlotT) (i : Nat) : List SlotT := (l.take i).filter (fun s => !decide (s.2.2.1 = n))
theorem keepV_len (n : Int) (l : List SlotT) (i : Nat) : (keepV n l i).length ≤ l.length := Nat.le_trans (List.length_filter_le _ _) (by rw [List.length_take]; omega)
theorem keepF_len (n : Int) (l : List SlotT) (i : Nat) : (keepF n l i).length ≤ l.length := Nat.le_trans (List.length_filter_le _ _) (by rw [List.length_take]; omega)
theorem take_next {α : Type} {l : List α} {i : Nat} {x : α} (h : l[i]? = some x) : l.take (i + 1) = l.take i ++ [x] := by
  obtain ⟨hi, hx⟩ := List.getElem?_eq_some_iff.1 h
  rw [List.take_succ_eq_append_getElem hi, hx]
theorem keepV_all (n : Int) (l : List SlotT) : l.filter (fun s => !decide (s.1 = n)) = keepV n l l.length := by unfold keepV; rw [List.take_length]
theorem keepF_all (n : Int) (l : List SlotT) : l.filter (fun s => !decide (s.2.2.1 = n)) = keepF n l l.length := by unfold keepF; rw [List.take_length]
theorem keepV_succ (n : Int) {l : List SlotT} {i : Nat} {x : SlotT} (h : l[i]? = some x) : keepV n l (i + 1) = if x.1 = n then keepV n l i else keepV n l i ++ [x] := by
  unfold keepV
  rw [take_next h, List.filter_append]
  by_cases e : x.1 = n
  · rw [if_pos e]; simp [e]
  · rw [if_neg e]; simp [e]
theorem keepF_succ (n : Int) {l : List SlotT} {i : Nat} {x : SlotT} (h : l[i]? = some x) : keepF n l (i + 1) = if x.2.2.1 = n then keepF n l i else keepF n l i ++ [x] := by
  unfold keepF
  rw [take_next h, List.filter_append]
  by_cases e : x.2.2.1 = n
  · rw [if_pos e]; simp [e]
  · rw [if_neg e]; simp [e]
set_option maxRecDepth 100000 in
set_option maxHeartbeats 4000000 in
theorem walk (room : Int) (pa : Option Addr) (len cap : Nat) (y : Nat → HeldT) (n : Int) (w : World) (hl : len ≤ cap ∧ cap ≤ maxLen) (hx : TCalls w.heap.size w pa len y) :
    Calls Try.prog 5 #[.int .i64 room, .slice pa len cap, .int .i64 n] w fun e w' => e = .returned (.bool true) ∧ Below w.heap.size w w' := by
  obtain ⟨i0, hi, hz0, hz1, hz2⟩ := info_parts infoSlot
  have HX := Lib.hid hx
  have hlm : len ≤ maxLen := by omega
  clear hx hl
  go_enter Try.func5, Try.ntmps5
  go_wp2_with fail
  refine (alive_any _).mono ?_
  rintro e w0 ⟨rfl, B0⟩
  by_cases g1 : 100 < len
  · go_wp2
    go_ret
    exact ⟨rfl, B0⟩
  by_cases g2 : room < 1
  · go_wp2
    go_ret
    exact ⟨rfl, B0⟩
  by_cases g3 : 64 < room
  · go_wp2
    go_ret
    exact ⟨rfl, B0⟩
  obtain ⟨R, rfl⟩ := Int.eq_ofNat_of_zero_le (show 0 ≤ room by omega)
  have r1 : 1 ≤ R := by omega
  have r2 : R ≤ 64 := by omega
  have g100 : len ≤ 100 := by omega
  clear g1 g2 g3
  go_wp2_with fail
  refine (new_yes R w0 r1 r2).mono ?_
  rintro e w1 ⟨rfl, T1, O1⟩
  have B1 := Lib.hid (B0.trans (O1.below B0.size (by simp)))
  obtain ⟨pT, hpT⟩ : ∃ p, p = w0.heap.size + 1 := ⟨_, rfl⟩
  obtain ⟨mT, hmT⟩ : ∃ p, p = w0.heap.size := ⟨_, rfl⟩
  rw [← hpT, ← hmT] at T1
  have q1 : w.heap.size ≤ pT := by have := B0.size; omega
  have q2 : w.heap.size ≤ mT := by have := B0.size; omega
  have T1' := Lib.hid T1
  rw [← hpT]
  have z1 := T1.lt
  have z2 := T1.map.lt
  clear hpT hmT B0 O1 T1
  go_wp2_with fail
  refine (new_yes R w1 r1 r2).mono ?_
  rintro e w2 ⟨rfl, U2, O2⟩
  have B2 := Lib.hid (B1.out.trans (O2.below B1.out.size (by simp)))
  have T2 := Lib.hid (T1'.out.kept O2 (by simp) (by simp))
  obtain ⟨pU, hpU⟩ : ∃ p, p = w1.heap.size + 1 := ⟨_, rfl⟩
  obtain ⟨mU, hmU⟩ : ∃ p, p = w1.heap.size := ⟨_, rfl⟩
  rw [← hpU, ← hmU] at U2
  have a1 : pT ≠ pU := by omega
  have a2 : pT ≠ mU := by omega
  have a3 : mT ≠ pU := by omega
  have a4 : mT ≠ mU := by omega
  have q3 : w.heap.size ≤ pU := by have := B1.out.size; omega
  have q4 : w.heap.size ≤ mU := by have := B1.out.size; omega
  have U2' := Lib.hid U2
  rw [← hpU]
  clear hpU hmU B1 O2 U2 T1' z1 z2
  go_wp2_with fail
  go_loopw [11] (fun c wr => ∃ i : Nat, c = .int .i64 i ∧ i ≤ len ∧ ∃ next ps, Tlb wr pT mT R next ps ∧ Tlb wr pU mU R next ps ∧ Below w.heap.size w wr) (fun c _ => len - (intOf c).toNat)
  case atStart => exact ⟨0, rfl, Nat.zero_le _, 0, _, T2.out, U2'.out, B2.out⟩
  case round =>
    obtain ⟨i, rfl, hi', next, ps, hT, hU, hB⟩ := hrel
    clear T2 U2' B2
    by_cases hlt : i < len
    · obtain ⟨b, off, rfl, hbl, hC⟩ := HX.out.at hB hlt
      have c0 := hC.c0
      have c1 := hC.c1
      have c2 := hC.c2
      have c3 := hC.c3
      have c4 := hC.c4
      have c5 := hC.c5
      have s1 := hC.w1
      have s2 := hC.w2
      have hC' := Lib.hid hC
      have hT' := Lib.hid hT
      have hU' := Lib.hid hU
      have hB' := Lib.hid hB
      have bT : b ≠ pT := by omega
      have bm : b ≠ mT := by omega
      clear hC HX hT hU hB
      by_cases h0 : (y i).1 = 0
      · rw [h0] at c0
        go_wp2_with fail
        refine (fill_any pT mT R next ps (y i).2 _ hT'.out s1 s2).mono ?_
        rintro e w3 ⟨rfl, T3, O3⟩
        have C3 := hC'.out.kept O3 (by simp [bT, bm])
        have U3 := Lib.hid (hU'.out.kept O3 (by simp; exact ⟨a1.symm, a3.symm⟩) (by simp; exact ⟨a2.symm, a4.symm⟩))
        have B3 := Lib.hid (hB'.out.trans (O3.below hB'.out.size (by simp; omega)))
        have T3' := Lib.hid T3
        clear c1 c2 c3 c4 c5 T3 O3 hC' hT' hU' hB' c0
        have c1 := C3.c1
        have c2 := C3.c2
        have c3 := C3.c3
        have c4 := C3.c4
        have c5 := C3.c5
        clear C3
        go_wp2_with fail
        refine (fill_any pU mU R next ps (y i).2 _ U3.out s1 s2).mono ?_
        rintro e w4 ⟨rfl, U4, O4⟩
        have T4 := Lib.hid (T3'.out.kept O4 (by simp; exact ⟨a1, a2⟩) (by simp; exact ⟨a3, a4⟩))
        have U4' := Lib.hid U4
        have B4 := Lib.hid (B3.out.trans (O4.below B3.out.size (by simp; omega)))
        clear c1 c2 c3 c4 c5 U4 O4 T3' U3 B3
        go_wp2_with fail
        go_roundw
        case rel => exact ⟨i + 1, by simp, by omega, _, _, T4.out, U4'.out, B4.out⟩
        case measure => simp only [intOf, Int.toNat_natCast]; omega
      · clear c1 c2 c3 c4 c5
        go_wp2_with fail
        go_roundw
        case rel => exact ⟨i + 1, by simp, by omega, _, _, hT'.out, hU'.out, hB'.out⟩
        case measure => simp only [intOf, Int.toNat_natCast]; omega
    · obtain rfl : i = len := by omega
      clear hi' hlt HX
      have hT' := Lib.hid hT
      have hU' := Lib.hid hU
      have hB' := Lib.hid hB
      have zT := hT.lt
      have zm := hT.map.lt
      have zU := hU.lt
      have zn := hU.map.lt
      have hps := hT.len
      clear hT hU hB
      go_wp2_with fail
      refine (list_any pT mT R next ps _ hT'.out).mono ?_
      rintro e w5 ⟨L, rfl, K5, hL, b5⟩
      have T5 := Lib.hid (hT'.out.kept (Only.of b5 []) (by simp) (by simp))
      have U5 := Lib.hid (hU'.out.kept (Only.of b5 []) (by simp) (by simp))
      have B5 := Lib.hid (hB'.out.trans (b5.mono hB'.out.size))
      have K5' := Lib.hid K5
      clear hT' hU' hB' K5 b5
      go_wp2_with fail
      refine (dropAll_any pT mT R next ps n _ T5.out).mono ?_
      rintro e w6 ⟨rfl, T6, O6⟩
      have T6' := Lib.hid T6
      have U6 := Lib.hid (U5.out.kept O6 (by simp; exact a3.symm) (by simp; exact a4.symm))
      have B6 := Lib.hid (B5.out.trans (O6.below B5.out.size (by simp; omega)))
      have K6 := Lib.hid (K5'.out.kept O6 (by simp; omega))
      clear T5 U5 B5 K5' T6 O6
      have hcv : ((count ps : Int) - count (ps.map (off fun s => decide (s.1 = n)))) = (slots ps).length - ((slots ps).filter (fun s => !decide (s.1 = n))).length := by rw [← slots_off]; rfl
      have hcf : ((count ps : Int) - count (ps.map (off fun s => decide (s.2.2.1 = n)))) = (slots ps).length - ((slots ps).filter (fun s => !decide (s.2.2.1 = n))).length := by rw [← slots_off]; rfl
      rw [hcv]
      go_wp2_with fail
      refine (dropFrame_any pU mU R next ps n _ U6.out).mono ?_
      rintro e w7 ⟨rfl, U7, O7⟩
      have U7' := Lib.hid U7
      have T7 := Lib.hid (T6'.out.kept O7 (by simp; exact a2) (by simp; exact a4))
      have B7 := Lib.hid (B6.out.trans (O7.below B6.out.size (by simp; omega)))
      have K7 := Lib.hid (K6.out.kept O7 (by simp; omega))
      clear T6' U6 B6 K6 U7 O7
      rw [hcf]
      clear hcv hcf
      have ht := Lib.hid (slots_off (fun s => decide (s.1 = n)) ps)
      have hu := Lib.hid (slots_off (fun s => decide (s.2.2.1 = n)) ps)
      obtain ⟨l, hl⟩ : ∃ l, l = slots ps := ⟨_, rfl⟩
      rw [← hl] at K7 ht hu ⊢
      have hl64 : l.length ≤ 64 := by rw [hl]; have := slots_len ps; omega
      clear hl
      rw [keepV_all, keepF_all]
      rw [keepV_all] at ht
      rw [keepF_all] at hu
      obtain ⟨dv, hdv'⟩ : ∃ dv, dv = (keepV n l l.length).length := ⟨_, rfl⟩
      obtain ⟨df, hdf'⟩ : ∃ df, df = (keepF n l l.length).length := ⟨_, rfl⟩
      rw [← hdv', ← hdf']
      have hdv := Lib.hid hdv'
      have hdf := Lib.hid hdf'
      have ldv : dv ≤ l.length := by rw [hdv']; exact keepV_len _ _ _
      have ldf : df ≤ l.length := by rw [hdf']; exact keepF_len _ _ _
      clear hdv' hdf'
      have zT7 : pT < w7.heap.size := T7.out.lt
      have zm7 : mT < w7.heap.size := T7.out.map.lt
      have zU7 : pU < w7.heap.size := U7'.out.lt
      have zn7 : mU < w7.heap.size := U7'.out.map.lt
      have zL7 : L < w7.heap.size := K7.out.lt
      have zw7 := B7.out.size
      go_wp2_with fail
      have V9 := Lib.hid (show ((w7.alloc (.cells #[] 31)).alloc (.cells #[] 31)).ownsRow w7.heap.size 31 5 (.slice (some ⟨w7.heap.size, 0, none⟩) 0 0) (keepV n l 0).length (flatS (keepV n l 0)) from (World.ownsRow_lit w7 #[] 0 (Nat.le_refl _) (by decide) rfl).alloc _)
      have U9 := Lib.hid (show ((w7.alloc (.cells #[] 31)).alloc (.cells #[] 31)).ownsRow w7.heap.size 31 5 (.slice (some ⟨w7.heap.size + 1, 0, none⟩) 0 0) (keepF n l 0).length (flatS (keepF n l 0)) from by
        have := World.ownsRow_lit (base := w7.heap.size) (e := 31) (size := 5) (w7.alloc (.cells #[] 31)) #[] 0 (by simp) (by decide) rfl
        rw [World.size_alloc] at this
        exact this)
      have B9 := Lib.hid (((Below.refl w7.heap.size w7).alloc (Nat.le_refl _) (.cells #[] 31)).alloc (by simp) (.cells #[] 31))
      go_loopw [15, 16, 17] (fun v u c wr => ∃ i : Nat, c = .int .i64 i ∧ i ≤ l.length ∧ wr.ownsRow w7.heap.size 31 5 v (keepV n l i).length (flatS (keepV n l i)) ∧ wr.ownsRow w7.heap.size 31 5 u (keepF n l i).length (flatS (keepF n l i)) ∧ Apart v u ∧ Below w7.heap.size w7 wr) (fun _ _ c _ => l.length - (intOf c).toNat)
      case atStart => exact ⟨0, rfl, Nat.zero_le _, V9.out, U9.out, fun k hk hk' => by simp [Value.ownBlock] at hk hk'; omega, B9.out⟩
      case round =>
        obtain ⟨i, rfl, hi', hV, hU, hA, hB⟩ := hrel
        have HV := Lib.hid hV
        have HU := Lib.hid hU
        have AP := Lib.hid hA
        have HB := Lib.hid hB
        have hwr := hB.size
        have LV := Lib.hid (keepV_len n l i)
        have LF := Lib.hid (keepF_len n l i)
        clear hV hU hA hB V9 U9 B9
        by_cases hlt : i < l.length
        · obtain ⟨x, hx⟩ : ∃ x, l[i]? = some x := ⟨l[i], List.getElem?_eq_getElem hlt⟩
          have ga := fun j u hu => (HB.out.cell (p := ⟨L, i * 5 + j, none⟩) zL7).trans (K7.out.range i x hx j u hu)
          have k0 := ga 0 _ rfl
          have k1 := ga 1 _ rfl
          have k2 := ga 2 _ rfl
          have k3 := ga 3 _ rfl
          have k4 := ga 4 _ rfl
          rw [Nat.add_zero] at k0
          clear ga
          have SV := Lib.hid (keepV_succ n hx)
          have SF := Lib.hid (keepF_succ n hx)
          clear hx
          have zLr : L < wr.heap.size := by omega
          by_cases e1 : x.1 = n
          · by_cases e2 : x.2.2.1 = n
            · go_wp2_with fail
              go_roundw
              case rel => exact ⟨i + 1, by simp, by omega, by rw [SV.out, if_pos e1]; exact HV.out, by rw [SF.out, if_pos e2]; exact HU.out, AP.out, HB.out⟩
              case measure => simp only [intOf, Int.toNat_natCast]; omega
            · have ex := Lib.hid (show x = (n, x.2) by rw [← e1])
              go_wp2_with (at_builtin; refine step_app rfl (.tmp 118) (.tmp 123) rfl w7.heap.size u16 u15 _ _ (n, x.2) wr HU.out HV.out AP.out.symm hwr (by have := LF.out; omega) rfl rfl ?_; intro u1 w8 hU1 hV1 hA1 hB1; have HV1 := Lib.hid hV1; have HU1 := Lib.hid hU1; have AP1 := Lib.hid hA1; have HB1 := Lib.hid (HB.out.trans hB1); clear hV1 hU1 hA1 hB1)
              go_roundw
              case rel => exact ⟨i + 1, by simp, by omega, by rw [SV.out, if_pos e1]; exact HV1.out, by rw [SF.out, if_neg e2, ex.out]; exact HU1.out, AP1.out.symm, HB1.out⟩
              case measure => simp only [intOf, Int.toNat_natCast]; omega
          · by_cases e2 : x.2.2.1 = n
            · have ex := Lib.hid (show x = (x.1, x.2.1, n, x.2.2.2) by rw [← e2])
              go_wp2_with (at_builtin; refine step_app rfl (.tmp 104) (.tmp 109) rfl w7.heap.size u15 u16 _ _ (x.1, x.2.1, n, x.2.2.2) wr HV.out HU.out AP.out hwr (by have := LV.out; omega) rfl rfl ?_; intro v1 w8 hV1 hU1 hA1 hB1; have HV1 := Lib.hid hV1; have HU1 := Lib.hid hU1; have AP1 := Lib.hid hA1; have HB1 := Lib.hid (HB.out.trans hB1); have j0 := (hB1.cell (p := ⟨L, i * 5, none⟩) zL7).trans k0; have j2 := (hB1.cell (p := ⟨L, i * 5 + 2, none⟩) zL7).trans k2; clear hV1 hU1 hA1 hB1)
              go_roundw
              case rel => exact ⟨i + 1, by simp, by omega, by rw [SV.out, if_neg e1, ex.out]; exact HV1.out, by rw [SF.out, if_pos e2]; exact HU1.out, AP1.out, HB1.out⟩
              case measure => simp only [intOf, Int.toNat_natCast]; omega
            · go_wp2_with (first
                | (at_builtin; with_reducible (show wpList _ _ _ (⟨some 110, _, _, _, _, _⟩ :: _) _ _); go_loud (refine step_app rfl (.tmp 104) (.tmp 109) rfl w7.heap.size u15 u16 _ _ x wr HV.out HU.out AP.out hwr (by have := LV.out; omega) rfl rfl ?_); intro v1 w8 hV1 hU1 hA1 hB1; have HV1 := Lib.hid hV1; have HU1 := Lib.hid hU1; have AP1 := Lib.hid hA1; have HB1 := Lib.hid (HB.out.trans hB1); have j0 := (hB1.cell (p := ⟨L, i * 5, none⟩) zL7).trans k0; have j1 := (hB1.cell (p := ⟨L, i * 5 + 1, none⟩) zL7).trans k1; have j2 := (hB1.cell (p := ⟨L, i * 5 + 2, none⟩) zL7).trans k2; have j3 := (hB1.cell (p := ⟨L, i * 5 + 3, none⟩) zL7).trans k3; have j4 := (hB1.cell (p := ⟨L, i * 5 + 4, none⟩) zL7).trans k4; have zL8 := Nat.lt_of_lt_of_le zLr hB1.size; have hw8 := Nat.le_trans hwr hB1.size; clear hV1 hU1 hA1 hB1)
                | (at_builtin; with_reducible (show wpList _ _ _ (⟨some 124, _, _, _, _, _⟩ :: _) _ _); refine step_app rfl (.tmp 118) (.tmp 123) rfl w7.heap.size u16 v1 _ _ x w8 HU1.out HV1.out AP1.out.symm hw8 (by have := LF.out; omega) rfl rfl ?_; intro u1 w9 hU2 hV2 hA2 hB2; have HV2 := Lib.hid hV2; have HU2 := Lib.hid hU2; have AP2 := Lib.hid hA2; have HB2 := Lib.hid (HB1.out.trans hB2); clear hV2 hU2 hA2 hB2))
              go_roundw
              case rel => exact ⟨i + 1, by simp, by omega, by rw [SV.out, if_neg e1]; exact HV2.out, by rw [SF.out, if_neg e2]; exact HU2.out, AP2.out.symm, HB2.out⟩
              case measure => simp only [intOf, Int.toNat_natCast]; omega
        · obtain rfl : i = l.length := by omega
          have SV := Lib.hid (row_seen HV.out)
          have SF := Lib.hid (row_seen HU.out)
          have TT := Lib.hid (T7.out.keptB HB.out zT7 zm7)
          have UU := Lib.hid (U7'.out.keptB HB.out zU7 zn7)
          have BW := Lib.hid (B7.out.trans (HB.out.mono zw7))
          obtain ⟨a15, c15, e15, _⟩ := row_seen HV.out
          obtain ⟨a16, c16, e16, _⟩ := row_seen HU.out
          rw [← hdv.out] at e15
          rw [← hdf.out] at e16
          clear HV HU AP HB T7 U7' K7 B7 LV LF zT7 zm7 zU7 zn7 zL7
          subst e15 e16
          go_wp2_with fail
          refine (list_any pT mT R next _ _ TT.out).mono ?_
          rintro e w10 ⟨L1, rfl, K10, hL1, b10⟩
          rw [ht.out] at K10 ⊢
          have UU' := Lib.hid (UU.out.kept (Only.of b10 []) (by simp) (by simp))
          have BW' := Lib.hid (BW.out.trans (b10.mono BW.out.size))
          have SF' := Lib.hid (SF.out.below b10)
          have SV' := Lib.hid (SV.out.below b10)
          have K10' := Lib.hid K10
          clear K10 UU TT BW SF SV b10
          go_wp2_with fail
          refine (alike_same _ _ (keepV n l l.length) _ (by rw [← hdv.out]; omega) K10'.out.seen SV'.out).mono ?_
          rintro e w11 ⟨rfl, b11⟩
          have UU := Lib.hid (UU'.out.kept (Only.of b11 []) (by simp) (by simp))
          have BW := Lib.hid (BW'.out.trans (b11.mono BW'.out.size))
          have SF := Lib.hid (SF'.out.below b11)
          clear UU' BW' SF' SV' K10' b11
          go_wp2_with fail
          refine (list_any pU mU R next _ _ UU.out).mono ?_
          rintro e w12 ⟨L2, rfl, K12, hL2, b12⟩
          rw [hu.out] at K12 ⊢
          have BW' := Lib.hid (BW.out.trans (b12.mono BW.out.size))
          have SF' := Lib.hid (SF.out.below b12)
          have K12' := Lib.hid K12
          clear K12 UU BW SF b12
          go_wp2_with fail
          refine (alike_same _ _ (keepF n l l.length) _ (by rw [← hdf.out]; omega) K12'.out.seen SF'.out).mono ?_
          rintro e w13 ⟨rfl, b13⟩
          have BW := Lib.hid (BW'.out.trans (b13.mono BW'.out.size))
          clear BW' SF' K12' b13
          go_wp2_with fail
          go_ret
          exact ⟨rfl, BW.out⟩
set_option maxRecDepth 100000 in
theorem lifted (os : Os) (started : os.Started) (H : Type) (enc : TypeId × Value → H) :
    ReturnsInHanded {} Try.checked os 5 .any (Rows.tlbApartSpec.pre6 enc Try.prog Try.f5 Rows.tlbApartRow.domain false) (Rows.tlbApartSpec.post enc Try.prog Try.f5 false true false false) := by
  refine returnsInHanded_of_change_sized (C := Try.checked) own started (by kernel_rfl) Try.func5
    (ChangeSpec.witness6 (enc := enc) (C := Try.checked) false ⟨#[], #[.int .i64 0, .slice none 0 0, .int .i64 0], []⟩ 8 (by kernel_rfl) (by kernel_rfl) (by kernel_rfl) (by kernel_rfl)) ?_
  intro W base args ds gs before hval0 hW hcnd hZ0 _
  have hval : ∀ (j : Nat) t v, Try.f5.params[j]? = some t → args[j]? = some v → Value.okWide Try.prog W .any base t v := hval0
  have hZ : ∀ n ∈ DataW.weightsEach Try.prog (Try.f5.params.toList ++ []) (ds ++ gs), n ≤ reachBytes := fun n hn => of_decide_eq_true (List.all_eq_true.1 hZ0 n hn)
  have hW' := hW
  obtain ⟨p, q, hA0, hV, rfl, hfz, hnd⟩ := hW
  have hA : DataW.TrodAll enc Try.prog W 0 (fun _ => true) true Try.f5.params.toList args.toList ds p := hA0
  rw [Try.params5] at hA hval hZ
  obtain ⟨v0, vs0, d0, ds0, p0, q0, hargs, rfl, rfl, h0, r0⟩ := trodAll_cons hA
  obtain ⟨v1, vs1, d1, ds1, p1, q1, rfl, rfl, rfl, h1, r1⟩ := trodAll_cons r0
  obtain ⟨v2, vs2, d2, ds2, p2, q2, rfl, rfl, rfl, h2, r2⟩ := trodAll_cons r1
  obtain ⟨rfl, rfl, rfl⟩ := trodAll_nil r2
  obtain rfl : args = #[v0, v1, v2] := by cases args; simp_all
  obtain ⟨rfl, rfl⟩ := trodVars_none hV
  obtain ⟨x0, rfl, rfl, rfl, w0⟩ := open_int Try.underlying3 (hval 0 3 v0 rfl rfl) h0
  have k1 := h1
  have hz1 : ∀ n ∈ d1.weights Try.prog 22, n ≤ reachBytes := fun n hn => hZ n (by simp only [List.append_nil, DataW.weightsEach, List.mem_append]; exact Or.inr (Or.inl hn))
  obtain ⟨a1, n1, c1, y1, rfl, m1, lt1, z1⟩ := tcalls_open (hval 1 22 v1 rfl rfl) h1 hz1
  obtain ⟨x2, rfl, rfl, rfl, w2⟩ := open_int Try.underlying3 (hval 2 3 v2 rfl rfl) h2
  clear hA0 hval0 hZ0
  refine (walk x0 a1 n1 c1 y1 x2 W m1 z1).mono fun e W' ⟨he, ho⟩ => ?_
  subst he
  have bel : Below W.heap.size W W' := ho
  exact ⟨_, rfl, _, _, _, [], _, [], hW', trodAll_mk1 (shut_bool Try.underlying4 _), (trodAll_cons_mk (shut_int Try.underlying3 w0) (trodAll_cons_mk (Below.trod laidOut (by kernel_rfl) (of_decide_eq_true (by kernel_rfl)) k1 bel lt1) (trodAll_cons_mk (shut_int Try.underlying3 w2) trodAll_mk0))), rfl, bel.frame _, fun h => by cases h⟩
theorem over : Rows.tlbApartRow.holds Try.pinned (OpenSpec.ofChange Rows.tlbApartSpec) :=
  OpenClaim.holds_of_wide 5 Try.f5 rfl rfl rfl rfl rfl rfl rfl ⟨rfl, rfl, rfl, rfl, rfl⟩ rfl rfl rfl rfl rfl (by kernel_rfl) Try.func5 (by kernel_rfl)
    (of_decide_eq_true (by kernel_rfl)) (by unfold Func.isWrapper; first | (rw [if_pos (by decide +kernel)]; kernel_rfl) | (rw [if_neg (by decide +kernel)]; exact ⟨rfl, rfl⟩))
    (fun os started H enc _ => lifted os started H enc)
end tlbApart
/-- The statement. -/
theorem tlbApart_holds : Rows.TlbApartSaid := tlbApart.over
#print axioms tlbApart_holds
end Go.Proofs.Ytcajclalpmfafaa
