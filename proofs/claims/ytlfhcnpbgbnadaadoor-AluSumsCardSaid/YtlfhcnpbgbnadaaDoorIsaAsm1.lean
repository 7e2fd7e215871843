/-
  What isa.Assemble answers, at every text of at most 2^20 bytes; the conditions: the tables that the program's text lays lie so.
-/
import Derived.Test.YtlfhcnpbgbnadaaDoorIsaAsm0
namespace Go.Proofs.YtlfhcnpbgbnadaaDoor
open Go.RowKit Go.Shelf Isa
attribute [local go_sem] Oper.semAt_some
theorem linesFrom_len : ∀ (m n : Nat) (l : List UInt8), l.length ≤ m → (linesFrom n l).length ≤ l.length
  | m, n, [], _ => by rw [linesFrom_nil]; simp
  | 0, n, c :: l, h => by simp at h
  | m + 1, n, c :: l, h => by
    have h1 := cutL_short 10 (c :: l) (by simp)
    rw [linesFrom_cons n _ (by simp), List.length_cons]
    have h2 := linesFrom_len m (n + 1) (cutL 10 (c :: l)).2 (by omega)
    omega
set_option maxRecDepth 100000 in
set_option maxHeartbeats 4000000 in
theorem asm_any (s : ByteArray) (w : World) (hE : Env w) (hs : s.size ≤ 1000000) :
    Calls Tryd.prog 31 #[.string s] w (AsmPost s.data.toList w) := by
  have HE := Lib.hid hE
  clear hE
  obtain ⟨i0, hi, hz0, hz1, hz2⟩ := info_parts info24
  refine (callsIn_wide (n := 5)).1 ?_
  refine callsIn_of_wp_marks Tryd.func31 rfl trivial ?_ rfl
  simp only [Tryd.ntmps31, List.size_toArray, List.length_cons, List.length_nil, Nat.reduceAdd, Nat.reduceSub, Array.replicate_succ, Array.replicate_zero, List.push_toArray, List.append_toArray, List.nil_append, List.cons_append]
  gi_wp2
  refine ⟨trivial, (callsIn_wide.2 (lines_any _ _)).mono ?_⟩
  rintro e w' ⟨rfl, rfl⟩
  gi_wp2
  have b0 := Boxed.new w 41 (.slice none 0 0)
  have b1 := Boxed.new (w.alloc (.cells #[.slice none 0 0] 41)) 3 (.int .i64 0)
  have b2 := Boxed.new ((w.alloc (.cells #[.slice none 0 0] 41)).alloc (.cells #[.int .i64 0] 3)) 67 (.int .i64 0)
  have b3 := Boxed.new (((w.alloc (.cells #[.slice none 0 0] 41)).alloc (.cells #[.int .i64 0] 3)).alloc (.cells #[.int .i64 0] 67)) 78 (.slice none 0 0)
  have b4 := Boxed.new ((((w.alloc (.cells #[.slice none 0 0] 41)).alloc (.cells #[.int .i64 0] 3)).alloc (.cells #[.int .i64 0] 67)).alloc (.cells #[.slice none 0 0] 78)) 9 (.string s)
  simp only [World.size_alloc] at b1 b2 b3 b4
  have hB0 : Below w.heap.size w (((((w.alloc (.cells #[.slice none 0 0] 41)).alloc (.cells #[.int .i64 0] 3)).alloc (.cells #[.int .i64 0] 67)).alloc (.cells #[.slice none 0 0] 78)).alloc (.cells #[.string s] 9)) := (((((Below.refl _ w).alloc (Nat.le_refl _) _).alloc (by simp) _).alloc (by simp; omega) _).alloc (by simp; omega) _).alloc (by simp; omega) _
  have hst := lines1_stops 4 (by omega) (w.heap.size + 1 + 1 + 1 + 1) s _ (by omega) (by simp) b4.cell
  have hI0 : Inv w.heap.size w [] (((((w.alloc (.cells #[.slice none 0 0] 41)).alloc (.cells #[.int .i64 0] 3)).alloc (.cells #[.int .i64 0] 67)).alloc (.cells #[.slice none 0 0] 78)).alloc (.cells #[.string s] 9)) :=
    ⟨⟨⟨⟨_, b3.alloc _, World.ownsRow_nil _ _ _ _, by simp [wordsOf, plainX]⟩, by simp [Clean, plainX]⟩, (((b0.alloc _).alloc _).alloc _).alloc _, ((b1.alloc _).alloc _).alloc _, (b2.alloc _).alloc _⟩, hB0⟩
  have hsz : (((((w.alloc (.cells #[.slice none 0 0] 41)).alloc (.cells #[.int .i64 0] 3)).alloc (.cells #[.int .i64 0] 67)).alloc (.cells #[.slice none 0 0] 78)).alloc (.cells #[.string s] 9)).heap.size = w.heap.size + 1 + 1 + 1 + 1 + 1 := by simp
  clear b0 b1 b2 b3 b4
  generalize (((((w.alloc (.cells #[.slice none 0 0] 41)).alloc (.cells #[.int .i64 0] 3)).alloc (.cells #[.int .i64 0] 67)).alloc (.cells #[.slice none 0 0] 78)).alloc (.cells #[.string s] 9)) = W0 at *
  refine wpIn_rangeFunc_ownF (α := LineX) (encs := encX) (Kp := KeepsWalks) (F := Fence.wide) (n := 5) rfl (by decide) (gf := 55) (lb := #[.pointer (some ⟨w.heap.size + 1 + 1 + 1 + 1, 0, none⟩)]) ?h1 trivial ?h2 hst ?h3 ?h4 ?h5 ?h6 (Inv w.heap.size w) (InvX w.heap.size w) ?h7 ?h8 ?h9 ?a1 ?assign ?body ?done ?stop
  case h1 => rfl
  case h2 => exact enters_of Tryd.func55 (by kernel_rfl) rfl
  case h3 => exact walksK_t
  case h4 => exact walksK_b
  case h5 => exact Below.refl _ _
  case h6 => exact fun _ => rfl
  case h7 => exact inv_own _ _ _ (Nat.le_refl _) (by omega)
  case h8 => exact fun c => invX_own _ _ _ c (Nat.le_refl _) (by omega)
  case h9 => exact hI0
  case a1 => exact (fun x => { tmps := #[.string s, undef, .pointer (some ⟨w.heap.size, 0, none⟩), .pointer (some ⟨w.heap.size + 1, 0, none⟩), .pointer (some ⟨w.heap.size + 1 + 1, 0, none⟩), .pointer (some ⟨w.heap.size + 1 + 1 + 1, 0, none⟩), .int .i64 x.1.1, .string (bs x.1.2), undef, undef, undef, undef, .string s, .func (.func 55) #[] #[.pointer (some ⟨w.heap.size + 1 + 1 + 1 + 1, 0, none⟩)], .int .i64 x.1.1, .string (bs x.1.2), undef, undef, undef, undef, undef, undef, undef, undef, undef, undef, undef, undef, undef, undef, undef, undef, undef, undef, undef, undef, undef, undef, undef, undef], defers := [] })
  case assign =>
    intro l x W K hK
    dsimp only [encX]
    gi_wp2
    exact hK
  case body =>
    rintro l pre x W hi hlt
    obtain ⟨⟨⟨⟨v, hv, hrow, hnil⟩, hcl⟩, hres⟩, hB⟩ := hi
    have HV := Lib.hid hv
    have HR := Lib.hid hrow
    have HN := Lib.hid hnil
    have HC := Lib.hid hcl
    have HS := Lib.hid hres
    have HBW := Lib.hid hB
    have hxl := x.2
    have hEW := Lib.hid (HE.out.kept hB)
    clear hv hrow hnil hcl hres hB hst hI0 hB0
    cases hsil : silentB x.1.2
    · cases hrd : readO x.1.2 with
      | none =>
        have HV2 := Lib.hid (show readV x.1.2 = .tuple #[.agg #[.int .i64 0, .int .i64 0, .int .i64 0, .int .i64 0], .bool false] by unfold readV; rw [hrd])
        have hbad := Lib.hid (show badX x.1 = true by simp [badX, hsil, hrd])
        clear hrd
        gi_wp2
        refine ⟨trivial, ((callsIn_wide.2 (silent_any _ _)).inRound l).mono ?_⟩
        rintro e w1 ⟨rfl, rfl⟩
        gi_wp2
        refine ⟨trivial, ((callsIn_wide.2 (read_any (bs x.1.2) _ hEW.out (by rw [bs_size]; exact hxl))).inRound l).mono ?_⟩
        rintro e w1 ⟨rfl, hb⟩
        rw [bs_toList, HV2.out]
        have HS1 := Lib.hid (HS.out.of hb)
        obtain ⟨r0, r1, r2⟩ := HS1.out
        have c0 := r0.cell
        have c1 := r1.cell
        have c2 := r2.cell
        have f0 := r0.frozen
        have f1 := r1.frozen
        have f2 := r2.frozen
        have hz := r2.lt
        have hy0 := r0.lt
        have hy1 := r1.lt
        clear r0 r1 r2
        have HB1 := Lib.hid hb
        clear hb
        gi_wp2
        obtain ⟨r0, r1, r2⟩ := HS1.out
        refine ⟨((((others_of HB1.out).trans (KeepsOthers.setCell _ _ _)).trans (KeepsOthers.setCell _ _ _)).trans (KeepsOthers.setCell _ _ _)).trans (KeepsOthers.alloc _ _), ⟨rfl, pre, x, rfl, HC.out, hbad.out, ?_, ?_, ?_⟩, ?_⟩
        · exact (((r0.set _).other (by omega) _).other (by omega) _).alloc _
        · exact (((r1.other (by omega) _).set _).other (by omega) _).alloc _
        · exact (((r2.other (by omega) _).other (by omega) _).set _).alloc _
        · exact (((((HBW.out.trans (HB1.out.mono HBW.out.size)).setCell (p := ⟨w.heap.size, 0, none⟩) (Nat.le_refl _) _).setCell (p := ⟨w.heap.size + 1, 0, none⟩) (by simp) _).setCell (p := ⟨w.heap.size + 1 + 1, 0, none⟩) (by simp; omega) _)).alloc (by simp; omega) _
      | some y =>
        have hry := readO_right hrd
        have HV2 := Lib.hid (show readV x.1.2 = .tuple #[.agg #[.int .i64 y.1, .int .i64 y.2.1, .int .i64 y.2.2.1, .int .i64 y.2.2.2], .bool true] by unfold readV; rw [hrd])
        have hbad := Lib.hid (show badX x.1 = false by simp [badX, hrd])
        have hwx := Lib.hid (show wordX x.1.2 = some (enc y.1 y.2.1 y.2.2.1 y.2.2.2) by simp [wordX, hsil, hrd])
        have hpl := wordsOf_len (plainX pre)
        have hpl2 : (plainX pre).length = pre.length := by simp [plainX]
        have hk1 : (wordsOf (plainX pre)).length + 1 ≤ maxLen := by unfold maxLen; omega
        have hk2 : ((wordsOf (plainX pre)).length + 1) * 4 ≤ 140737488355328 := by omega
        have HP := Lib.hid hpl2
        clear hrd hpl2
        gi_wp2
        refine ⟨trivial, ((callsIn_wide.2 (silent_any _ _)).inRound l).mono ?_⟩
        rintro e w1 ⟨rfl, rfl⟩
        gi_wp2
        refine ⟨trivial, ((callsIn_wide.2 (read_any (bs x.1.2) _ hEW.out (by rw [bs_size]; exact hxl))).inRound l).mono ?_⟩
        rintro e w1 ⟨rfl, hb⟩
        rw [bs_toList, HV2.out]
        have HB1 := Lib.hid hb
        clear hb
        gi_wp2
        refine ⟨trivial, ((callsIn_wide.2 (encode_yes _ _ _ _ _ ((hEW.out.kept HB1.out).box _).1 hry)).inRound l).mono ?_⟩
        rintro e w2 ⟨rfl, hb⟩
        have HB2 := Lib.hid (((HB1.out.alloc (by have := HB1.out.size; omega) _).trans (hb.mono (by have := HB1.out.size; simp; omega))) : Below W.heap.size W w2)
        clear hb
        have hv2 := Lib.hid (boxed_of HV.out HB2.out)
        have hr2 := Lib.hid (HR.out.kept (grown_of HB2.out) (Classical.em _))
        have hs2 := Lib.hid (HS.out.of HB2.out)
        have hc := hv2.out.cell
        have hn2 : w.heap.size ≤ w2.heap.size := by have := HBW.out.size; have := HB2.out.size; omega
        gi_wp2_with (gi_at_builtin; refine wpListIn_append_own _ rfl _ _ 78 rfl w.heap.size 22 i0 (.int .u32 0) 1 4 Tryd.underlying78 hi hz0 hz1 hz2 rfl (by decide) _ _ _ rfl (hr2.out.alloc _) ⟨w2.heap.size, 0, none⟩ 1 1 [.int .u32 (enc y.1 y.2.1 y.2.2.1 y.2.2.2)] rfl rfl (cell_one_new _ _ _) (by simp [Value.oneCell']) hk1 hk2 (by simp; omega) ?_; intro v' w3 hown' hgrow _; obtain ⟨g', cap', rfl⟩ := ownsRow_succ hown'; obtain ⟨hv1, hv3, hr3, hk3, hb3⟩ := hv2.out.appended (by decide) hr2.out hn2 (by omega) hown' hgrow; have hc1 := hv1.cell; have hf1 := hv1.frozen)
        obtain ⟨q0, q1, q2⟩ := hs2.out
        have hx1 : plainX (pre ++ [x]) = plainX pre ++ [x.1] := by simp [plainX]
        refine ⟨(others_of HB2.out).trans hk3, ((others_of HB2.out).trans hk3).walks, ⟨⟨⟨_, hv3, ?_, ?_⟩, ?_⟩, ?_, ?_, ?_⟩, HBW.out.trans ((HB2.out.mono HBW.out.size).trans hb3)⟩
        · rw [hx1, wordsOf_snoc, hwx.out]
          simpa using hr3
        · rw [hx1, wordsOf_snoc, hwx.out]
          simp
        · intro z hz
          rw [hx1] at hz
          rcases List.mem_append.1 hz with hz | hz
          · exact HC.out z hz
          · obtain rfl : z = x.1 := by simpa using hz
            exact hbad.out
        · exact (((q0.alloc _).kept hgrow (q0.not_row (by decide) hr2.out)).other (by omega) _)
        · exact (((q1.alloc _).kept hgrow (q1.not_row (by decide) hr2.out)).other (by omega) _)
        · exact (((q2.alloc _).kept hgrow (q2.not_row (by decide) hr2.out)).other (by omega) _)
    · gi_wp2
      refine ⟨trivial, ((callsIn_wide.2 (silent_any _ _)).inRound l).mono ?_⟩
      rintro e w1 ⟨rfl, rfl⟩
      gi_wp2
      have hw : wordX x.1.2 = none := by simp [wordX, hsil]
      refine ⟨KeepsOthers.refl _, KeepsWalks.refl _, ⟨⟨⟨v, HV.out, ?_, ?_⟩, ?_⟩, HS.out⟩, HBW.out⟩
      · show W.ownsRow _ _ _ _ (wordsOf (plainX (pre ++ [x]))).length _
        rw [show plainX (pre ++ [x]) = plainX pre ++ [x.1] by simp [plainX], wordsOf_snoc, hw]
        simpa using HR.out
      · rw [show plainX (pre ++ [x]) = plainX pre ++ [x.1] by simp [plainX], wordsOf_snoc, hw]
        simpa using HN.out
      · intro z hz
        rw [show plainX (pre ++ [x]) = plainX pre ++ [x.1] by simp [plainX]] at hz
        rcases List.mem_append.1 hz with hz | hz
        · exact HC.out z hz
        · obtain rfl : z = x.1 := by simpa using hz
          simp [badX, hsil]
  case stop =>
    rintro D c pre W hD hpre ⟨⟨rfl, q, x, rfl, hcl, hbad, hres⟩, hB⟩ hK
    have HK := Lib.hid hK
    have HR := Lib.hid hres
    have HBW := Lib.hid hB
    clear hK hres hB hst hI0 hB0
    gi_wp2
    refine ⟨by simp, .inl ⟨_, _, rfl, run_takeDeferred HK.out, ?_⟩⟩
    have h5 := HR.out.turn (grownBy_putObj' _ D (.deferred none)) (fun r e => by cases e; exact ⟨_, HK.out, rfl⟩)
    obtain ⟨k0, k1, k2⟩ := h5
    have c0 := k0.cell
    have c1 := k1.cell
    have c2 := k2.cell
    refine ⟨.tuple #[.slice none 0 0, .int .i64 x.1.1, .int .i64 10], ?_, ?_, HBW.out.trans (belowK_b (w := w) (Nat.le_refl _) W D _ _ (by omega) HK.out rfl rfl)⟩
    · simp [results, Tryd.f31, go_sem, c0, c1, c2]
    · obtain ⟨r, hr⟩ := hpre
      exact .inl ⟨plainX q, x.1, r, by rw [← hr]; simp [plainX], hcl, hbad, rfl⟩
  case done =>
    rintro D xs W hD hS ⟨⟨⟨⟨v, hv, hrow, hnil⟩, hcl⟩, hres⟩, hB⟩ hK
    have hlen : (wordsOf (plainX xs)).length ≤ 1000000 := by
      have h1 := wordsOf_len (plainX xs)
      rw [hS] at h1 ⊢
      have h2 := linesFrom_len s.data.toList.length 1 s.data.toList (Nat.le_refl _)
      rw [ba_len] at h2
      omega
    have hzs := wordsOf_bounds (plainX xs)
    have HK := Lib.hid hK
    have HRS := Lib.hid hres
    have HBW := Lib.hid hB
    have HRW := Lib.hid hrow
    have HZ := Lib.hid hzs
    have HL := Lib.hid hlen
    have HC := Lib.hid hcl
    have HS := Lib.hid hS
    have hc := hv.cell
    have hd : decide (1048576 < (s.size : Int)) = false := by simp; omega
    clear hK hres hB hst hI0 hB0 hrow hzs hlen hcl hS hv hnil
    gi_wp2
    refine ⟨trivial, (callsIn_wide.2 (bytesL _ _ _ _ HL.out HZ.out HRW.out)).mono ?_⟩
    rintro e w1 ⟨rfl, hrw, hb⟩
    have HR1 := Lib.hid hrw
    have HB1 := Lib.hid hb
    have HS1 := Lib.hid (HRS.out.of hb)
    obtain ⟨r0, r1, r2⟩ := HS1.out
    have c0 := r0.cell
    have c1 := r1.cell
    have c2 := r2.cell
    have f0 := r0.frozen
    have f1 := r1.frozen
    have f2 := r2.frozen
    clear r0 r1 r2 hrw hb
    gi_wp2
    obtain ⟨r0, r1, r2⟩ := HS1.out
    have hlt := HRS.out.2.2.lt
    have hDl : D < W.heap.size := (Array.getElem?_eq_some_iff.1 HK.out).1
    have K1 := (others_of HB1.out).same D _ HK.out rfl
    have K4 := (((KeepsOthers.setCell w1 ⟨w.heap.size, 0, none⟩ (.slice (some ⟨W.heap.size, 0, none⟩) (4 * (wordsOf (plainX xs)).length) (4 * (wordsOf (plainX xs)).length))).trans (KeepsOthers.setCell _ ⟨w.heap.size + 1, 0, none⟩ (.int .i64 0))).trans (KeepsOthers.setCell _ ⟨w.heap.size + 1 + 1, 0, none⟩ (.int .i64 0))).same D _ K1 rfl
    have R4 : Res w.heap.size (((w1.setCell ⟨w.heap.size, 0, none⟩ (.slice (some ⟨W.heap.size, 0, none⟩) (4 * (wordsOf (plainX xs)).length) (4 * (wordsOf (plainX xs)).length))).setCell ⟨w.heap.size + 1, 0, none⟩ (.int .i64 0)).setCell ⟨w.heap.size + 1 + 1, 0, none⟩ (.int .i64 0)) (.slice (some ⟨W.heap.size, 0, none⟩) (4 * (wordsOf (plainX xs)).length) (4 * (wordsOf (plainX xs)).length)) 0 0 :=
      ⟨((r0.set _).other (by omega) _).other (by omega) _, ((r1.other (by omega) _).set _).other (by omega) _, ((r2.other (by omega) _).other (by omega) _).set _⟩
    have h5 := R4.turn (grownBy_putObj' _ D (.deferred none)) (fun r e => by cases e; exact ⟨_, K4, rfl⟩)
    have HW := ((HR1.out.setOther (a := ⟨w.heap.size, 0, none⟩) (by show W.heap.size ≠ w.heap.size; omega) (.slice (some ⟨W.heap.size, 0, none⟩) (4 * (wordsOf (plainX xs)).length) (4 * (wordsOf (plainX xs)).length))).setOther (a := ⟨w.heap.size + 1, 0, none⟩) (by show W.heap.size ≠ w.heap.size + 1; omega) (.int .i64 0)).setOther (a := ⟨w.heap.size + 1 + 1, 0, none⟩) (by show W.heap.size ≠ w.heap.size + 1 + 1; omega) (.int .i64 0)
    obtain ⟨k0, k1, k2⟩ := h5
    have d0 := k0.cell
    have d1 := k1.cell
    have d2 := k2.cell
    refine ⟨by simp, .inl ⟨_, _, rfl, run_takeDeferred K4, ?_⟩⟩
    refine ⟨.tuple #[.slice (some ⟨W.heap.size, 0, none⟩) (4 * (wordsOf (plainX xs)).length) (4 * (wordsOf (plainX xs)).length), .int .i64 0, .int .i64 0], ?_, .inr ⟨?_, W.heap.size, HBW.out.size, ?_, ?_⟩, ?_⟩
    · simp [results, Tryd.f31, go_sem, d0, d1, d2]
    · rw [← HS.out]; exact HC.out
    · rw [HS.out]
    · rw [← HS.out]
      exact HW.of_block (World.putObj_heap_other (by omega))
    · exact ((((HBW.out.trans (HB1.out.mono HBW.out.size)).setCell (p := ⟨w.heap.size, 0, none⟩) (Nat.le_refl _) _).setCell (p := ⟨w.heap.size + 1, 0, none⟩) (by simp) _).setCell (p := ⟨w.heap.size + 1 + 1, 0, none⟩) (by simp; omega) _).trans (belowK_b (w := w) (Nat.le_refl _) _ D _ _ (by omega) K4 rfl rfl)
end Go.Proofs.YtlfhcnpbgbnadaaDoor
