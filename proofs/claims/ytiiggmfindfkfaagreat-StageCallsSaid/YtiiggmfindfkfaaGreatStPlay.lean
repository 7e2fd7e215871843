/-
  The statement's 'replay': deeds that are changes of entries are done on a memory, and it says yes. Conditions: that a memory lies there, and a row of such deeds.
-/
import Derived.Test.YtiiggmfindfkfaaGreatStRow
import Derived.Test.YtiiggmfindfkfaaGreatStChg
import Derived.Maps.OwnOps
import Derived.Maps.OwnSet
namespace Go.Proofs.YtiiggmfindfkfaaGreat
open Go.RowKit Go.Maps
namespace St
open Ph En Wk
theorem lawU : Keyed Tryz.prog 52 := int_keyed Tryz.underlying52
theorem zeroI (w : World) : (zeroValue 3).run Tryz.prog w = .ok (.int .i64 0) w := by kernel_rfl
/-- A map of addresses. -/
def UMap (w : World) (B : Nat) (D : DataW Unit) : Prop := w.ownsMap Tryz.prog 52 (plainElem Tryz.prog 3) B 1 D
theorem UMap.lt {w : World} {B : Nat} {D : DataW Unit} (h : UMap w B D) : B < w.heap.size := World.ownsMap.lt h
theorem UMap.kept {w w' : World} {B : Nat} {D : DataW Unit} {S : List Nat} (h : UMap w B D) (ho : Only S w w') (hB : B ∉ S) : UMap w' B D := by
  have hlt := h.lt
  obtain ⟨es, clock, hb, F, hs, hD⟩ := h
  exact ⟨es, clock, (ho.block B hlt hB).trans hb, F, hs, hD⟩
theorem umap_new (w : World) : UMap (w.alloc (.map #[] 0)) w.heap.size (.map []) := (World.ownsMap_made w _ _ _).mono (Nat.zero_le _)
/-- The deeds that are to come: changes, or what drops ahead of them. -/
inductive Pend (n : Nat) : DataW Unit → (Nat → Int) → List Deed → Prop
  | plain {z : Nat → Int} {l : List Deed} (h : Chs n z l) : Pend n (.map []) z l
  | brk {z : Nat → Int} {l : List Deed} (D : DataW Unit) (h : Chs n z l) : Pend n D z (.drop :: l)
theorem drop_cons {l r : List Deed} {i : Nat} {d : Deed} (h : l.drop i = d :: r) : l[i]? = some d ∧ l.drop (i + 1) = r ∧ i < l.length := by
  have h0 : (l.drop i)[0]? = some d := by rw [h]; rfl
  rw [List.getElem?_drop, Nat.add_zero] at h0
  refine ⟨h0, ?_, (List.getElem?_eq_some_iff.1 h0).1⟩
  have h1 : (l.drop i).drop 1 = r := by rw [h]; rfl
  rw [List.drop_drop] at h1
  exact h1
theorem DRow.three {B : Nat} {w : World} {g cap i : Nat} {l : List Deed} {d : Deed} (h : DRow B w (.slice (some ⟨g, 0, none⟩) l.length cap) l) (hd : l[i]? = some d) :
    w.cell? ⟨g, i * 3, none⟩ = some (.int .i64 d.kind) ∧ w.cell? ⟨g, i * 3 + 1, none⟩ = some (.int .u32 d.addr) ∧ w.cell? ⟨g, i * 3 + 2, none⟩ = some (.int .u32 d.val) := by
  obtain ⟨a, c, e, hr⟩ := h
  injection e with e _ _
  subst e
  obtain ⟨g', e, _, _, hc⟩ := hr (by have := (List.getElem?_eq_some_iff.1 hd).1; omega)
  injection e with e
  injection e with e
  subst e
  exact hc i d hd
theorem DRow.adr {B : Nat} {w : World} {ua : Option Addr} {cap : Nat} {l : List Deed} (h : DRow B w (.slice ua l.length cap) l) (hl : 0 < l.length) : ∃ g, ua = some ⟨g, 0, none⟩ := by
  obtain ⟨a, c, e, hr⟩ := h
  injection e with e _ _
  subst e
  obtain ⟨g', e, _⟩ := hr hl
  exact ⟨g', e⟩
theorem keyU {a : Nat} (ha : a < 4294967296) : keyOf Tryz.prog 52 (.int .u32 (a : Int)) = some (.int .u32 (a : Int)) := keyOf_int_mk Tryz.underlying52 (WalkArith.wf_u32 (by omega))
theorem look0 {w : World} {B : Nat} (h : UMap w B (.map [])) {a : Nat} (ha : a < 4294967296) : (Instr.lookup 105 (.map (some B)) (.int .u32 (a : Int)) false).run Tryz.prog w = .ok (.int .i64 0) w := by
  obtain ⟨cc, hrun, hat, _⟩ := World.ownsMap.lookup_int h lawU Tryz.underlying105 Tryz.underlying3 (zeroI _) (keyU ha)
  have e : (DataW.map [] : DataW Unit).atKey (.int .u32 (a : Int)) (.lit (.int .i64 0)) = .lit (.int .i64 0) := rfl
  rw [e] at hat
  obtain rfl : cc = 0 := by simpa using hat.symm
  exact hrun
set_option maxRecDepth 100000 in
set_option maxHeartbeats 1600000 in
theorem replay_any (m F n c : Nat) (z : Nat → Int) (l : List Deed) (u : Value) (w : World) (hM : Mem w m F n c z) (hu : DRow (F + 1) w u l) (hC : Chs n z l) (hl : l.length ≤ 1000) :
    Calls Tryz.prog 18 #[.pointer (some ⟨m, 0, none⟩), u] w fun e w' => e = .returned (.bool true) ∧ Mem w' m F n c (zrun n z l) ∧ Only [F] w w' := by
  obtain ⟨ua, uc, rfl, hr⟩ := id hu
  have HU := Lib.hid hu
  have HM := Lib.hid hM
  have HC := Lib.hid hC
  have FL := Lib.hid hM.row.lt
  have ML := Lib.hid hM.lt
  have hmm := @run_makeMap Tryz.prog
  have fv := fieldV
  clear hu hM hC hr
  go_enter Tryz.func18, Tryz.ntmps18
  go_wp2_with fail
  go_loopw [5, 6] (fun p q wr => ∃ (i B : Nat) (z' : Nat → Int) (D : DataW Unit), q = .int .i64 i ∧ i ≤ l.length ∧ p = .map (some B) ∧ w.heap.size ≤ B ∧ UMap wr B D ∧ Mem wr m F n c z' ∧ Only [F] w wr ∧ Pend n D z' (l.drop i) ∧ zrun n z' (l.drop i) = zrun n z l) (fun _ q _ => l.length - (intOf q).toNat)
  case atStart => exact ⟨0, _, z, _, rfl, Nat.zero_le _, rfl, Nat.le_refl _, umap_new w, HM.out.kept (Only.alloc [] w _) (by simp) (by simp), Only.alloc _ w _, by rw [List.drop_zero]; exact .plain HC.out, by rw [List.drop_zero]⟩
  case round =>
    clear HM HC
    obtain ⟨i, B, z', D, rfl, hi, rfl, hB, hD, hMi, hOi, hP, hZ⟩ := hrel
    have MI := Lib.hid hMi
    have OI := Lib.hid hOi
    have DI := Lib.hid hD
    have BI := Lib.hid hB
    have ZI := Lib.hid hZ
    have RU := Lib.hid (HU.out.kept hOi (by simp))
    clear hMi hOi hD hB hZ
    generalize hr : l.drop i = r at hP
    have ER := Lib.hid hr
    clear hr
    cases hP with
    | plain h =>
      cases h with
      | nil =>
        obtain rfl : i = l.length := by have := congrArg List.length ER.out; simp at this; omega
        have sz : Maps.size (DataW.map [] : DataW Unit) = 0 := rfl
        go_wp2_with (at_len; refine wpList_len_own _ rfl _ 105 rfl 52 3 Tryz.underlying105 _ B 1 (.map []) rfl DI.out ?_)
        go_ret
        have ez := ZI.out
        rw [ER.out] at ez
        exact ⟨rfl, by rw [← ez]; exact MI.out, OI.out⟩
      | @put _ a v r ha hv hd h =>
        obtain ⟨hdi, hr1, hil⟩ := drop_cons ER.out
        obtain ⟨g, rfl⟩ := RU.out.adr (by omega)
        have a4 : a < 4294967296 := by have := (hwA_true ha).2; have := MI.out.few; omega
        have W0 := Lib.hid hv
        have CH := Lib.hid h
        have HD := Lib.hid hdi
        have ER1 := Lib.hid hr1
        have EZ := Lib.hid (show zrun n (pw n z' a v) r = zrun n z l from by have := ZI.out; rw [ER.out] at this; exact this)
        have HQ := Lib.hid (show W32 (rdw n z' a) from rdw_lt (fun j hj => MI.out.row.b8 j hj) a)
        have hil' : (i : Int) < (l.length : Int) := by omega
        obtain ⟨k0, k1, k2⟩ := RU.out.three hdi
        change _ = some (Value.int .i64 1) at k0
        change _ = some (Value.int .u32 (a : Int)) at k1
        change _ = some (Value.int .u32 v) at k2
        have a40 : 0 ≤ (a : Int) := by omega
        have a41 : (a : Int) < 4294967296 := by omega
        obtain ⟨q, hq⟩ : ∃ q, q = rdw n z' a := ⟨_, rfl⟩
        have CW := Lib.hid (word_any m F n c a z' wr MI.out a4)
        rw [ha, ← hq] at CW
        rw [← hq] at HQ hd
        have QD := Lib.hid hd
        have HA := Lib.hid ha
        clear h hv hdi hr1 ER ZI hq hd ha
        go_wp2_with fail
        refine CW.out.mono ?_
        rintro e w1 ⟨rfl, kk, rfl⟩
        have R1 := Lib.hid (RU.out.kept (Only.drewN [] wr kk) (by simp))
        have M1 := Lib.hid (MI.out.kept (Only.drewN [] wr kk) (by simp) (by simp))
        have D1 := Lib.hid (DI.out.kept (Only.drewN [] wr kk) (by simp))
        have O1 := Lib.hid (OI.out.trans (Only.drewN [F] wr kk))
        clear CW RU MI DI OI k0 k1 k2
        generalize wr.drewN kk = u1 at *
        obtain ⟨k0, k1, k2⟩ := R1.out.three HD.out
        change _ = some (Value.int .i64 1) at k0
        change _ = some (Value.int .u32 (a : Int)) at k1
        change _ = some (Value.int .u32 v) at k2
        go_wp2_with fail
        refine (decode_any q u1 HQ.out.1 HQ.out.2).mono ?_
        rw [QD.out]
        rintro e u2 ⟨rfl, b2⟩
        have R2 := Lib.hid (R1.out.kept (Only.of b2 []) (by simp))
        have M2 := Lib.hid (M1.out.kept (Only.of b2 []) (by simp) (by simp))
        have D2 := Lib.hid (D1.out.kept (Only.of b2 []) (by simp))
        have O2 := Lib.hid (O1.out.trans (Only.of b2 [F]))
        clear R1 M1 D1 O1 b2 k0 k1 k2
        obtain ⟨k0, k1, k2⟩ := R2.out.three HD.out
        change _ = some (Value.int .i64 1) at k0
        change _ = some (Value.int .u32 (a : Int)) at k1
        change _ = some (Value.int .u32 v) at k2
        have lk := look0 D2.out a4
        go_wp2_with fail
        refine (decode_any q u2 HQ.out.1 HQ.out.2).mono ?_
        rw [QD.out]
        rintro e u3 ⟨rfl, b3⟩
        have R3 := Lib.hid ((R2.out.kept (Only.of b3 []) (by simp)).kept (Only.drewN [] u3 1) (by simp))
        have M3 := Lib.hid ((M2.out.kept (Only.of b3 []) (by simp) (by simp)).kept (Only.drewN [] u3 1) (by simp) (by simp))
        have D3 := Lib.hid ((D2.out.kept (Only.of b3 []) (by simp)).kept (Only.drewN [] u3 1) (by simp))
        have O3 := Lib.hid ((O2.out.trans (Only.of b3 [F])).trans (Only.drewN [F] u3 1))
        change Hid (DRow _ u3.drew _ _) at R3
        change Hid (Mem u3.drew _ _ _ _ _) at M3
        change Hid (UMap u3.drew _ _) at D3
        change Hid (Only _ _ u3.drew) at O3
        clear R2 M2 D2 O2 b3 k0 k1 k2 lk
        obtain ⟨k0, k1, k2⟩ := R3.out.three HD.out
        change _ = some (Value.int .i64 1) at k0
        change _ = some (Value.int .u32 (a : Int)) at k1
        change _ = some (Value.int .u32 v) at k2
        go_wp2_with fail
        refine wp_region_still_tail 11 (by kernel_rfl) (by kernel_rfl) ?_
        simp only [List.take_succ_cons, List.take_zero, List.drop_succ_cons, List.drop_zero]
        change wpStill _ _ u3.drew (fun a' => wpList _ _ _ _ a' u3.drew) _ _
        repeat still_step
        refine wpStill_nil ?_
        generalize u3.drew = u4 at *
        clear k0 k1 k2
        go_wp2_with fail
        refine (putWord_any m F n c a z' v u4 M3.out a4 W0.out.1 W0.out.2).mono ?_
        rintro e u5 ⟨rfl, hM, hO⟩
        have D5 := Lib.hid (D3.out.kept hO (by have h1 := BI.out; have h2 := FL.out; simp; omega))
        have M5 := Lib.hid hM
        have O5 := Lib.hid (O3.out.trans hO)
        clear hM hO M3 D3 O3 R3
        go_wp2_with fail
        go_roundw
        case rel => exact ⟨i + 1, B, pw n z' a v, .map [], by go_num, by omega, rfl, BI.out, D5.out, M5.out, O5.out, by rw [ER1.out]; exact .plain CH.out, by rw [ER1.out]; exact EZ.out⟩
        case measure => simp only [intOf, Int.toNat_natCast]; omega
      | @brk _ a r ha hd h =>
        obtain ⟨hdi, hr1, hil⟩ := drop_cons ER.out
        obtain ⟨g, rfl⟩ := RU.out.adr (by omega)
        have a4 : a < 4294967296 := by have := (hwA_true ha).2; have := MI.out.few; omega
        have CH := Lib.hid h
        have HD := Lib.hid hdi
        have ER1 := Lib.hid hr1
        have EZ := Lib.hid (show zrun n (pw n z' a 0) (.drop :: r) = zrun n z l from by have := ZI.out; rw [ER.out] at this; exact this)
        have HQ := Lib.hid (show W32 (rdw n z' a) from rdw_lt (fun j hj => MI.out.row.b8 j hj) a)
        have hil' : (i : Int) < (l.length : Int) := by omega
        obtain ⟨k0, k1, k2⟩ := RU.out.three hdi
        change _ = some (Value.int .i64 1) at k0
        change _ = some (Value.int .u32 (a : Int)) at k1
        change _ = some (Value.int .u32 0) at k2
        have a40 : 0 ≤ (a : Int) := by omega
        have a41 : (a : Int) < 4294967296 := by omega
        obtain ⟨q, hq⟩ : ∃ q, q = rdw n z' a := ⟨_, rfl⟩
        have CW := Lib.hid (word_any m F n c a z' wr MI.out a4)
        rw [ha, ← hq] at CW
        rw [← hq] at HQ hd
        have QD := Lib.hid hd
        have HA := Lib.hid ha
        clear h hdi hr1 ER ZI hq hd ha
        go_wp2_with fail
        refine CW.out.mono ?_
        rintro e w1 ⟨rfl, kk, rfl⟩
        have R1 := Lib.hid (RU.out.kept (Only.drewN [] wr kk) (by simp))
        have M1 := Lib.hid (MI.out.kept (Only.drewN [] wr kk) (by simp) (by simp))
        have D1 := Lib.hid (DI.out.kept (Only.drewN [] wr kk) (by simp))
        have O1 := Lib.hid (OI.out.trans (Only.drewN [F] wr kk))
        clear CW RU MI DI OI k0 k1 k2
        generalize wr.drewN kk = u1 at *
        obtain ⟨k0, k1, k2⟩ := R1.out.three HD.out
        change _ = some (Value.int .i64 1) at k0
        change _ = some (Value.int .u32 (a : Int)) at k1
        change _ = some (Value.int .u32 0) at k2
        go_wp2_with fail
        refine (decode_any q u1 HQ.out.1 HQ.out.2).mono ?_
        rw [QD.out]
        rintro e u2 ⟨rfl, b2⟩
        have R2 := Lib.hid (R1.out.kept (Only.of b2 []) (by simp))
        have M2 := Lib.hid (M1.out.kept (Only.of b2 []) (by simp) (by simp))
        have D2 := Lib.hid (D1.out.kept (Only.of b2 []) (by simp))
        have O2 := Lib.hid (O1.out.trans (Only.of b2 [F]))
        clear R1 M1 D1 O1 b2 k0 k1 k2
        obtain ⟨k0, k1, k2⟩ := R2.out.three HD.out
        change _ = some (Value.int .i64 1) at k0
        change _ = some (Value.int .u32 (a : Int)) at k1
        change _ = some (Value.int .u32 0) at k2
        have lk := look0 D2.out a4
        go_wp2_with fail
        refine (decode_any q u2 HQ.out.1 HQ.out.2).mono ?_
        rw [QD.out]
        rintro e u3 ⟨rfl, b3⟩
        have R3 := Lib.hid (R2.out.kept (Only.of b3 []) (by simp))
        have M3 := Lib.hid (M2.out.kept (Only.of b3 []) (by simp) (by simp))
        have D3 := Lib.hid (D2.out.kept (Only.of b3 []) (by simp))
        have O3 := Lib.hid (O2.out.trans (Only.of b3 [F]))
        clear R2 M2 D2 O2 b3 k0 k1 k2 lk
        obtain ⟨k0, k1, k2⟩ := R3.out.three HD.out
        change _ = some (Value.int .i64 1) at k0
        change _ = some (Value.int .u32 (a : Int)) at k1
        change _ = some (Value.int .u32 0) at k2
        have lk := look0 D3.out a4
        have own0 : u3.ownsMap Tryz.prog 52 (plainElem Tryz.prog 3) B 0 (.map [] : DataW Unit) := Tl.tight D3.out
        go_wp2_with (at_mapUpdate; refine wpList_mapUpdate_own _ rfl _ _ _ 105 rfl 52 3 lawU Tryz.underlying105 _ B 0 (.map []) rfl own0 (by unfold maxLen; omega) _ _ _ rfl rfl (keyU a4) _ [] (plainElem_int Tryz.underlying3 (a := 1) (by decide)) ?_; intro u6 own1 grow1)
        have UM := Lib.hid (show UMap u6 B _ from own1)
        have GR := Lib.hid (Tl.only_grown grow1)
        have O6 := Lib.hid (show Only [F] w u6 from Only.back (S := [F, B]) (n := w.heap.size) ((O3.out.mono (by simp)).trans (GR.out.mono (by simp))) (by have h1 := BI.out; simp only [List.mem_cons, List.not_mem_nil, or_false]; rintro y (rfl | rfl); exact Or.inl rfl; exact Or.inr h1) (Nat.le_refl _))
        have M6 := Lib.hid (M3.out.kept GR.out (by have h1 := BI.out; have h2 := ML.out; simp; omega) (by have h1 := BI.out; have h2 := FL.out; simp; omega))
        have R6 := Lib.hid (HU.out.kept O6.out (by simp))
        have R7 := Lib.hid (R6.out.kept (Only.drewN [] u6 1) (by simp))
        have M7 := Lib.hid (M6.out.kept (Only.drewN [] u6 1) (by simp) (by simp))
        have D7 := Lib.hid (UM.out.kept (Only.drewN [] u6 1) (by simp))
        have O7 := Lib.hid (O6.out.trans (Only.drewN [F] u6 1))
        change Hid (DRow _ u6.drew _ _) at R7
        change Hid (Mem u6.drew _ _ _ _ _) at M7
        change Hid (UMap u6.drew _ _) at D7
        change Hid (Only _ _ u6.drew) at O7
        clear R3 M3 D3 O3 R6 M6 UM O6 GR own1 grow1 own0 k0 k1 k2 lk
        obtain ⟨k0, k1, k2⟩ := R7.out.three HD.out
        change _ = some (Value.int .i64 1) at k0
        change _ = some (Value.int .u32 (a : Int)) at k1
        change _ = some (Value.int .u32 0) at k2
        go_wp2_with fail
        refine wp_region_still_tail 11 (by kernel_rfl) (by kernel_rfl) ?_
        simp only [List.take_succ_cons, List.take_zero, List.drop_succ_cons, List.drop_zero]
        change wpStill _ _ u6.drew (fun a' => wpList _ _ _ _ a' u6.drew) _ _
        repeat still_step
        refine wpStill_nil ?_
        generalize u6.drew = u4 at *
        clear k0 k1 k2
        go_wp2_with fail
        refine (putWord_any m F n c a z' 0 u4 M7.out a4 (by decide) (by decide)).mono ?_
        rintro e u5 ⟨rfl, hM, hO⟩
        have D5 := Lib.hid (D7.out.kept hO (by have h1 := BI.out; have h2 := FL.out; simp; omega))
        have M5 := Lib.hid hM
        have O5 := Lib.hid (O7.out.trans hO)
        clear hM hO M7 D7 O7 R7
        go_wp2_with fail
        go_roundw
        case rel => exact ⟨i + 1, B, pw n z' a 0, _, by go_num, by omega, rfl, BI.out, D5.out, M5.out, O5.out, by rw [ER1.out]; exact .brk _ CH.out, by rw [ER1.out]; exact EZ.out⟩
        case measure => simp only [intOf, Int.toNat_natCast]; omega
    | @brk _ r D h =>
      obtain ⟨hdi, hr1, hil⟩ := drop_cons ER.out
      obtain ⟨g, rfl⟩ := RU.out.adr (by omega)
      have CH := Lib.hid h
      have ER1 := Lib.hid hr1
      have EZ := Lib.hid (show zrun n z' r = zrun n z l from by have := ZI.out; rw [ER.out] at this; exact this)
      have hil' : (i : Int) < (l.length : Int) := by omega
      obtain ⟨k0, k1, k2⟩ := RU.out.three hdi
      change _ = some (Value.int .i64 2) at k0
      have M5 := Lib.hid (MI.out.kept (Only.alloc [] wr (.map #[] 0)) (by simp) (by simp))
      have D5 := Lib.hid (umap_new wr)
      have O5 := Lib.hid (OI.out.trans (Only.alloc [F] wr (.map #[] 0)))
      have B5 := Lib.hid OI.out.size
      clear h hdi hr1 ER ZI k1 k2 DI MI OI RU
      go_wp2_with fail
      go_roundw
      case rel => exact ⟨i + 1, _, z', .map [], by go_num, by omega, rfl, B5.out, D5.out, M5.out, O5.out, by rw [ER1.out]; exact .plain CH.out, by rw [ER1.out]; exact EZ.out⟩
      case measure => simp only [intOf, Int.toNat_natCast]; omega
end St
end Go.Proofs.YtiiggmfindfkfaaGreat
