/-
  AluSums' walk where the first word is 1 to 50; the condition: the tables that the program's text lays lie so.
-/
import Derived.Test.YtlfhcnpbgbnadaaDoorAluSumsMath
import Derived.Test.YtlfhcnpbgbnadaaDoorAluOpen
import Derived.Test.YtlfhcnpbgbnadaaDoorTie
import Derived.ChangeOld
import Derived.ChangeMaps5
namespace Go.Proofs.YtlfhcnpbgbnadaaDoor.aluSums
open Go.ChangeShapes Go.WideShapes Go.ChangeAt Go.RowKit Isa Alu

theorem rs_eq (a b : Int) : ((stL (fun _ => 0) 0).set 1 (.int .u32 a)).set 2 (.int .u32 b) = stL (rs a b) 0 := rfl
theorem wp_cut {c : Code} {Q : Exit → Act → World → Prop} {a : Act} {w : World} (F : Act → Nat → Nat → Nat → Act) (G : Nat → Nat → World → Prop)
    (h1 : Code.wp Tryd.prog c (fun e a' w' => e = .normal ∧ ∃ n m g, a' = F a n m g ∧ G n m w') a w) (h2 : ∀ n m g w', G n m w' → Q .normal (F a n m g) w') : Code.wp Tryd.prog c Q a w :=
  Code.wp_mono (fun e a' w' ⟨he, n, m, g, ha, hg⟩ => by subst he ha; exact h2 n m g w' hg) h1
theorem p1_s : (⟨#[108, 105, 32, 114, 51, 32, 48, 10, 97, 100, 100, 32, 114, 51, 32, 114, 51, 32, 114, 50, 10, 97, 100, 100, 105, 32, 114, 49, 32, 114, 49, 32, 45, 49, 10, 98, 110, 101, 32, 114, 49, 32, 114, 48, 32, 45, 50, 10, 104, 97, 108, 116, 10]⟩ : ByteArray).data.toList = tT P1 := P1_text.symm
theorem p2_s : (⟨#[109, 117, 108, 32, 114, 51, 32, 114, 49, 32, 114, 50, 10, 104, 97, 108, 116, 10]⟩ : ByteArray).data.toList = tT P2 := P2_text.symm
theorem rs_w (a b : Int) (h1 : 1 ≤ a) (h2 : a ≤ 50) (hb : W32 b) : R32 (rs a b) := fun j _ => by
  unfold rs
  split
  · unfold W32; omega
  split
  · exact hb
  · exact ⟨by decide, by decide⟩
theorem run_sum (a b : Int) (g : Nat) (w : World) (h1 : 1 ≤ a) (h2 : a ≤ 50) (hb : W32 b) (hE : Env w) (hc : CodeIn w (some ⟨g, 0, none⟩) 20 (zT P1)) :
    Calls Tryd.prog 16 #[.agg (stL (rs a b) 0).toArray, .slice (some ⟨g, 0, none⟩) 20 20, .int .i64 300] w fun e w' => e = .returned (runV g1 300 (rs a b) 0 0) ∧ Below w.heap.size w w' :=
  run_any (stL (rs a b) 0) (rs a b) 0 (some ⟨g, 0, none⟩) 20 20 (zT P1) 300 w hE.1 (stL_is _ _) (rs_w a b h1 h2 hb) ⟨by decide, by decide⟩ hc (by decide) (by decide)
theorem run_mul (a b : Int) (g : Nat) (w : World) (h1 : 1 ≤ a) (h2 : a ≤ 50) (hb : W32 b) (hE : Env w) (hc : CodeIn w (some ⟨g, 0, none⟩) 8 (zT P2)) :
    Calls Tryd.prog 16 #[.agg (stL (rs a b) 0).toArray, .slice (some ⟨g, 0, none⟩) 8 8, .int .i64 5] w fun e w' => e = .returned (runV g2 5 (rs a b) 0 0) ∧ Below w.heap.size w w' :=
  run_any (stL (rs a b) 0) (rs a b) 0 (some ⟨g, 0, none⟩) 8 8 (zT P2) 5 w hE.1 (stL_is _ _) (rs_w a b h1 h2 hb) ⟨by decide, by decide⟩ hc (by decide) (by decide)
set_option maxHeartbeats 16000000 in
set_option maxRecDepth 4000 in
theorem walk_in (a b : Int) (w : World) (hE : Env w) (ha1 : 1 ≤ a) (ha2 : a ≤ 50) (hb : W32 b) :
    Calls Tryd.prog 6 #[.int .u32 a, .int .u32 b] w fun e w' => e = .returned (.bool true) ∧ Below w.heap.size w w' := by
  obtain ⟨R1, Q1, k1, hV1, hr1⟩ := sums_run a b ha1 ha2
  obtain ⟨R2, Q2, k2, hV2, hr2⟩ := mul_run a b
  have HV1 := Lib.hid hV1
  have HV2 := Lib.hid hV2
  clear hV1 hV2
  have HE := Lib.hid hE
  have HB := Lib.hid hb
  clear hE hb
  have d : decide (50 < a) = false := by simp; omega
  have d2 : (a == 0) = false := by simp; omega
  go_enter Tryd.func6, Tryd.ntmps6
  go_wp2_with fail
  refine (alive_any _ HE.out).mono ?_
  rintro e w1 ⟨rfl, hb⟩
  have B1 := Lib.hid hb
  clear hb
  go_wp2_with (first | (with_reducible (show wpList _ _ _ (⟨_, .store _ (.tmp 5) (.tmp 20), _, _, _, _⟩ :: _) _ _); refine wl_store (.tmp 5) (.tmp 20) _ _ (stL (fun _ => 0) 0) rfl rfl rfl rfl (zeroBox w1) (stL_is _ _).size (stL_is _ _).size (stL_is _ _).one ?_) | (with_reducible (show wpList _ _ _ (⟨some 22, _, _, _, _, _⟩ :: _) _ _); have X2 := Lib.hid ((zeroBox w1).stored (l' := stL (fun _ => 0) 0) (stL_len _ _ _ _)); have B2 := Lib.hid (below_setCells (b := w1.heap.size) (stL (fun _ => 0) 0) 0 _ (B1.out.alloc B1.out.size (.cells #[.int .u32 0, .int .u32 0, .int .u32 0, .int .u32 0, .int .u32 0, .int .u32 0, .int .u32 0, .int .u32 0, .int .u32 0, .int .u32 0, .int .u32 0, .int .u32 0, .int .u32 0, .int .u32 0, .int .u32 0, .int .u32 0, .int .u32 0] 25)) B1.out.size); generalize ((w1.alloc (.cells #[.int .u32 0, .int .u32 0, .int .u32 0, .int .u32 0, .int .u32 0, .int .u32 0, .int .u32 0, .int .u32 0, .int .u32 0, .int .u32 0, .int .u32 0, .int .u32 0, .int .u32 0, .int .u32 0, .int .u32 0, .int .u32 0, .int .u32 0] 25)).setCells w1.heap.size 0 (stL (fun _ => 0) 0)) = w2 at *; have n1 := X2.out.at 1 ((stL_is _ _).reg 1 (by decide)); have f1 := X2.out.fz 1 (by rw [(stL_is _ _).size]; decide); have n2 := X2.out.at 2 ((stL_is _ _).reg 2 (by decide)); have f2 := X2.out.fz 2 (by rw [(stL_is _ _).size]; decide); go_step))
  have X3 := Lib.hid ((X2.out.put 1 (by rw [(stL_is _ _).size]; decide) (.int .u32 a)).put 2 (by rw [List.length_set, (stL_is _ _).size]; decide) (.int .u32 b))
  rw [rs_eq] at X3
  have B3 := Lib.hid ((B2.out.setCell (p := ⟨w1.heap.size, 1, none⟩) B1.out.size (.int .u32 a)).setCell (p := ⟨w1.heap.size, 2, none⟩) B1.out.size (.int .u32 b))
  clear n1 f1 n2 f2 X2 B2
  generalize ((w2.setCell ⟨w1.heap.size, 1, none⟩ (.int .u32 a)).setCell ⟨w1.heap.size, 2, none⟩ (.int .u32 b)) = w3 at *
  refine wp_cut (fun q n m g => ((((((((((q.put (some 28) (.agg (stL (rs a b) 0).toArray)).put (some 29) (.slice (some ⟨g, 0, none⟩) 20 20)).put (some 30) (.tuple #[.agg (stL R1 Q1).toArray, .agg #[.int .i64 11, .int .i64 0, .int .u32 0, .int .u32 0], .int .i64 k1])).put (some 27) (.tuple #[.agg (stL R1 Q1).toArray, .agg #[.int .i64 11, .int .i64 0, .int .u32 0, .int .u32 0], .int .i64 k1])).put (some 31) (.agg (stL R1 Q1).toArray)).put (some 32) (.agg #[.int .i64 11, .int .i64 0, .int .u32 0, .int .u32 0])).put (some 33) (.int .i64 k1)).put (some 6) (.pointer (some ⟨n, 0, none⟩))).put (some 7) (.pointer (some ⟨m, 0, none⟩))).put (some 8) (.int .i64 k1))) (fun n m w' => Box w' n (stL R1 Q1) ∧ Box w' m [.int .i64 11, .int .i64 0, .int .u32 0, .int .u32 0] ∧ Below w3.heap.size w3 w' ∧ w3.heap.size ≤ n ∧ w3.heap.size ≤ m) ?_ ?_
  · refine wp_region_held_drew (S := fun w' => Box w' w1.heap.size (stL (rs a b) 0)) (by kernel_rfl) X3.out.drew (fun _ => ?_)
    have D0 := Lib.hid ((Below.refl w3.heap.size w3).drew)
    generalize w3.drew = v0 at *
    refine wpAnyH_take (i := 0) (oi := ⟨some 28, .load 25 (.tmp 5), _, _, _, _⟩) rfl (by kernel_rfl) (by kernel_rfl) (by kernel_rfl) (fun _ _ _ h => absurd h.1 (by simp)) (yieldsIf_load_mid (by rfl) _ _ rfl _ _ rfl _ _ (fun _ h => h.range) Tryd.underlying25 rfl (stL_inf _ _)) (X3.out.kept D0.out) ?_
    simp only [Act.put, List.setIfInBounds_toArray, List.set_cons_zero, List.set_cons_succ]
    refine wpAnyH_ready (rs := [1, 7, 8]) (by kernel_rfl) (by simp) ?_
    refine AllReadyH.cons (o := ⟨some 29, .call _, _, _, _, _⟩) rfl (fun K hK => ?_) ?_
    · go_simp
      refine (code_T P1 _ _ (HE.out.kept (B3.out.trans (D0.out.mono B3.out.size))) p1_s (by decide) P1_right).mono ?_
      rintro e v1 ⟨g, rfl, hc, hb⟩
      rw [show 4 * P1.length = 20 from rfl]
      have Cv1 := Lib.hid (show CodeIn v1 (some ⟨g, 0, none⟩) 20 (zT P1) from hc)
      have Dv1 := Lib.hid (D0.out.trans (hb.mono D0.out.size))
      refine hK.out _ _ (X3.out.kept Dv1.out) (fun _ => ?_)
      clear hK K hb hc
      refine wpAnyH_ready (rs := [2, 7, 8]) (by kernel_rfl) (by simp) ?_
      refine AllReadyH.cons (o := ⟨some 30, .call _, _, _, _, _⟩) rfl (fun K hK => ?_) ?_
      · go_simp
        refine (run_sum a b g v1 ha1 ha2 HB.out (HE.out.kept (B3.out.trans (Dv1.out.mono B3.out.size))) Cv1.out).mono ?_
        rw [HV1.out]
        rintro e v2 ⟨rfl, hb⟩
        have Dv2 := Lib.hid (Dv1.out.trans (hb.mono Dv1.out.size))
        refine hK.out _ _ (X3.out.kept Dv2.out) (fun _ => ?_)
        clear hK K hb
        refine wpAnyH_take (i := 3) (oi := ⟨some 27, .move (.tmp 30), _, _, _, _⟩) (v := (.tuple #[.agg (stL R1 Q1).toArray, .agg #[.int .i64 11, .int .i64 0, .int .u32 0, .int .u32 0], .int .i64 k1])) rfl (by kernel_rfl) (by kernel_rfl) (by kernel_rfl) (fun _ _ _ h => absurd h.1 (by simp)) (Or.inl ⟨by rfl, fun _ _ => rfl⟩) (X3.out.kept Dv2.out) ?_
        refine wpAnyH_take (i := 4) (oi := ⟨some 31, .extract (.tmp 27) 0, _, _, _, _⟩) (v := .agg (stL R1 Q1).toArray) rfl (by kernel_rfl) (by kernel_rfl) (by kernel_rfl) (fun _ _ _ h => absurd h.1 (by simp)) (Or.inl ⟨by rfl, fun _ _ => rfl⟩) (X3.out.kept Dv2.out) ?_
        refine wpAnyH_take (i := 5) (oi := ⟨some 32, .extract (.tmp 27) 1, _, _, _, _⟩) (v := .agg #[.int .i64 11, .int .i64 0, .int .u32 0, .int .u32 0]) rfl (by kernel_rfl) (by kernel_rfl) (by kernel_rfl) (fun _ _ _ h => absurd h.1 (by simp)) (Or.inl ⟨by rfl, fun _ _ => rfl⟩) (X3.out.kept Dv2.out) ?_
        refine wpAnyH_take (i := 6) (oi := ⟨some 33, .extract (.tmp 27) 2, _, _, _, _⟩) (v := .int .i64 k1) rfl (by kernel_rfl) (by kernel_rfl) (by kernel_rfl) (fun _ _ _ h => absurd h.1 (by simp)) (Or.inl ⟨by rfl, fun _ _ => rfl⟩) (X3.out.kept Dv2.out) ?_
        simp only [Act.put, List.setIfInBounds_toArray, List.set_cons_zero, List.set_cons_succ]
        refine wpAnyH_ready (rs := [7, 8]) (by kernel_rfl) (by simp) ?_
        refine AllReadyH.cons (o := ⟨some 6, .alloc 25, _, _, _, _⟩) rfl (fun K hK => ?_) ?_
        · go_simp
          have A6v3 := Lib.hid (zeroBox v2)
          have sA6v3 := Lib.hid Dv2.out.size
          have Cv3 := Lib.hid (Cv1.out.kept ((Below.refl _ _).alloc (Nat.le_refl _) (.cells #[.int .u32 0, .int .u32 0, .int .u32 0, .int .u32 0, .int .u32 0, .int .u32 0, .int .u32 0, .int .u32 0, .int .u32 0, .int .u32 0, .int .u32 0, .int .u32 0, .int .u32 0, .int .u32 0, .int .u32 0, .int .u32 0, .int .u32 0] 25)))
          have Dv3 := Lib.hid (Dv2.out.alloc Dv2.out.size (.cells #[.int .u32 0, .int .u32 0, .int .u32 0, .int .u32 0, .int .u32 0, .int .u32 0, .int .u32 0, .int .u32 0, .int .u32 0, .int .u32 0, .int .u32 0, .int .u32 0, .int .u32 0, .int .u32 0, .int .u32 0, .int .u32 0, .int .u32 0] 25))
          refine hK.out _ _ (X3.out.kept Dv3.out) (fun _ => ?_)
          clear hK K
          generalize v2.alloc (.cells #[.int .u32 0, .int .u32 0, .int .u32 0, .int .u32 0, .int .u32 0, .int .u32 0, .int .u32 0, .int .u32 0, .int .u32 0, .int .u32 0, .int .u32 0, .int .u32 0, .int .u32 0, .int .u32 0, .int .u32 0, .int .u32 0, .int .u32 0] 25) = v3 at *
          refine wpAnyH_ready (rs := [8]) (by kernel_rfl) (by simp) ?_
          refine AllReadyH.cons (o := ⟨some 7, .alloc 28, _, _, _, _⟩) rfl (fun K hK => ?_) ?_
          · go_simp
            have A7v4 := Lib.hid (zeroE v3)
            have sA7v4 := Lib.hid Dv3.out.size
            have lv4 := Lib.hid A6v3.out.lt
            have A6v4 := Lib.hid (A6v3.out.box (.cells #[.int .i64 0, .int .i64 0, .int .u32 0, .int .u32 0] 28))
            have Cv4 := Lib.hid (Cv3.out.kept ((Below.refl _ _).alloc (Nat.le_refl _) (.cells #[.int .i64 0, .int .i64 0, .int .u32 0, .int .u32 0] 28)))
            have Dv4 := Lib.hid (Dv3.out.alloc Dv3.out.size (.cells #[.int .i64 0, .int .i64 0, .int .u32 0, .int .u32 0] 28))
            refine hK.out _ _ (X3.out.kept Dv4.out) (fun _ => ?_)
            clear hK K
            generalize v3.alloc (.cells #[.int .i64 0, .int .i64 0, .int .u32 0, .int .u32 0] 28) = v4 at *
            have y5 := X3.out.lt
            have y6 := sA6v3.out
            have y7 := sA7v4.out
            have y8 := lv4.out
            refine wpAnyH_ready (rs := [9]) (by kernel_rfl) (by simp) ?_
            refine AllReadyH.cons (o := ⟨none, .store 25 (.tmp 6) (.tmp 31), _, _, _, _⟩) rfl (fun K hK => ?_) AllReadyH.nil
            rw [if_pos (by rfl)]
            refine so_store (.tmp 6) (.tmp 31) v2.heap.size (stL (fun _ => 0) 0) (stL R1 Q1) rfl rfl rfl A6v4.out (stL_len _ _ _ _) (stL_inf _ _) (stL_is _ _).one ?_
            have T9 := Lib.hid (A6v4.out.stored (l' := (stL R1 Q1)) (stL_len _ _ _ _))
            have U9 := Lib.hid (A7v4.out.apart (b' := v2.heap.size) (by omega) (stL R1 Q1))
            have D9 := Lib.hid (below_setCells (b := v2.heap.size) (stL R1 Q1) 0 _ Dv4.out y6)
            refine hK.out _ _ (X3.out.kept D9.out) (fun _ => ?_)
            clear hK K
            simp only [Act.put]
            generalize (v4.setCells v2.heap.size 0 (stL R1 Q1)) = v9 at *
            refine wpAnyH_ready (rs := [10]) (by kernel_rfl) (by simp) ?_
            refine AllReadyH.cons (o := ⟨none, .store 28 (.tmp 7) (.tmp 32), _, _, _, _⟩) rfl (fun K hK => ?_) AllReadyH.nil
            rw [if_pos (by rfl)]
            refine so_store (.tmp 7) (.tmp 32) v3.heap.size _ [.int .i64 11, .int .i64 0, .int .u32 0, .int .u32 0] rfl rfl rfl U9.out rfl (by kernel_rfl) (one4 _ _ _ _) ?_
            have T10 := Lib.hid (T9.out.apart (b' := v3.heap.size) (by omega) [.int .i64 11, .int .i64 0, .int .u32 0, .int .u32 0])
            have U10 := Lib.hid (U9.out.stored (l' := [.int .i64 11, .int .i64 0, .int .u32 0, .int .u32 0]) rfl)
            have D10 := Lib.hid (below_setCells (b := v3.heap.size) [.int .i64 11, .int .i64 0, .int .u32 0, .int .u32 0] 0 _ D9.out y7)
            refine hK.out _ _ (X3.out.kept D10.out) (fun _ => ?_)
            clear hK K
            simp only [Act.put]
            generalize (v9.setCells v3.heap.size 0 [.int .i64 11, .int .i64 0, .int .u32 0, .int .u32 0]) = v10 at *
            refine wpAnyH_ready (rs := [11]) (by kernel_rfl) (by simp) ?_
            refine AllReadyH.cons (o := ⟨some 8, .assign (.tmp 33), _, _, _, _⟩) rfl (fun K hK => ?_) AllReadyH.nil
            go_simp
            refine hK.out _ _ (X3.out.kept D10.out) (fun _ => ?_)
            clear hK K
            refine wpAnyH_done (by kernel_rfl) ?_ _
            exact ⟨rfl, v2.heap.size, v3.heap.size, g, rfl, T10.out, U10.out, D10.out, y6, y7⟩
          exact AllReadyH.nil
        refine AllReadyH.cons (o := ⟨some 7, .alloc 28, _, _, _, _⟩) rfl (fun K hK => ?_) ?_
        · go_simp
          have A7v5 := Lib.hid (zeroE v2)
          have sA7v5 := Lib.hid Dv2.out.size
          have Cv5 := Lib.hid (Cv1.out.kept ((Below.refl _ _).alloc (Nat.le_refl _) (.cells #[.int .i64 0, .int .i64 0, .int .u32 0, .int .u32 0] 28)))
          have Dv5 := Lib.hid (Dv2.out.alloc Dv2.out.size (.cells #[.int .i64 0, .int .i64 0, .int .u32 0, .int .u32 0] 28))
          refine hK.out _ _ (X3.out.kept Dv5.out) (fun _ => ?_)
          clear hK K
          generalize v2.alloc (.cells #[.int .i64 0, .int .i64 0, .int .u32 0, .int .u32 0] 28) = v5 at *
          refine wpAnyH_ready (rs := [7]) (by kernel_rfl) (by simp) ?_
          refine AllReadyH.cons (o := ⟨some 6, .alloc 25, _, _, _, _⟩) rfl (fun K hK => ?_) ?_
          · go_simp
            have A6v6 := Lib.hid (zeroBox v5)
            have sA6v6 := Lib.hid Dv5.out.size
            have lv6 := Lib.hid A7v5.out.lt
            have A7v6 := Lib.hid (A7v5.out.box (.cells #[.int .u32 0, .int .u32 0, .int .u32 0, .int .u32 0, .int .u32 0, .int .u32 0, .int .u32 0, .int .u32 0, .int .u32 0, .int .u32 0, .int .u32 0, .int .u32 0, .int .u32 0, .int .u32 0, .int .u32 0, .int .u32 0, .int .u32 0] 25))
            have Cv6 := Lib.hid (Cv5.out.kept ((Below.refl _ _).alloc (Nat.le_refl _) (.cells #[.int .u32 0, .int .u32 0, .int .u32 0, .int .u32 0, .int .u32 0, .int .u32 0, .int .u32 0, .int .u32 0, .int .u32 0, .int .u32 0, .int .u32 0, .int .u32 0, .int .u32 0, .int .u32 0, .int .u32 0, .int .u32 0, .int .u32 0] 25)))
            have Dv6 := Lib.hid (Dv5.out.alloc Dv5.out.size (.cells #[.int .u32 0, .int .u32 0, .int .u32 0, .int .u32 0, .int .u32 0, .int .u32 0, .int .u32 0, .int .u32 0, .int .u32 0, .int .u32 0, .int .u32 0, .int .u32 0, .int .u32 0, .int .u32 0, .int .u32 0, .int .u32 0, .int .u32 0] 25))
            refine hK.out _ _ (X3.out.kept Dv6.out) (fun _ => ?_)
            clear hK K
            generalize v5.alloc (.cells #[.int .u32 0, .int .u32 0, .int .u32 0, .int .u32 0, .int .u32 0, .int .u32 0, .int .u32 0, .int .u32 0, .int .u32 0, .int .u32 0, .int .u32 0, .int .u32 0, .int .u32 0, .int .u32 0, .int .u32 0, .int .u32 0, .int .u32 0] 25) = v6 at *
            have y5 := X3.out.lt
            have y6 := sA6v6.out
            have y7 := sA7v5.out
            have y8 := lv6.out
            refine wpAnyH_ready (rs := [9]) (by kernel_rfl) (by simp) ?_
            refine AllReadyH.cons (o := ⟨none, .store 25 (.tmp 6) (.tmp 31), _, _, _, _⟩) rfl (fun K hK => ?_) AllReadyH.nil
            rw [if_pos (by rfl)]
            refine so_store (.tmp 6) (.tmp 31) v5.heap.size (stL (fun _ => 0) 0) (stL R1 Q1) rfl rfl rfl A6v6.out (stL_len _ _ _ _) (stL_inf _ _) (stL_is _ _).one ?_
            have T9 := Lib.hid (A6v6.out.stored (l' := (stL R1 Q1)) (stL_len _ _ _ _))
            have U9 := Lib.hid (A7v6.out.apart (b' := v5.heap.size) (by omega) (stL R1 Q1))
            have D9 := Lib.hid (below_setCells (b := v5.heap.size) (stL R1 Q1) 0 _ Dv6.out y6)
            refine hK.out _ _ (X3.out.kept D9.out) (fun _ => ?_)
            clear hK K
            simp only [Act.put]
            generalize (v6.setCells v5.heap.size 0 (stL R1 Q1)) = v9 at *
            refine wpAnyH_ready (rs := [10]) (by kernel_rfl) (by simp) ?_
            refine AllReadyH.cons (o := ⟨none, .store 28 (.tmp 7) (.tmp 32), _, _, _, _⟩) rfl (fun K hK => ?_) AllReadyH.nil
            rw [if_pos (by rfl)]
            refine so_store (.tmp 7) (.tmp 32) v2.heap.size _ [.int .i64 11, .int .i64 0, .int .u32 0, .int .u32 0] rfl rfl rfl U9.out rfl (by kernel_rfl) (one4 _ _ _ _) ?_
            have T10 := Lib.hid (T9.out.apart (b' := v2.heap.size) (by omega) [.int .i64 11, .int .i64 0, .int .u32 0, .int .u32 0])
            have U10 := Lib.hid (U9.out.stored (l' := [.int .i64 11, .int .i64 0, .int .u32 0, .int .u32 0]) rfl)
            have D10 := Lib.hid (below_setCells (b := v2.heap.size) [.int .i64 11, .int .i64 0, .int .u32 0, .int .u32 0] 0 _ D9.out y7)
            refine hK.out _ _ (X3.out.kept D10.out) (fun _ => ?_)
            clear hK K
            simp only [Act.put]
            generalize (v9.setCells v2.heap.size 0 [.int .i64 11, .int .i64 0, .int .u32 0, .int .u32 0]) = v10 at *
            refine wpAnyH_ready (rs := [11]) (by kernel_rfl) (by simp) ?_
            refine AllReadyH.cons (o := ⟨some 8, .assign (.tmp 33), _, _, _, _⟩) rfl (fun K hK => ?_) AllReadyH.nil
            go_simp
            refine hK.out _ _ (X3.out.kept D10.out) (fun _ => ?_)
            clear hK K
            refine wpAnyH_done (by kernel_rfl) ?_ _
            exact ⟨rfl, v5.heap.size, v2.heap.size, g, rfl, T10.out, U10.out, D10.out, y6, y7⟩
          exact AllReadyH.nil
        exact AllReadyH.nil
      refine AllReadyH.cons (o := ⟨some 6, .alloc 25, _, _, _, _⟩) rfl (fun K hK => ?_) ?_
      · go_simp
        have A6v7 := Lib.hid (zeroBox v1)
        have sA6v7 := Lib.hid Dv1.out.size
        have Cv7 := Lib.hid (Cv1.out.kept ((Below.refl _ _).alloc (Nat.le_refl _) (.cells #[.int .u32 0, .int .u32 0, .int .u32 0, .int .u32 0, .int .u32 0, .int .u32 0, .int .u32 0, .int .u32 0, .int .u32 0, .int .u32 0, .int .u32 0, .int .u32 0, .int .u32 0, .int .u32 0, .int .u32 0, .int .u32 0, .int .u32 0] 25)))
        have Dv7 := Lib.hid (Dv1.out.alloc Dv1.out.size (.cells #[.int .u32 0, .int .u32 0, .int .u32 0, .int .u32 0, .int .u32 0, .int .u32 0, .int .u32 0, .int .u32 0, .int .u32 0, .int .u32 0, .int .u32 0, .int .u32 0, .int .u32 0, .int .u32 0, .int .u32 0, .int .u32 0, .int .u32 0] 25))
        refine hK.out _ _ (X3.out.kept Dv7.out) (fun _ => ?_)
        clear hK K
        generalize v1.alloc (.cells #[.int .u32 0, .int .u32 0, .int .u32 0, .int .u32 0, .int .u32 0, .int .u32 0, .int .u32 0, .int .u32 0, .int .u32 0, .int .u32 0, .int .u32 0, .int .u32 0, .int .u32 0, .int .u32 0, .int .u32 0, .int .u32 0, .int .u32 0] 25) = v7 at *
        refine wpAnyH_ready (rs := [2, 8]) (by kernel_rfl) (by simp) ?_
        refine AllReadyH.cons (o := ⟨some 30, .call _, _, _, _, _⟩) rfl (fun K hK => ?_) ?_
        · go_simp
          refine (run_sum a b g v7 ha1 ha2 HB.out (HE.out.kept (B3.out.trans (Dv7.out.mono B3.out.size))) Cv7.out).mono ?_
          rw [HV1.out]
          rintro e v8 ⟨rfl, hb⟩
          have Dv8 := Lib.hid (Dv7.out.trans (hb.mono Dv7.out.size))
          have A6v8 := Lib.hid (A6v7.out.kept hb)
          refine hK.out _ _ (X3.out.kept Dv8.out) (fun _ => ?_)
          clear hK K hb
          refine wpAnyH_take (i := 3) (oi := ⟨some 27, .move (.tmp 30), _, _, _, _⟩) (v := (.tuple #[.agg (stL R1 Q1).toArray, .agg #[.int .i64 11, .int .i64 0, .int .u32 0, .int .u32 0], .int .i64 k1])) rfl (by kernel_rfl) (by kernel_rfl) (by kernel_rfl) (fun _ _ _ h => absurd h.1 (by simp)) (Or.inl ⟨by rfl, fun _ _ => rfl⟩) (X3.out.kept Dv8.out) ?_
          refine wpAnyH_take (i := 4) (oi := ⟨some 31, .extract (.tmp 27) 0, _, _, _, _⟩) (v := .agg (stL R1 Q1).toArray) rfl (by kernel_rfl) (by kernel_rfl) (by kernel_rfl) (fun _ _ _ h => absurd h.1 (by simp)) (Or.inl ⟨by rfl, fun _ _ => rfl⟩) (X3.out.kept Dv8.out) ?_
          refine wpAnyH_take (i := 5) (oi := ⟨some 32, .extract (.tmp 27) 1, _, _, _, _⟩) (v := .agg #[.int .i64 11, .int .i64 0, .int .u32 0, .int .u32 0]) rfl (by kernel_rfl) (by kernel_rfl) (by kernel_rfl) (fun _ _ _ h => absurd h.1 (by simp)) (Or.inl ⟨by rfl, fun _ _ => rfl⟩) (X3.out.kept Dv8.out) ?_
          refine wpAnyH_take (i := 6) (oi := ⟨some 33, .extract (.tmp 27) 2, _, _, _, _⟩) (v := .int .i64 k1) rfl (by kernel_rfl) (by kernel_rfl) (by kernel_rfl) (fun _ _ _ h => absurd h.1 (by simp)) (Or.inl ⟨by rfl, fun _ _ => rfl⟩) (X3.out.kept Dv8.out) ?_
          simp only [Act.put, List.setIfInBounds_toArray, List.set_cons_zero, List.set_cons_succ]
          refine wpAnyH_ready (rs := [8]) (by kernel_rfl) (by simp) ?_
          refine AllReadyH.cons (o := ⟨some 7, .alloc 28, _, _, _, _⟩) rfl (fun K hK => ?_) ?_
          · go_simp
            have A7v9 := Lib.hid (zeroE v8)
            have sA7v9 := Lib.hid Dv8.out.size
            have lv9 := Lib.hid A6v8.out.lt
            have A6v9 := Lib.hid (A6v8.out.box (.cells #[.int .i64 0, .int .i64 0, .int .u32 0, .int .u32 0] 28))
            have Cv9 := Lib.hid (Cv7.out.kept ((Below.refl _ _).alloc (Nat.le_refl _) (.cells #[.int .i64 0, .int .i64 0, .int .u32 0, .int .u32 0] 28)))
            have Dv9 := Lib.hid (Dv8.out.alloc Dv8.out.size (.cells #[.int .i64 0, .int .i64 0, .int .u32 0, .int .u32 0] 28))
            refine hK.out _ _ (X3.out.kept Dv9.out) (fun _ => ?_)
            clear hK K
            generalize v8.alloc (.cells #[.int .i64 0, .int .i64 0, .int .u32 0, .int .u32 0] 28) = v9 at *
            have y5 := X3.out.lt
            have y6 := sA6v7.out
            have y7 := sA7v9.out
            have y8 := lv9.out
            refine wpAnyH_ready (rs := [9]) (by kernel_rfl) (by simp) ?_
            refine AllReadyH.cons (o := ⟨none, .store 25 (.tmp 6) (.tmp 31), _, _, _, _⟩) rfl (fun K hK => ?_) AllReadyH.nil
            rw [if_pos (by rfl)]
            refine so_store (.tmp 6) (.tmp 31) v1.heap.size (stL (fun _ => 0) 0) (stL R1 Q1) rfl rfl rfl A6v9.out (stL_len _ _ _ _) (stL_inf _ _) (stL_is _ _).one ?_
            have T9 := Lib.hid (A6v9.out.stored (l' := (stL R1 Q1)) (stL_len _ _ _ _))
            have U9 := Lib.hid (A7v9.out.apart (b' := v1.heap.size) (by omega) (stL R1 Q1))
            have D9 := Lib.hid (below_setCells (b := v1.heap.size) (stL R1 Q1) 0 _ Dv9.out y6)
            refine hK.out _ _ (X3.out.kept D9.out) (fun _ => ?_)
            clear hK K
            simp only [Act.put]
            generalize (v9.setCells v1.heap.size 0 (stL R1 Q1)) = v9 at *
            refine wpAnyH_ready (rs := [10]) (by kernel_rfl) (by simp) ?_
            refine AllReadyH.cons (o := ⟨none, .store 28 (.tmp 7) (.tmp 32), _, _, _, _⟩) rfl (fun K hK => ?_) AllReadyH.nil
            rw [if_pos (by rfl)]
            refine so_store (.tmp 7) (.tmp 32) v8.heap.size _ [.int .i64 11, .int .i64 0, .int .u32 0, .int .u32 0] rfl rfl rfl U9.out rfl (by kernel_rfl) (one4 _ _ _ _) ?_
            have T10 := Lib.hid (T9.out.apart (b' := v8.heap.size) (by omega) [.int .i64 11, .int .i64 0, .int .u32 0, .int .u32 0])
            have U10 := Lib.hid (U9.out.stored (l' := [.int .i64 11, .int .i64 0, .int .u32 0, .int .u32 0]) rfl)
            have D10 := Lib.hid (below_setCells (b := v8.heap.size) [.int .i64 11, .int .i64 0, .int .u32 0, .int .u32 0] 0 _ D9.out y7)
            refine hK.out _ _ (X3.out.kept D10.out) (fun _ => ?_)
            clear hK K
            simp only [Act.put]
            generalize (v9.setCells v8.heap.size 0 [.int .i64 11, .int .i64 0, .int .u32 0, .int .u32 0]) = v10 at *
            refine wpAnyH_ready (rs := [11]) (by kernel_rfl) (by simp) ?_
            refine AllReadyH.cons (o := ⟨some 8, .assign (.tmp 33), _, _, _, _⟩) rfl (fun K hK => ?_) AllReadyH.nil
            go_simp
            refine hK.out _ _ (X3.out.kept D10.out) (fun _ => ?_)
            clear hK K
            refine wpAnyH_done (by kernel_rfl) ?_ _
            exact ⟨rfl, v1.heap.size, v8.heap.size, g, rfl, T10.out, U10.out, D10.out, y6, y7⟩
          exact AllReadyH.nil
        refine AllReadyH.cons (o := ⟨some 7, .alloc 28, _, _, _, _⟩) rfl (fun K hK => ?_) ?_
        · go_simp
          have A7v10 := Lib.hid (zeroE v7)
          have sA7v10 := Lib.hid Dv7.out.size
          have lv10 := Lib.hid A6v7.out.lt
          have A6v10 := Lib.hid (A6v7.out.box (.cells #[.int .i64 0, .int .i64 0, .int .u32 0, .int .u32 0] 28))
          have Cv10 := Lib.hid (Cv7.out.kept ((Below.refl _ _).alloc (Nat.le_refl _) (.cells #[.int .i64 0, .int .i64 0, .int .u32 0, .int .u32 0] 28)))
          have Dv10 := Lib.hid (Dv7.out.alloc Dv7.out.size (.cells #[.int .i64 0, .int .i64 0, .int .u32 0, .int .u32 0] 28))
          refine hK.out _ _ (X3.out.kept Dv10.out) (fun _ => ?_)
          clear hK K
          generalize v7.alloc (.cells #[.int .i64 0, .int .i64 0, .int .u32 0, .int .u32 0] 28) = v10 at *
          refine wpAnyH_ready (rs := [2]) (by kernel_rfl) (by simp) ?_
          refine AllReadyH.cons (o := ⟨some 30, .call _, _, _, _, _⟩) rfl (fun K hK => ?_) ?_
          · go_simp
            refine (run_sum a b g v10 ha1 ha2 HB.out (HE.out.kept (B3.out.trans (Dv10.out.mono B3.out.size))) Cv10.out).mono ?_
            rw [HV1.out]
            rintro e v11 ⟨rfl, hb⟩
            have Dv11 := Lib.hid (Dv10.out.trans (hb.mono Dv10.out.size))
            have A6v11 := Lib.hid (A6v10.out.kept hb)
            have A7v11 := Lib.hid (A7v10.out.kept hb)
            refine hK.out _ _ (X3.out.kept Dv11.out) (fun _ => ?_)
            clear hK K hb
            refine wpAnyH_take (i := 3) (oi := ⟨some 27, .move (.tmp 30), _, _, _, _⟩) (v := (.tuple #[.agg (stL R1 Q1).toArray, .agg #[.int .i64 11, .int .i64 0, .int .u32 0, .int .u32 0], .int .i64 k1])) rfl (by kernel_rfl) (by kernel_rfl) (by kernel_rfl) (fun _ _ _ h => absurd h.1 (by simp)) (Or.inl ⟨by rfl, fun _ _ => rfl⟩) (X3.out.kept Dv11.out) ?_
            refine wpAnyH_take (i := 4) (oi := ⟨some 31, .extract (.tmp 27) 0, _, _, _, _⟩) (v := .agg (stL R1 Q1).toArray) rfl (by kernel_rfl) (by kernel_rfl) (by kernel_rfl) (fun _ _ _ h => absurd h.1 (by simp)) (Or.inl ⟨by rfl, fun _ _ => rfl⟩) (X3.out.kept Dv11.out) ?_
            refine wpAnyH_take (i := 5) (oi := ⟨some 32, .extract (.tmp 27) 1, _, _, _, _⟩) (v := .agg #[.int .i64 11, .int .i64 0, .int .u32 0, .int .u32 0]) rfl (by kernel_rfl) (by kernel_rfl) (by kernel_rfl) (fun _ _ _ h => absurd h.1 (by simp)) (Or.inl ⟨by rfl, fun _ _ => rfl⟩) (X3.out.kept Dv11.out) ?_
            refine wpAnyH_take (i := 6) (oi := ⟨some 33, .extract (.tmp 27) 2, _, _, _, _⟩) (v := .int .i64 k1) rfl (by kernel_rfl) (by kernel_rfl) (by kernel_rfl) (fun _ _ _ h => absurd h.1 (by simp)) (Or.inl ⟨by rfl, fun _ _ => rfl⟩) (X3.out.kept Dv11.out) ?_
            simp only [Act.put, List.setIfInBounds_toArray, List.set_cons_zero, List.set_cons_succ]
            have y5 := X3.out.lt
            have y6 := sA6v7.out
            have y7 := sA7v10.out
            have y8 := lv10.out
            refine wpAnyH_ready (rs := [9]) (by kernel_rfl) (by simp) ?_
            refine AllReadyH.cons (o := ⟨none, .store 25 (.tmp 6) (.tmp 31), _, _, _, _⟩) rfl (fun K hK => ?_) AllReadyH.nil
            rw [if_pos (by rfl)]
            refine so_store (.tmp 6) (.tmp 31) v1.heap.size (stL (fun _ => 0) 0) (stL R1 Q1) rfl rfl rfl A6v11.out (stL_len _ _ _ _) (stL_inf _ _) (stL_is _ _).one ?_
            have T9 := Lib.hid (A6v11.out.stored (l' := (stL R1 Q1)) (stL_len _ _ _ _))
            have U9 := Lib.hid (A7v11.out.apart (b' := v1.heap.size) (by omega) (stL R1 Q1))
            have D9 := Lib.hid (below_setCells (b := v1.heap.size) (stL R1 Q1) 0 _ Dv11.out y6)
            refine hK.out _ _ (X3.out.kept D9.out) (fun _ => ?_)
            clear hK K
            simp only [Act.put]
            generalize (v11.setCells v1.heap.size 0 (stL R1 Q1)) = v9 at *
            refine wpAnyH_ready (rs := [10]) (by kernel_rfl) (by simp) ?_
            refine AllReadyH.cons (o := ⟨none, .store 28 (.tmp 7) (.tmp 32), _, _, _, _⟩) rfl (fun K hK => ?_) AllReadyH.nil
            rw [if_pos (by rfl)]
            refine so_store (.tmp 7) (.tmp 32) v7.heap.size _ [.int .i64 11, .int .i64 0, .int .u32 0, .int .u32 0] rfl rfl rfl U9.out rfl (by kernel_rfl) (one4 _ _ _ _) ?_
            have T10 := Lib.hid (T9.out.apart (b' := v7.heap.size) (by omega) [.int .i64 11, .int .i64 0, .int .u32 0, .int .u32 0])
            have U10 := Lib.hid (U9.out.stored (l' := [.int .i64 11, .int .i64 0, .int .u32 0, .int .u32 0]) rfl)
            have D10 := Lib.hid (below_setCells (b := v7.heap.size) [.int .i64 11, .int .i64 0, .int .u32 0, .int .u32 0] 0 _ D9.out y7)
            refine hK.out _ _ (X3.out.kept D10.out) (fun _ => ?_)
            clear hK K
            simp only [Act.put]
            generalize (v9.setCells v7.heap.size 0 [.int .i64 11, .int .i64 0, .int .u32 0, .int .u32 0]) = v10 at *
            refine wpAnyH_ready (rs := [11]) (by kernel_rfl) (by simp) ?_
            refine AllReadyH.cons (o := ⟨some 8, .assign (.tmp 33), _, _, _, _⟩) rfl (fun K hK => ?_) AllReadyH.nil
            go_simp
            refine hK.out _ _ (X3.out.kept D10.out) (fun _ => ?_)
            clear hK K
            refine wpAnyH_done (by kernel_rfl) ?_ _
            exact ⟨rfl, v1.heap.size, v7.heap.size, g, rfl, T10.out, U10.out, D10.out, y6, y7⟩
          exact AllReadyH.nil
        exact AllReadyH.nil
      refine AllReadyH.cons (o := ⟨some 7, .alloc 28, _, _, _, _⟩) rfl (fun K hK => ?_) ?_
      · go_simp
        have A7v12 := Lib.hid (zeroE v1)
        have sA7v12 := Lib.hid Dv1.out.size
        have Cv12 := Lib.hid (Cv1.out.kept ((Below.refl _ _).alloc (Nat.le_refl _) (.cells #[.int .i64 0, .int .i64 0, .int .u32 0, .int .u32 0] 28)))
        have Dv12 := Lib.hid (Dv1.out.alloc Dv1.out.size (.cells #[.int .i64 0, .int .i64 0, .int .u32 0, .int .u32 0] 28))
        refine hK.out _ _ (X3.out.kept Dv12.out) (fun _ => ?_)
        clear hK K
        generalize v1.alloc (.cells #[.int .i64 0, .int .i64 0, .int .u32 0, .int .u32 0] 28) = v12 at *
        refine wpAnyH_ready (rs := [2, 7]) (by kernel_rfl) (by simp) ?_
        refine AllReadyH.cons (o := ⟨some 30, .call _, _, _, _, _⟩) rfl (fun K hK => ?_) ?_
        · go_simp
          refine (run_sum a b g v12 ha1 ha2 HB.out (HE.out.kept (B3.out.trans (Dv12.out.mono B3.out.size))) Cv12.out).mono ?_
          rw [HV1.out]
          rintro e v13 ⟨rfl, hb⟩
          have Dv13 := Lib.hid (Dv12.out.trans (hb.mono Dv12.out.size))
          have A7v13 := Lib.hid (A7v12.out.kept hb)
          refine hK.out _ _ (X3.out.kept Dv13.out) (fun _ => ?_)
          clear hK K hb
          refine wpAnyH_take (i := 3) (oi := ⟨some 27, .move (.tmp 30), _, _, _, _⟩) (v := (.tuple #[.agg (stL R1 Q1).toArray, .agg #[.int .i64 11, .int .i64 0, .int .u32 0, .int .u32 0], .int .i64 k1])) rfl (by kernel_rfl) (by kernel_rfl) (by kernel_rfl) (fun _ _ _ h => absurd h.1 (by simp)) (Or.inl ⟨by rfl, fun _ _ => rfl⟩) (X3.out.kept Dv13.out) ?_
          refine wpAnyH_take (i := 4) (oi := ⟨some 31, .extract (.tmp 27) 0, _, _, _, _⟩) (v := .agg (stL R1 Q1).toArray) rfl (by kernel_rfl) (by kernel_rfl) (by kernel_rfl) (fun _ _ _ h => absurd h.1 (by simp)) (Or.inl ⟨by rfl, fun _ _ => rfl⟩) (X3.out.kept Dv13.out) ?_
          refine wpAnyH_take (i := 5) (oi := ⟨some 32, .extract (.tmp 27) 1, _, _, _, _⟩) (v := .agg #[.int .i64 11, .int .i64 0, .int .u32 0, .int .u32 0]) rfl (by kernel_rfl) (by kernel_rfl) (by kernel_rfl) (fun _ _ _ h => absurd h.1 (by simp)) (Or.inl ⟨by rfl, fun _ _ => rfl⟩) (X3.out.kept Dv13.out) ?_
          refine wpAnyH_take (i := 6) (oi := ⟨some 33, .extract (.tmp 27) 2, _, _, _, _⟩) (v := .int .i64 k1) rfl (by kernel_rfl) (by kernel_rfl) (by kernel_rfl) (fun _ _ _ h => absurd h.1 (by simp)) (Or.inl ⟨by rfl, fun _ _ => rfl⟩) (X3.out.kept Dv13.out) ?_
          simp only [Act.put, List.setIfInBounds_toArray, List.set_cons_zero, List.set_cons_succ]
          refine wpAnyH_ready (rs := [7]) (by kernel_rfl) (by simp) ?_
          refine AllReadyH.cons (o := ⟨some 6, .alloc 25, _, _, _, _⟩) rfl (fun K hK => ?_) ?_
          · go_simp
            have A6v14 := Lib.hid (zeroBox v13)
            have sA6v14 := Lib.hid Dv13.out.size
            have lv14 := Lib.hid A7v13.out.lt
            have A7v14 := Lib.hid (A7v13.out.box (.cells #[.int .u32 0, .int .u32 0, .int .u32 0, .int .u32 0, .int .u32 0, .int .u32 0, .int .u32 0, .int .u32 0, .int .u32 0, .int .u32 0, .int .u32 0, .int .u32 0, .int .u32 0, .int .u32 0, .int .u32 0, .int .u32 0, .int .u32 0] 25))
            have Cv14 := Lib.hid (Cv12.out.kept ((Below.refl _ _).alloc (Nat.le_refl _) (.cells #[.int .u32 0, .int .u32 0, .int .u32 0, .int .u32 0, .int .u32 0, .int .u32 0, .int .u32 0, .int .u32 0, .int .u32 0, .int .u32 0, .int .u32 0, .int .u32 0, .int .u32 0, .int .u32 0, .int .u32 0, .int .u32 0, .int .u32 0] 25)))
            have Dv14 := Lib.hid (Dv13.out.alloc Dv13.out.size (.cells #[.int .u32 0, .int .u32 0, .int .u32 0, .int .u32 0, .int .u32 0, .int .u32 0, .int .u32 0, .int .u32 0, .int .u32 0, .int .u32 0, .int .u32 0, .int .u32 0, .int .u32 0, .int .u32 0, .int .u32 0, .int .u32 0, .int .u32 0] 25))
            refine hK.out _ _ (X3.out.kept Dv14.out) (fun _ => ?_)
            clear hK K
            generalize v13.alloc (.cells #[.int .u32 0, .int .u32 0, .int .u32 0, .int .u32 0, .int .u32 0, .int .u32 0, .int .u32 0, .int .u32 0, .int .u32 0, .int .u32 0, .int .u32 0, .int .u32 0, .int .u32 0, .int .u32 0, .int .u32 0, .int .u32 0, .int .u32 0] 25) = v14 at *
            have y5 := X3.out.lt
            have y6 := sA6v14.out
            have y7 := sA7v12.out
            have y8 := lv14.out
            refine wpAnyH_ready (rs := [9]) (by kernel_rfl) (by simp) ?_
            refine AllReadyH.cons (o := ⟨none, .store 25 (.tmp 6) (.tmp 31), _, _, _, _⟩) rfl (fun K hK => ?_) AllReadyH.nil
            rw [if_pos (by rfl)]
            refine so_store (.tmp 6) (.tmp 31) v13.heap.size (stL (fun _ => 0) 0) (stL R1 Q1) rfl rfl rfl A6v14.out (stL_len _ _ _ _) (stL_inf _ _) (stL_is _ _).one ?_
            have T9 := Lib.hid (A6v14.out.stored (l' := (stL R1 Q1)) (stL_len _ _ _ _))
            have U9 := Lib.hid (A7v14.out.apart (b' := v13.heap.size) (by omega) (stL R1 Q1))
            have D9 := Lib.hid (below_setCells (b := v13.heap.size) (stL R1 Q1) 0 _ Dv14.out y6)
            refine hK.out _ _ (X3.out.kept D9.out) (fun _ => ?_)
            clear hK K
            simp only [Act.put]
            generalize (v14.setCells v13.heap.size 0 (stL R1 Q1)) = v9 at *
            refine wpAnyH_ready (rs := [10]) (by kernel_rfl) (by simp) ?_
            refine AllReadyH.cons (o := ⟨none, .store 28 (.tmp 7) (.tmp 32), _, _, _, _⟩) rfl (fun K hK => ?_) AllReadyH.nil
            rw [if_pos (by rfl)]
            refine so_store (.tmp 7) (.tmp 32) v1.heap.size _ [.int .i64 11, .int .i64 0, .int .u32 0, .int .u32 0] rfl rfl rfl U9.out rfl (by kernel_rfl) (one4 _ _ _ _) ?_
            have T10 := Lib.hid (T9.out.apart (b' := v1.heap.size) (by omega) [.int .i64 11, .int .i64 0, .int .u32 0, .int .u32 0])
            have U10 := Lib.hid (U9.out.stored (l' := [.int .i64 11, .int .i64 0, .int .u32 0, .int .u32 0]) rfl)
            have D10 := Lib.hid (below_setCells (b := v1.heap.size) [.int .i64 11, .int .i64 0, .int .u32 0, .int .u32 0] 0 _ D9.out y7)
            refine hK.out _ _ (X3.out.kept D10.out) (fun _ => ?_)
            clear hK K
            simp only [Act.put]
            generalize (v9.setCells v1.heap.size 0 [.int .i64 11, .int .i64 0, .int .u32 0, .int .u32 0]) = v10 at *
            refine wpAnyH_ready (rs := [11]) (by kernel_rfl) (by simp) ?_
            refine AllReadyH.cons (o := ⟨some 8, .assign (.tmp 33), _, _, _, _⟩) rfl (fun K hK => ?_) AllReadyH.nil
            go_simp
            refine hK.out _ _ (X3.out.kept D10.out) (fun _ => ?_)
            clear hK K
            refine wpAnyH_done (by kernel_rfl) ?_ _
            exact ⟨rfl, v13.heap.size, v1.heap.size, g, rfl, T10.out, U10.out, D10.out, y6, y7⟩
          exact AllReadyH.nil
        refine AllReadyH.cons (o := ⟨some 6, .alloc 25, _, _, _, _⟩) rfl (fun K hK => ?_) ?_
        · go_simp
          have A6v15 := Lib.hid (zeroBox v12)
          have sA6v15 := Lib.hid Dv12.out.size
          have lv15 := Lib.hid A7v12.out.lt
          have A7v15 := Lib.hid (A7v12.out.box (.cells #[.int .u32 0, .int .u32 0, .int .u32 0, .int .u32 0, .int .u32 0, .int .u32 0, .int .u32 0, .int .u32 0, .int .u32 0, .int .u32 0, .int .u32 0, .int .u32 0, .int .u32 0, .int .u32 0, .int .u32 0, .int .u32 0, .int .u32 0] 25))
          have Cv15 := Lib.hid (Cv12.out.kept ((Below.refl _ _).alloc (Nat.le_refl _) (.cells #[.int .u32 0, .int .u32 0, .int .u32 0, .int .u32 0, .int .u32 0, .int .u32 0, .int .u32 0, .int .u32 0, .int .u32 0, .int .u32 0, .int .u32 0, .int .u32 0, .int .u32 0, .int .u32 0, .int .u32 0, .int .u32 0, .int .u32 0] 25)))
          have Dv15 := Lib.hid (Dv12.out.alloc Dv12.out.size (.cells #[.int .u32 0, .int .u32 0, .int .u32 0, .int .u32 0, .int .u32 0, .int .u32 0, .int .u32 0, .int .u32 0, .int .u32 0, .int .u32 0, .int .u32 0, .int .u32 0, .int .u32 0, .int .u32 0, .int .u32 0, .int .u32 0, .int .u32 0] 25))
          refine hK.out _ _ (X3.out.kept Dv15.out) (fun _ => ?_)
          clear hK K
          generalize v12.alloc (.cells #[.int .u32 0, .int .u32 0, .int .u32 0, .int .u32 0, .int .u32 0, .int .u32 0, .int .u32 0, .int .u32 0, .int .u32 0, .int .u32 0, .int .u32 0, .int .u32 0, .int .u32 0, .int .u32 0, .int .u32 0, .int .u32 0, .int .u32 0] 25) = v15 at *
          refine wpAnyH_ready (rs := [2]) (by kernel_rfl) (by simp) ?_
          refine AllReadyH.cons (o := ⟨some 30, .call _, _, _, _, _⟩) rfl (fun K hK => ?_) ?_
          · go_simp
            refine (run_sum a b g v15 ha1 ha2 HB.out (HE.out.kept (B3.out.trans (Dv15.out.mono B3.out.size))) Cv15.out).mono ?_
            rw [HV1.out]
            rintro e v16 ⟨rfl, hb⟩
            have Dv16 := Lib.hid (Dv15.out.trans (hb.mono Dv15.out.size))
            have A6v16 := Lib.hid (A6v15.out.kept hb)
            have A7v16 := Lib.hid (A7v15.out.kept hb)
            refine hK.out _ _ (X3.out.kept Dv16.out) (fun _ => ?_)
            clear hK K hb
            refine wpAnyH_take (i := 3) (oi := ⟨some 27, .move (.tmp 30), _, _, _, _⟩) (v := (.tuple #[.agg (stL R1 Q1).toArray, .agg #[.int .i64 11, .int .i64 0, .int .u32 0, .int .u32 0], .int .i64 k1])) rfl (by kernel_rfl) (by kernel_rfl) (by kernel_rfl) (fun _ _ _ h => absurd h.1 (by simp)) (Or.inl ⟨by rfl, fun _ _ => rfl⟩) (X3.out.kept Dv16.out) ?_
            refine wpAnyH_take (i := 4) (oi := ⟨some 31, .extract (.tmp 27) 0, _, _, _, _⟩) (v := .agg (stL R1 Q1).toArray) rfl (by kernel_rfl) (by kernel_rfl) (by kernel_rfl) (fun _ _ _ h => absurd h.1 (by simp)) (Or.inl ⟨by rfl, fun _ _ => rfl⟩) (X3.out.kept Dv16.out) ?_
            refine wpAnyH_take (i := 5) (oi := ⟨some 32, .extract (.tmp 27) 1, _, _, _, _⟩) (v := .agg #[.int .i64 11, .int .i64 0, .int .u32 0, .int .u32 0]) rfl (by kernel_rfl) (by kernel_rfl) (by kernel_rfl) (fun _ _ _ h => absurd h.1 (by simp)) (Or.inl ⟨by rfl, fun _ _ => rfl⟩) (X3.out.kept Dv16.out) ?_
            refine wpAnyH_take (i := 6) (oi := ⟨some 33, .extract (.tmp 27) 2, _, _, _, _⟩) (v := .int .i64 k1) rfl (by kernel_rfl) (by kernel_rfl) (by kernel_rfl) (fun _ _ _ h => absurd h.1 (by simp)) (Or.inl ⟨by rfl, fun _ _ => rfl⟩) (X3.out.kept Dv16.out) ?_
            simp only [Act.put, List.setIfInBounds_toArray, List.set_cons_zero, List.set_cons_succ]
            have y5 := X3.out.lt
            have y6 := sA6v15.out
            have y7 := sA7v12.out
            have y8 := lv15.out
            refine wpAnyH_ready (rs := [9]) (by kernel_rfl) (by simp) ?_
            refine AllReadyH.cons (o := ⟨none, .store 25 (.tmp 6) (.tmp 31), _, _, _, _⟩) rfl (fun K hK => ?_) AllReadyH.nil
            rw [if_pos (by rfl)]
            refine so_store (.tmp 6) (.tmp 31) v12.heap.size (stL (fun _ => 0) 0) (stL R1 Q1) rfl rfl rfl A6v16.out (stL_len _ _ _ _) (stL_inf _ _) (stL_is _ _).one ?_
            have T9 := Lib.hid (A6v16.out.stored (l' := (stL R1 Q1)) (stL_len _ _ _ _))
            have U9 := Lib.hid (A7v16.out.apart (b' := v12.heap.size) (by omega) (stL R1 Q1))
            have D9 := Lib.hid (below_setCells (b := v12.heap.size) (stL R1 Q1) 0 _ Dv16.out y6)
            refine hK.out _ _ (X3.out.kept D9.out) (fun _ => ?_)
            clear hK K
            simp only [Act.put]
            generalize (v16.setCells v12.heap.size 0 (stL R1 Q1)) = v9 at *
            refine wpAnyH_ready (rs := [10]) (by kernel_rfl) (by simp) ?_
            refine AllReadyH.cons (o := ⟨none, .store 28 (.tmp 7) (.tmp 32), _, _, _, _⟩) rfl (fun K hK => ?_) AllReadyH.nil
            rw [if_pos (by rfl)]
            refine so_store (.tmp 7) (.tmp 32) v1.heap.size _ [.int .i64 11, .int .i64 0, .int .u32 0, .int .u32 0] rfl rfl rfl U9.out rfl (by kernel_rfl) (one4 _ _ _ _) ?_
            have T10 := Lib.hid (T9.out.apart (b' := v1.heap.size) (by omega) [.int .i64 11, .int .i64 0, .int .u32 0, .int .u32 0])
            have U10 := Lib.hid (U9.out.stored (l' := [.int .i64 11, .int .i64 0, .int .u32 0, .int .u32 0]) rfl)
            have D10 := Lib.hid (below_setCells (b := v1.heap.size) [.int .i64 11, .int .i64 0, .int .u32 0, .int .u32 0] 0 _ D9.out y7)
            refine hK.out _ _ (X3.out.kept D10.out) (fun _ => ?_)
            clear hK K
            simp only [Act.put]
            generalize (v9.setCells v1.heap.size 0 [.int .i64 11, .int .i64 0, .int .u32 0, .int .u32 0]) = v10 at *
            refine wpAnyH_ready (rs := [11]) (by kernel_rfl) (by simp) ?_
            refine AllReadyH.cons (o := ⟨some 8, .assign (.tmp 33), _, _, _, _⟩) rfl (fun K hK => ?_) AllReadyH.nil
            go_simp
            refine hK.out _ _ (X3.out.kept D10.out) (fun _ => ?_)
            clear hK K
            refine wpAnyH_done (by kernel_rfl) ?_ _
            exact ⟨rfl, v12.heap.size, v1.heap.size, g, rfl, T10.out, U10.out, D10.out, y6, y7⟩
          exact AllReadyH.nil
        exact AllReadyH.nil
      exact AllReadyH.nil
    refine AllReadyH.cons (o := ⟨some 6, .alloc 25, _, _, _, _⟩) rfl (fun K hK => ?_) ?_
    · go_simp
      have A6v17 := Lib.hid (zeroBox v0)
      have sA6v17 := Lib.hid D0.out.size
      have Dv17 := Lib.hid (D0.out.alloc D0.out.size (.cells #[.int .u32 0, .int .u32 0, .int .u32 0, .int .u32 0, .int .u32 0, .int .u32 0, .int .u32 0, .int .u32 0, .int .u32 0, .int .u32 0, .int .u32 0, .int .u32 0, .int .u32 0, .int .u32 0, .int .u32 0, .int .u32 0, .int .u32 0] 25))
      refine hK.out _ _ (X3.out.kept Dv17.out) (fun _ => ?_)
      clear hK K
      generalize v0.alloc (.cells #[.int .u32 0, .int .u32 0, .int .u32 0, .int .u32 0, .int .u32 0, .int .u32 0, .int .u32 0, .int .u32 0, .int .u32 0, .int .u32 0, .int .u32 0, .int .u32 0, .int .u32 0, .int .u32 0, .int .u32 0, .int .u32 0, .int .u32 0] 25) = v17 at *
      refine wpAnyH_ready (rs := [1, 8]) (by kernel_rfl) (by simp) ?_
      refine AllReadyH.cons (o := ⟨some 29, .call _, _, _, _, _⟩) rfl (fun K hK => ?_) ?_
      · go_simp
        refine (code_T P1 _ _ (HE.out.kept (B3.out.trans (Dv17.out.mono B3.out.size))) p1_s (by decide) P1_right).mono ?_
        rintro e v18 ⟨g, rfl, hc, hb⟩
        rw [show 4 * P1.length = 20 from rfl]
        have Cv18 := Lib.hid (show CodeIn v18 (some ⟨g, 0, none⟩) 20 (zT P1) from hc)
        have Dv18 := Lib.hid (Dv17.out.trans (hb.mono Dv17.out.size))
        have A6v18 := Lib.hid (A6v17.out.kept hb)
        refine hK.out _ _ (X3.out.kept Dv18.out) (fun _ => ?_)
        clear hK K hb hc
        refine wpAnyH_ready (rs := [2, 8]) (by kernel_rfl) (by simp) ?_
        refine AllReadyH.cons (o := ⟨some 30, .call _, _, _, _, _⟩) rfl (fun K hK => ?_) ?_
        · go_simp
          refine (run_sum a b g v18 ha1 ha2 HB.out (HE.out.kept (B3.out.trans (Dv18.out.mono B3.out.size))) Cv18.out).mono ?_
          rw [HV1.out]
          rintro e v19 ⟨rfl, hb⟩
          have Dv19 := Lib.hid (Dv18.out.trans (hb.mono Dv18.out.size))
          have A6v19 := Lib.hid (A6v18.out.kept hb)
          refine hK.out _ _ (X3.out.kept Dv19.out) (fun _ => ?_)
          clear hK K hb
          refine wpAnyH_take (i := 3) (oi := ⟨some 27, .move (.tmp 30), _, _, _, _⟩) (v := (.tuple #[.agg (stL R1 Q1).toArray, .agg #[.int .i64 11, .int .i64 0, .int .u32 0, .int .u32 0], .int .i64 k1])) rfl (by kernel_rfl) (by kernel_rfl) (by kernel_rfl) (fun _ _ _ h => absurd h.1 (by simp)) (Or.inl ⟨by rfl, fun _ _ => rfl⟩) (X3.out.kept Dv19.out) ?_
          refine wpAnyH_take (i := 4) (oi := ⟨some 31, .extract (.tmp 27) 0, _, _, _, _⟩) (v := .agg (stL R1 Q1).toArray) rfl (by kernel_rfl) (by kernel_rfl) (by kernel_rfl) (fun _ _ _ h => absurd h.1 (by simp)) (Or.inl ⟨by rfl, fun _ _ => rfl⟩) (X3.out.kept Dv19.out) ?_
          refine wpAnyH_take (i := 5) (oi := ⟨some 32, .extract (.tmp 27) 1, _, _, _, _⟩) (v := .agg #[.int .i64 11, .int .i64 0, .int .u32 0, .int .u32 0]) rfl (by kernel_rfl) (by kernel_rfl) (by kernel_rfl) (fun _ _ _ h => absurd h.1 (by simp)) (Or.inl ⟨by rfl, fun _ _ => rfl⟩) (X3.out.kept Dv19.out) ?_
          refine wpAnyH_take (i := 6) (oi := ⟨some 33, .extract (.tmp 27) 2, _, _, _, _⟩) (v := .int .i64 k1) rfl (by kernel_rfl) (by kernel_rfl) (by kernel_rfl) (fun _ _ _ h => absurd h.1 (by simp)) (Or.inl ⟨by rfl, fun _ _ => rfl⟩) (X3.out.kept Dv19.out) ?_
          simp only [Act.put, List.setIfInBounds_toArray, List.set_cons_zero, List.set_cons_succ]
          refine wpAnyH_ready (rs := [8]) (by kernel_rfl) (by simp) ?_
          refine AllReadyH.cons (o := ⟨some 7, .alloc 28, _, _, _, _⟩) rfl (fun K hK => ?_) ?_
          · go_simp
            have A7v20 := Lib.hid (zeroE v19)
            have sA7v20 := Lib.hid Dv19.out.size
            have lv20 := Lib.hid A6v19.out.lt
            have A6v20 := Lib.hid (A6v19.out.box (.cells #[.int .i64 0, .int .i64 0, .int .u32 0, .int .u32 0] 28))
            have Cv20 := Lib.hid (Cv18.out.kept ((Below.refl _ _).alloc (Nat.le_refl _) (.cells #[.int .i64 0, .int .i64 0, .int .u32 0, .int .u32 0] 28)))
            have Dv20 := Lib.hid (Dv19.out.alloc Dv19.out.size (.cells #[.int .i64 0, .int .i64 0, .int .u32 0, .int .u32 0] 28))
            refine hK.out _ _ (X3.out.kept Dv20.out) (fun _ => ?_)
            clear hK K
            generalize v19.alloc (.cells #[.int .i64 0, .int .i64 0, .int .u32 0, .int .u32 0] 28) = v20 at *
            have y5 := X3.out.lt
            have y6 := sA6v17.out
            have y7 := sA7v20.out
            have y8 := lv20.out
            refine wpAnyH_ready (rs := [9]) (by kernel_rfl) (by simp) ?_
            refine AllReadyH.cons (o := ⟨none, .store 25 (.tmp 6) (.tmp 31), _, _, _, _⟩) rfl (fun K hK => ?_) AllReadyH.nil
            rw [if_pos (by rfl)]
            refine so_store (.tmp 6) (.tmp 31) v0.heap.size (stL (fun _ => 0) 0) (stL R1 Q1) rfl rfl rfl A6v20.out (stL_len _ _ _ _) (stL_inf _ _) (stL_is _ _).one ?_
            have T9 := Lib.hid (A6v20.out.stored (l' := (stL R1 Q1)) (stL_len _ _ _ _))
            have U9 := Lib.hid (A7v20.out.apart (b' := v0.heap.size) (by omega) (stL R1 Q1))
            have D9 := Lib.hid (below_setCells (b := v0.heap.size) (stL R1 Q1) 0 _ Dv20.out y6)
            refine hK.out _ _ (X3.out.kept D9.out) (fun _ => ?_)
            clear hK K
            simp only [Act.put]
            generalize (v20.setCells v0.heap.size 0 (stL R1 Q1)) = v9 at *
            refine wpAnyH_ready (rs := [10]) (by kernel_rfl) (by simp) ?_
            refine AllReadyH.cons (o := ⟨none, .store 28 (.tmp 7) (.tmp 32), _, _, _, _⟩) rfl (fun K hK => ?_) AllReadyH.nil
            rw [if_pos (by rfl)]
            refine so_store (.tmp 7) (.tmp 32) v19.heap.size _ [.int .i64 11, .int .i64 0, .int .u32 0, .int .u32 0] rfl rfl rfl U9.out rfl (by kernel_rfl) (one4 _ _ _ _) ?_
            have T10 := Lib.hid (T9.out.apart (b' := v19.heap.size) (by omega) [.int .i64 11, .int .i64 0, .int .u32 0, .int .u32 0])
            have U10 := Lib.hid (U9.out.stored (l' := [.int .i64 11, .int .i64 0, .int .u32 0, .int .u32 0]) rfl)
            have D10 := Lib.hid (below_setCells (b := v19.heap.size) [.int .i64 11, .int .i64 0, .int .u32 0, .int .u32 0] 0 _ D9.out y7)
            refine hK.out _ _ (X3.out.kept D10.out) (fun _ => ?_)
            clear hK K
            simp only [Act.put]
            generalize (v9.setCells v19.heap.size 0 [.int .i64 11, .int .i64 0, .int .u32 0, .int .u32 0]) = v10 at *
            refine wpAnyH_ready (rs := [11]) (by kernel_rfl) (by simp) ?_
            refine AllReadyH.cons (o := ⟨some 8, .assign (.tmp 33), _, _, _, _⟩) rfl (fun K hK => ?_) AllReadyH.nil
            go_simp
            refine hK.out _ _ (X3.out.kept D10.out) (fun _ => ?_)
            clear hK K
            refine wpAnyH_done (by kernel_rfl) ?_ _
            exact ⟨rfl, v0.heap.size, v19.heap.size, g, rfl, T10.out, U10.out, D10.out, y6, y7⟩
          exact AllReadyH.nil
        refine AllReadyH.cons (o := ⟨some 7, .alloc 28, _, _, _, _⟩) rfl (fun K hK => ?_) ?_
        · go_simp
          have A7v21 := Lib.hid (zeroE v18)
          have sA7v21 := Lib.hid Dv18.out.size
          have lv21 := Lib.hid A6v18.out.lt
          have A6v21 := Lib.hid (A6v18.out.box (.cells #[.int .i64 0, .int .i64 0, .int .u32 0, .int .u32 0] 28))
          have Cv21 := Lib.hid (Cv18.out.kept ((Below.refl _ _).alloc (Nat.le_refl _) (.cells #[.int .i64 0, .int .i64 0, .int .u32 0, .int .u32 0] 28)))
          have Dv21 := Lib.hid (Dv18.out.alloc Dv18.out.size (.cells #[.int .i64 0, .int .i64 0, .int .u32 0, .int .u32 0] 28))
          refine hK.out _ _ (X3.out.kept Dv21.out) (fun _ => ?_)
          clear hK K
          generalize v18.alloc (.cells #[.int .i64 0, .int .i64 0, .int .u32 0, .int .u32 0] 28) = v21 at *
          refine wpAnyH_ready (rs := [2]) (by kernel_rfl) (by simp) ?_
          refine AllReadyH.cons (o := ⟨some 30, .call _, _, _, _, _⟩) rfl (fun K hK => ?_) ?_
          · go_simp
            refine (run_sum a b g v21 ha1 ha2 HB.out (HE.out.kept (B3.out.trans (Dv21.out.mono B3.out.size))) Cv21.out).mono ?_
            rw [HV1.out]
            rintro e v22 ⟨rfl, hb⟩
            have Dv22 := Lib.hid (Dv21.out.trans (hb.mono Dv21.out.size))
            have A6v22 := Lib.hid (A6v21.out.kept hb)
            have A7v22 := Lib.hid (A7v21.out.kept hb)
            refine hK.out _ _ (X3.out.kept Dv22.out) (fun _ => ?_)
            clear hK K hb
            refine wpAnyH_take (i := 3) (oi := ⟨some 27, .move (.tmp 30), _, _, _, _⟩) (v := (.tuple #[.agg (stL R1 Q1).toArray, .agg #[.int .i64 11, .int .i64 0, .int .u32 0, .int .u32 0], .int .i64 k1])) rfl (by kernel_rfl) (by kernel_rfl) (by kernel_rfl) (fun _ _ _ h => absurd h.1 (by simp)) (Or.inl ⟨by rfl, fun _ _ => rfl⟩) (X3.out.kept Dv22.out) ?_
            refine wpAnyH_take (i := 4) (oi := ⟨some 31, .extract (.tmp 27) 0, _, _, _, _⟩) (v := .agg (stL R1 Q1).toArray) rfl (by kernel_rfl) (by kernel_rfl) (by kernel_rfl) (fun _ _ _ h => absurd h.1 (by simp)) (Or.inl ⟨by rfl, fun _ _ => rfl⟩) (X3.out.kept Dv22.out) ?_
            refine wpAnyH_take (i := 5) (oi := ⟨some 32, .extract (.tmp 27) 1, _, _, _, _⟩) (v := .agg #[.int .i64 11, .int .i64 0, .int .u32 0, .int .u32 0]) rfl (by kernel_rfl) (by kernel_rfl) (by kernel_rfl) (fun _ _ _ h => absurd h.1 (by simp)) (Or.inl ⟨by rfl, fun _ _ => rfl⟩) (X3.out.kept Dv22.out) ?_
            refine wpAnyH_take (i := 6) (oi := ⟨some 33, .extract (.tmp 27) 2, _, _, _, _⟩) (v := .int .i64 k1) rfl (by kernel_rfl) (by kernel_rfl) (by kernel_rfl) (fun _ _ _ h => absurd h.1 (by simp)) (Or.inl ⟨by rfl, fun _ _ => rfl⟩) (X3.out.kept Dv22.out) ?_
            simp only [Act.put, List.setIfInBounds_toArray, List.set_cons_zero, List.set_cons_succ]
            have y5 := X3.out.lt
            have y6 := sA6v17.out
            have y7 := sA7v21.out
            have y8 := lv21.out
            refine wpAnyH_ready (rs := [9]) (by kernel_rfl) (by simp) ?_
            refine AllReadyH.cons (o := ⟨none, .store 25 (.tmp 6) (.tmp 31), _, _, _, _⟩) rfl (fun K hK => ?_) AllReadyH.nil
            rw [if_pos (by rfl)]
            refine so_store (.tmp 6) (.tmp 31) v0.heap.size (stL (fun _ => 0) 0) (stL R1 Q1) rfl rfl rfl A6v22.out (stL_len _ _ _ _) (stL_inf _ _) (stL_is _ _).one ?_
            have T9 := Lib.hid (A6v22.out.stored (l' := (stL R1 Q1)) (stL_len _ _ _ _))
            have U9 := Lib.hid (A7v22.out.apart (b' := v0.heap.size) (by omega) (stL R1 Q1))
            have D9 := Lib.hid (below_setCells (b := v0.heap.size) (stL R1 Q1) 0 _ Dv22.out y6)
            refine hK.out _ _ (X3.out.kept D9.out) (fun _ => ?_)
            clear hK K
            simp only [Act.put]
            generalize (v22.setCells v0.heap.size 0 (stL R1 Q1)) = v9 at *
            refine wpAnyH_ready (rs := [10]) (by kernel_rfl) (by simp) ?_
            refine AllReadyH.cons (o := ⟨none, .store 28 (.tmp 7) (.tmp 32), _, _, _, _⟩) rfl (fun K hK => ?_) AllReadyH.nil
            rw [if_pos (by rfl)]
            refine so_store (.tmp 7) (.tmp 32) v18.heap.size _ [.int .i64 11, .int .i64 0, .int .u32 0, .int .u32 0] rfl rfl rfl U9.out rfl (by kernel_rfl) (one4 _ _ _ _) ?_
            have T10 := Lib.hid (T9.out.apart (b' := v18.heap.size) (by omega) [.int .i64 11, .int .i64 0, .int .u32 0, .int .u32 0])
            have U10 := Lib.hid (U9.out.stored (l' := [.int .i64 11, .int .i64 0, .int .u32 0, .int .u32 0]) rfl)
            have D10 := Lib.hid (below_setCells (b := v18.heap.size) [.int .i64 11, .int .i64 0, .int .u32 0, .int .u32 0] 0 _ D9.out y7)
            refine hK.out _ _ (X3.out.kept D10.out) (fun _ => ?_)
            clear hK K
            simp only [Act.put]
            generalize (v9.setCells v18.heap.size 0 [.int .i64 11, .int .i64 0, .int .u32 0, .int .u32 0]) = v10 at *
            refine wpAnyH_ready (rs := [11]) (by kernel_rfl) (by simp) ?_
            refine AllReadyH.cons (o := ⟨some 8, .assign (.tmp 33), _, _, _, _⟩) rfl (fun K hK => ?_) AllReadyH.nil
            go_simp
            refine hK.out _ _ (X3.out.kept D10.out) (fun _ => ?_)
            clear hK K
            refine wpAnyH_done (by kernel_rfl) ?_ _
            exact ⟨rfl, v0.heap.size, v18.heap.size, g, rfl, T10.out, U10.out, D10.out, y6, y7⟩
          exact AllReadyH.nil
        exact AllReadyH.nil
      refine AllReadyH.cons (o := ⟨some 7, .alloc 28, _, _, _, _⟩) rfl (fun K hK => ?_) ?_
      · go_simp
        have A7v23 := Lib.hid (zeroE v17)
        have sA7v23 := Lib.hid Dv17.out.size
        have lv23 := Lib.hid A6v17.out.lt
        have A6v23 := Lib.hid (A6v17.out.box (.cells #[.int .i64 0, .int .i64 0, .int .u32 0, .int .u32 0] 28))
        have Dv23 := Lib.hid (Dv17.out.alloc Dv17.out.size (.cells #[.int .i64 0, .int .i64 0, .int .u32 0, .int .u32 0] 28))
        refine hK.out _ _ (X3.out.kept Dv23.out) (fun _ => ?_)
        clear hK K
        generalize v17.alloc (.cells #[.int .i64 0, .int .i64 0, .int .u32 0, .int .u32 0] 28) = v23 at *
        refine wpAnyH_ready (rs := [1]) (by kernel_rfl) (by simp) ?_
        refine AllReadyH.cons (o := ⟨some 29, .call _, _, _, _, _⟩) rfl (fun K hK => ?_) ?_
        · go_simp
          refine (code_T P1 _ _ (HE.out.kept (B3.out.trans (Dv23.out.mono B3.out.size))) p1_s (by decide) P1_right).mono ?_
          rintro e v24 ⟨g, rfl, hc, hb⟩
          rw [show 4 * P1.length = 20 from rfl]
          have Cv24 := Lib.hid (show CodeIn v24 (some ⟨g, 0, none⟩) 20 (zT P1) from hc)
          have Dv24 := Lib.hid (Dv23.out.trans (hb.mono Dv23.out.size))
          have A6v24 := Lib.hid (A6v23.out.kept hb)
          have A7v24 := Lib.hid (A7v23.out.kept hb)
          refine hK.out _ _ (X3.out.kept Dv24.out) (fun _ => ?_)
          clear hK K hb hc
          refine wpAnyH_ready (rs := [2]) (by kernel_rfl) (by simp) ?_
          refine AllReadyH.cons (o := ⟨some 30, .call _, _, _, _, _⟩) rfl (fun K hK => ?_) ?_
          · go_simp
            refine (run_sum a b g v24 ha1 ha2 HB.out (HE.out.kept (B3.out.trans (Dv24.out.mono B3.out.size))) Cv24.out).mono ?_
            rw [HV1.out]
            rintro e v25 ⟨rfl, hb⟩
            have Dv25 := Lib.hid (Dv24.out.trans (hb.mono Dv24.out.size))
            have A6v25 := Lib.hid (A6v24.out.kept hb)
            have A7v25 := Lib.hid (A7v24.out.kept hb)
            refine hK.out _ _ (X3.out.kept Dv25.out) (fun _ => ?_)
            clear hK K hb
            refine wpAnyH_take (i := 3) (oi := ⟨some 27, .move (.tmp 30), _, _, _, _⟩) (v := (.tuple #[.agg (stL R1 Q1).toArray, .agg #[.int .i64 11, .int .i64 0, .int .u32 0, .int .u32 0], .int .i64 k1])) rfl (by kernel_rfl) (by kernel_rfl) (by kernel_rfl) (fun _ _ _ h => absurd h.1 (by simp)) (Or.inl ⟨by rfl, fun _ _ => rfl⟩) (X3.out.kept Dv25.out) ?_
            refine wpAnyH_take (i := 4) (oi := ⟨some 31, .extract (.tmp 27) 0, _, _, _, _⟩) (v := .agg (stL R1 Q1).toArray) rfl (by kernel_rfl) (by kernel_rfl) (by kernel_rfl) (fun _ _ _ h => absurd h.1 (by simp)) (Or.inl ⟨by rfl, fun _ _ => rfl⟩) (X3.out.kept Dv25.out) ?_
            refine wpAnyH_take (i := 5) (oi := ⟨some 32, .extract (.tmp 27) 1, _, _, _, _⟩) (v := .agg #[.int .i64 11, .int .i64 0, .int .u32 0, .int .u32 0]) rfl (by kernel_rfl) (by kernel_rfl) (by kernel_rfl) (fun _ _ _ h => absurd h.1 (by simp)) (Or.inl ⟨by rfl, fun _ _ => rfl⟩) (X3.out.kept Dv25.out) ?_
            refine wpAnyH_take (i := 6) (oi := ⟨some 33, .extract (.tmp 27) 2, _, _, _, _⟩) (v := .int .i64 k1) rfl (by kernel_rfl) (by kernel_rfl) (by kernel_rfl) (fun _ _ _ h => absurd h.1 (by simp)) (Or.inl ⟨by rfl, fun _ _ => rfl⟩) (X3.out.kept Dv25.out) ?_
            simp only [Act.put, List.setIfInBounds_toArray, List.set_cons_zero, List.set_cons_succ]
            have y5 := X3.out.lt
            have y6 := sA6v17.out
            have y7 := sA7v23.out
            have y8 := lv23.out
            refine wpAnyH_ready (rs := [9]) (by kernel_rfl) (by simp) ?_
            refine AllReadyH.cons (o := ⟨none, .store 25 (.tmp 6) (.tmp 31), _, _, _, _⟩) rfl (fun K hK => ?_) AllReadyH.nil
            rw [if_pos (by rfl)]
            refine so_store (.tmp 6) (.tmp 31) v0.heap.size (stL (fun _ => 0) 0) (stL R1 Q1) rfl rfl rfl A6v25.out (stL_len _ _ _ _) (stL_inf _ _) (stL_is _ _).one ?_
            have T9 := Lib.hid (A6v25.out.stored (l' := (stL R1 Q1)) (stL_len _ _ _ _))
            have U9 := Lib.hid (A7v25.out.apart (b' := v0.heap.size) (by omega) (stL R1 Q1))
            have D9 := Lib.hid (below_setCells (b := v0.heap.size) (stL R1 Q1) 0 _ Dv25.out y6)
            refine hK.out _ _ (X3.out.kept D9.out) (fun _ => ?_)
            clear hK K
            simp only [Act.put]
            generalize (v25.setCells v0.heap.size 0 (stL R1 Q1)) = v9 at *
            refine wpAnyH_ready (rs := [10]) (by kernel_rfl) (by simp) ?_
            refine AllReadyH.cons (o := ⟨none, .store 28 (.tmp 7) (.tmp 32), _, _, _, _⟩) rfl (fun K hK => ?_) AllReadyH.nil
            rw [if_pos (by rfl)]
            refine so_store (.tmp 7) (.tmp 32) v17.heap.size _ [.int .i64 11, .int .i64 0, .int .u32 0, .int .u32 0] rfl rfl rfl U9.out rfl (by kernel_rfl) (one4 _ _ _ _) ?_
            have T10 := Lib.hid (T9.out.apart (b' := v17.heap.size) (by omega) [.int .i64 11, .int .i64 0, .int .u32 0, .int .u32 0])
            have U10 := Lib.hid (U9.out.stored (l' := [.int .i64 11, .int .i64 0, .int .u32 0, .int .u32 0]) rfl)
            have D10 := Lib.hid (below_setCells (b := v17.heap.size) [.int .i64 11, .int .i64 0, .int .u32 0, .int .u32 0] 0 _ D9.out y7)
            refine hK.out _ _ (X3.out.kept D10.out) (fun _ => ?_)
            clear hK K
            simp only [Act.put]
            generalize (v9.setCells v17.heap.size 0 [.int .i64 11, .int .i64 0, .int .u32 0, .int .u32 0]) = v10 at *
            refine wpAnyH_ready (rs := [11]) (by kernel_rfl) (by simp) ?_
            refine AllReadyH.cons (o := ⟨some 8, .assign (.tmp 33), _, _, _, _⟩) rfl (fun K hK => ?_) AllReadyH.nil
            go_simp
            refine hK.out _ _ (X3.out.kept D10.out) (fun _ => ?_)
            clear hK K
            refine wpAnyH_done (by kernel_rfl) ?_ _
            exact ⟨rfl, v0.heap.size, v17.heap.size, g, rfl, T10.out, U10.out, D10.out, y6, y7⟩
          exact AllReadyH.nil
        exact AllReadyH.nil
      exact AllReadyH.nil
    refine AllReadyH.cons (o := ⟨some 7, .alloc 28, _, _, _, _⟩) rfl (fun K hK => ?_) ?_
    · go_simp
      have A7v26 := Lib.hid (zeroE v0)
      have sA7v26 := Lib.hid D0.out.size
      have Dv26 := Lib.hid (D0.out.alloc D0.out.size (.cells #[.int .i64 0, .int .i64 0, .int .u32 0, .int .u32 0] 28))
      refine hK.out _ _ (X3.out.kept Dv26.out) (fun _ => ?_)
      clear hK K
      generalize v0.alloc (.cells #[.int .i64 0, .int .i64 0, .int .u32 0, .int .u32 0] 28) = v26 at *
      refine wpAnyH_ready (rs := [1, 7]) (by kernel_rfl) (by simp) ?_
      refine AllReadyH.cons (o := ⟨some 29, .call _, _, _, _, _⟩) rfl (fun K hK => ?_) ?_
      · go_simp
        refine (code_T P1 _ _ (HE.out.kept (B3.out.trans (Dv26.out.mono B3.out.size))) p1_s (by decide) P1_right).mono ?_
        rintro e v27 ⟨g, rfl, hc, hb⟩
        rw [show 4 * P1.length = 20 from rfl]
        have Cv27 := Lib.hid (show CodeIn v27 (some ⟨g, 0, none⟩) 20 (zT P1) from hc)
        have Dv27 := Lib.hid (Dv26.out.trans (hb.mono Dv26.out.size))
        have A7v27 := Lib.hid (A7v26.out.kept hb)
        refine hK.out _ _ (X3.out.kept Dv27.out) (fun _ => ?_)
        clear hK K hb hc
        refine wpAnyH_ready (rs := [2, 7]) (by kernel_rfl) (by simp) ?_
        refine AllReadyH.cons (o := ⟨some 30, .call _, _, _, _, _⟩) rfl (fun K hK => ?_) ?_
        · go_simp
          refine (run_sum a b g v27 ha1 ha2 HB.out (HE.out.kept (B3.out.trans (Dv27.out.mono B3.out.size))) Cv27.out).mono ?_
          rw [HV1.out]
          rintro e v28 ⟨rfl, hb⟩
          have Dv28 := Lib.hid (Dv27.out.trans (hb.mono Dv27.out.size))
          have A7v28 := Lib.hid (A7v27.out.kept hb)
          refine hK.out _ _ (X3.out.kept Dv28.out) (fun _ => ?_)
          clear hK K hb
          refine wpAnyH_take (i := 3) (oi := ⟨some 27, .move (.tmp 30), _, _, _, _⟩) (v := (.tuple #[.agg (stL R1 Q1).toArray, .agg #[.int .i64 11, .int .i64 0, .int .u32 0, .int .u32 0], .int .i64 k1])) rfl (by kernel_rfl) (by kernel_rfl) (by kernel_rfl) (fun _ _ _ h => absurd h.1 (by simp)) (Or.inl ⟨by rfl, fun _ _ => rfl⟩) (X3.out.kept Dv28.out) ?_
          refine wpAnyH_take (i := 4) (oi := ⟨some 31, .extract (.tmp 27) 0, _, _, _, _⟩) (v := .agg (stL R1 Q1).toArray) rfl (by kernel_rfl) (by kernel_rfl) (by kernel_rfl) (fun _ _ _ h => absurd h.1 (by simp)) (Or.inl ⟨by rfl, fun _ _ => rfl⟩) (X3.out.kept Dv28.out) ?_
          refine wpAnyH_take (i := 5) (oi := ⟨some 32, .extract (.tmp 27) 1, _, _, _, _⟩) (v := .agg #[.int .i64 11, .int .i64 0, .int .u32 0, .int .u32 0]) rfl (by kernel_rfl) (by kernel_rfl) (by kernel_rfl) (fun _ _ _ h => absurd h.1 (by simp)) (Or.inl ⟨by rfl, fun _ _ => rfl⟩) (X3.out.kept Dv28.out) ?_
          refine wpAnyH_take (i := 6) (oi := ⟨some 33, .extract (.tmp 27) 2, _, _, _, _⟩) (v := .int .i64 k1) rfl (by kernel_rfl) (by kernel_rfl) (by kernel_rfl) (fun _ _ _ h => absurd h.1 (by simp)) (Or.inl ⟨by rfl, fun _ _ => rfl⟩) (X3.out.kept Dv28.out) ?_
          simp only [Act.put, List.setIfInBounds_toArray, List.set_cons_zero, List.set_cons_succ]
          refine wpAnyH_ready (rs := [7]) (by kernel_rfl) (by simp) ?_
          refine AllReadyH.cons (o := ⟨some 6, .alloc 25, _, _, _, _⟩) rfl (fun K hK => ?_) ?_
          · go_simp
            have A6v29 := Lib.hid (zeroBox v28)
            have sA6v29 := Lib.hid Dv28.out.size
            have lv29 := Lib.hid A7v28.out.lt
            have A7v29 := Lib.hid (A7v28.out.box (.cells #[.int .u32 0, .int .u32 0, .int .u32 0, .int .u32 0, .int .u32 0, .int .u32 0, .int .u32 0, .int .u32 0, .int .u32 0, .int .u32 0, .int .u32 0, .int .u32 0, .int .u32 0, .int .u32 0, .int .u32 0, .int .u32 0, .int .u32 0] 25))
            have Cv29 := Lib.hid (Cv27.out.kept ((Below.refl _ _).alloc (Nat.le_refl _) (.cells #[.int .u32 0, .int .u32 0, .int .u32 0, .int .u32 0, .int .u32 0, .int .u32 0, .int .u32 0, .int .u32 0, .int .u32 0, .int .u32 0, .int .u32 0, .int .u32 0, .int .u32 0, .int .u32 0, .int .u32 0, .int .u32 0, .int .u32 0] 25)))
            have Dv29 := Lib.hid (Dv28.out.alloc Dv28.out.size (.cells #[.int .u32 0, .int .u32 0, .int .u32 0, .int .u32 0, .int .u32 0, .int .u32 0, .int .u32 0, .int .u32 0, .int .u32 0, .int .u32 0, .int .u32 0, .int .u32 0, .int .u32 0, .int .u32 0, .int .u32 0, .int .u32 0, .int .u32 0] 25))
            refine hK.out _ _ (X3.out.kept Dv29.out) (fun _ => ?_)
            clear hK K
            generalize v28.alloc (.cells #[.int .u32 0, .int .u32 0, .int .u32 0, .int .u32 0, .int .u32 0, .int .u32 0, .int .u32 0, .int .u32 0, .int .u32 0, .int .u32 0, .int .u32 0, .int .u32 0, .int .u32 0, .int .u32 0, .int .u32 0, .int .u32 0, .int .u32 0] 25) = v29 at *
            have y5 := X3.out.lt
            have y6 := sA6v29.out
            have y7 := sA7v26.out
            have y8 := lv29.out
            refine wpAnyH_ready (rs := [9]) (by kernel_rfl) (by simp) ?_
            refine AllReadyH.cons (o := ⟨none, .store 25 (.tmp 6) (.tmp 31), _, _, _, _⟩) rfl (fun K hK => ?_) AllReadyH.nil
            rw [if_pos (by rfl)]
            refine so_store (.tmp 6) (.tmp 31) v28.heap.size (stL (fun _ => 0) 0) (stL R1 Q1) rfl rfl rfl A6v29.out (stL_len _ _ _ _) (stL_inf _ _) (stL_is _ _).one ?_
            have T9 := Lib.hid (A6v29.out.stored (l' := (stL R1 Q1)) (stL_len _ _ _ _))
            have U9 := Lib.hid (A7v29.out.apart (b' := v28.heap.size) (by omega) (stL R1 Q1))
            have D9 := Lib.hid (below_setCells (b := v28.heap.size) (stL R1 Q1) 0 _ Dv29.out y6)
            refine hK.out _ _ (X3.out.kept D9.out) (fun _ => ?_)
            clear hK K
            simp only [Act.put]
            generalize (v29.setCells v28.heap.size 0 (stL R1 Q1)) = v9 at *
            refine wpAnyH_ready (rs := [10]) (by kernel_rfl) (by simp) ?_
            refine AllReadyH.cons (o := ⟨none, .store 28 (.tmp 7) (.tmp 32), _, _, _, _⟩) rfl (fun K hK => ?_) AllReadyH.nil
            rw [if_pos (by rfl)]
            refine so_store (.tmp 7) (.tmp 32) v0.heap.size _ [.int .i64 11, .int .i64 0, .int .u32 0, .int .u32 0] rfl rfl rfl U9.out rfl (by kernel_rfl) (one4 _ _ _ _) ?_
            have T10 := Lib.hid (T9.out.apart (b' := v0.heap.size) (by omega) [.int .i64 11, .int .i64 0, .int .u32 0, .int .u32 0])
            have U10 := Lib.hid (U9.out.stored (l' := [.int .i64 11, .int .i64 0, .int .u32 0, .int .u32 0]) rfl)
            have D10 := Lib.hid (below_setCells (b := v0.heap.size) [.int .i64 11, .int .i64 0, .int .u32 0, .int .u32 0] 0 _ D9.out y7)
            refine hK.out _ _ (X3.out.kept D10.out) (fun _ => ?_)
            clear hK K
            simp only [Act.put]
            generalize (v9.setCells v0.heap.size 0 [.int .i64 11, .int .i64 0, .int .u32 0, .int .u32 0]) = v10 at *
            refine wpAnyH_ready (rs := [11]) (by kernel_rfl) (by simp) ?_
            refine AllReadyH.cons (o := ⟨some 8, .assign (.tmp 33), _, _, _, _⟩) rfl (fun K hK => ?_) AllReadyH.nil
            go_simp
            refine hK.out _ _ (X3.out.kept D10.out) (fun _ => ?_)
            clear hK K
            refine wpAnyH_done (by kernel_rfl) ?_ _
            exact ⟨rfl, v28.heap.size, v0.heap.size, g, rfl, T10.out, U10.out, D10.out, y6, y7⟩
          exact AllReadyH.nil
        refine AllReadyH.cons (o := ⟨some 6, .alloc 25, _, _, _, _⟩) rfl (fun K hK => ?_) ?_
        · go_simp
          have A6v30 := Lib.hid (zeroBox v27)
          have sA6v30 := Lib.hid Dv27.out.size
          have lv30 := Lib.hid A7v27.out.lt
          have A7v30 := Lib.hid (A7v27.out.box (.cells #[.int .u32 0, .int .u32 0, .int .u32 0, .int .u32 0, .int .u32 0, .int .u32 0, .int .u32 0, .int .u32 0, .int .u32 0, .int .u32 0, .int .u32 0, .int .u32 0, .int .u32 0, .int .u32 0, .int .u32 0, .int .u32 0, .int .u32 0] 25))
          have Cv30 := Lib.hid (Cv27.out.kept ((Below.refl _ _).alloc (Nat.le_refl _) (.cells #[.int .u32 0, .int .u32 0, .int .u32 0, .int .u32 0, .int .u32 0, .int .u32 0, .int .u32 0, .int .u32 0, .int .u32 0, .int .u32 0, .int .u32 0, .int .u32 0, .int .u32 0, .int .u32 0, .int .u32 0, .int .u32 0, .int .u32 0] 25)))
          have Dv30 := Lib.hid (Dv27.out.alloc Dv27.out.size (.cells #[.int .u32 0, .int .u32 0, .int .u32 0, .int .u32 0, .int .u32 0, .int .u32 0, .int .u32 0, .int .u32 0, .int .u32 0, .int .u32 0, .int .u32 0, .int .u32 0, .int .u32 0, .int .u32 0, .int .u32 0, .int .u32 0, .int .u32 0] 25))
          refine hK.out _ _ (X3.out.kept Dv30.out) (fun _ => ?_)
          clear hK K
          generalize v27.alloc (.cells #[.int .u32 0, .int .u32 0, .int .u32 0, .int .u32 0, .int .u32 0, .int .u32 0, .int .u32 0, .int .u32 0, .int .u32 0, .int .u32 0, .int .u32 0, .int .u32 0, .int .u32 0, .int .u32 0, .int .u32 0, .int .u32 0, .int .u32 0] 25) = v30 at *
          refine wpAnyH_ready (rs := [2]) (by kernel_rfl) (by simp) ?_
          refine AllReadyH.cons (o := ⟨some 30, .call _, _, _, _, _⟩) rfl (fun K hK => ?_) ?_
          · go_simp
            refine (run_sum a b g v30 ha1 ha2 HB.out (HE.out.kept (B3.out.trans (Dv30.out.mono B3.out.size))) Cv30.out).mono ?_
            rw [HV1.out]
            rintro e v31 ⟨rfl, hb⟩
            have Dv31 := Lib.hid (Dv30.out.trans (hb.mono Dv30.out.size))
            have A6v31 := Lib.hid (A6v30.out.kept hb)
            have A7v31 := Lib.hid (A7v30.out.kept hb)
            refine hK.out _ _ (X3.out.kept Dv31.out) (fun _ => ?_)
            clear hK K hb
            refine wpAnyH_take (i := 3) (oi := ⟨some 27, .move (.tmp 30), _, _, _, _⟩) (v := (.tuple #[.agg (stL R1 Q1).toArray, .agg #[.int .i64 11, .int .i64 0, .int .u32 0, .int .u32 0], .int .i64 k1])) rfl (by kernel_rfl) (by kernel_rfl) (by kernel_rfl) (fun _ _ _ h => absurd h.1 (by simp)) (Or.inl ⟨by rfl, fun _ _ => rfl⟩) (X3.out.kept Dv31.out) ?_
            refine wpAnyH_take (i := 4) (oi := ⟨some 31, .extract (.tmp 27) 0, _, _, _, _⟩) (v := .agg (stL R1 Q1).toArray) rfl (by kernel_rfl) (by kernel_rfl) (by kernel_rfl) (fun _ _ _ h => absurd h.1 (by simp)) (Or.inl ⟨by rfl, fun _ _ => rfl⟩) (X3.out.kept Dv31.out) ?_
            refine wpAnyH_take (i := 5) (oi := ⟨some 32, .extract (.tmp 27) 1, _, _, _, _⟩) (v := .agg #[.int .i64 11, .int .i64 0, .int .u32 0, .int .u32 0]) rfl (by kernel_rfl) (by kernel_rfl) (by kernel_rfl) (fun _ _ _ h => absurd h.1 (by simp)) (Or.inl ⟨by rfl, fun _ _ => rfl⟩) (X3.out.kept Dv31.out) ?_
            refine wpAnyH_take (i := 6) (oi := ⟨some 33, .extract (.tmp 27) 2, _, _, _, _⟩) (v := .int .i64 k1) rfl (by kernel_rfl) (by kernel_rfl) (by kernel_rfl) (fun _ _ _ h => absurd h.1 (by simp)) (Or.inl ⟨by rfl, fun _ _ => rfl⟩) (X3.out.kept Dv31.out) ?_
            simp only [Act.put, List.setIfInBounds_toArray, List.set_cons_zero, List.set_cons_succ]
            have y5 := X3.out.lt
            have y6 := sA6v30.out
            have y7 := sA7v26.out
            have y8 := lv30.out
            refine wpAnyH_ready (rs := [9]) (by kernel_rfl) (by simp) ?_
            refine AllReadyH.cons (o := ⟨none, .store 25 (.tmp 6) (.tmp 31), _, _, _, _⟩) rfl (fun K hK => ?_) AllReadyH.nil
            rw [if_pos (by rfl)]
            refine so_store (.tmp 6) (.tmp 31) v27.heap.size (stL (fun _ => 0) 0) (stL R1 Q1) rfl rfl rfl A6v31.out (stL_len _ _ _ _) (stL_inf _ _) (stL_is _ _).one ?_
            have T9 := Lib.hid (A6v31.out.stored (l' := (stL R1 Q1)) (stL_len _ _ _ _))
            have U9 := Lib.hid (A7v31.out.apart (b' := v27.heap.size) (by omega) (stL R1 Q1))
            have D9 := Lib.hid (below_setCells (b := v27.heap.size) (stL R1 Q1) 0 _ Dv31.out y6)
            refine hK.out _ _ (X3.out.kept D9.out) (fun _ => ?_)
            clear hK K
            simp only [Act.put]
            generalize (v31.setCells v27.heap.size 0 (stL R1 Q1)) = v9 at *
            refine wpAnyH_ready (rs := [10]) (by kernel_rfl) (by simp) ?_
            refine AllReadyH.cons (o := ⟨none, .store 28 (.tmp 7) (.tmp 32), _, _, _, _⟩) rfl (fun K hK => ?_) AllReadyH.nil
            rw [if_pos (by rfl)]
            refine so_store (.tmp 7) (.tmp 32) v0.heap.size _ [.int .i64 11, .int .i64 0, .int .u32 0, .int .u32 0] rfl rfl rfl U9.out rfl (by kernel_rfl) (one4 _ _ _ _) ?_
            have T10 := Lib.hid (T9.out.apart (b' := v0.heap.size) (by omega) [.int .i64 11, .int .i64 0, .int .u32 0, .int .u32 0])
            have U10 := Lib.hid (U9.out.stored (l' := [.int .i64 11, .int .i64 0, .int .u32 0, .int .u32 0]) rfl)
            have D10 := Lib.hid (below_setCells (b := v0.heap.size) [.int .i64 11, .int .i64 0, .int .u32 0, .int .u32 0] 0 _ D9.out y7)
            refine hK.out _ _ (X3.out.kept D10.out) (fun _ => ?_)
            clear hK K
            simp only [Act.put]
            generalize (v9.setCells v0.heap.size 0 [.int .i64 11, .int .i64 0, .int .u32 0, .int .u32 0]) = v10 at *
            refine wpAnyH_ready (rs := [11]) (by kernel_rfl) (by simp) ?_
            refine AllReadyH.cons (o := ⟨some 8, .assign (.tmp 33), _, _, _, _⟩) rfl (fun K hK => ?_) AllReadyH.nil
            go_simp
            refine hK.out _ _ (X3.out.kept D10.out) (fun _ => ?_)
            clear hK K
            refine wpAnyH_done (by kernel_rfl) ?_ _
            exact ⟨rfl, v27.heap.size, v0.heap.size, g, rfl, T10.out, U10.out, D10.out, y6, y7⟩
          exact AllReadyH.nil
        exact AllReadyH.nil
      refine AllReadyH.cons (o := ⟨some 6, .alloc 25, _, _, _, _⟩) rfl (fun K hK => ?_) ?_
      · go_simp
        have A6v32 := Lib.hid (zeroBox v26)
        have sA6v32 := Lib.hid Dv26.out.size
        have lv32 := Lib.hid A7v26.out.lt
        have A7v32 := Lib.hid (A7v26.out.box (.cells #[.int .u32 0, .int .u32 0, .int .u32 0, .int .u32 0, .int .u32 0, .int .u32 0, .int .u32 0, .int .u32 0, .int .u32 0, .int .u32 0, .int .u32 0, .int .u32 0, .int .u32 0, .int .u32 0, .int .u32 0, .int .u32 0, .int .u32 0] 25))
        have Dv32 := Lib.hid (Dv26.out.alloc Dv26.out.size (.cells #[.int .u32 0, .int .u32 0, .int .u32 0, .int .u32 0, .int .u32 0, .int .u32 0, .int .u32 0, .int .u32 0, .int .u32 0, .int .u32 0, .int .u32 0, .int .u32 0, .int .u32 0, .int .u32 0, .int .u32 0, .int .u32 0, .int .u32 0] 25))
        refine hK.out _ _ (X3.out.kept Dv32.out) (fun _ => ?_)
        clear hK K
        generalize v26.alloc (.cells #[.int .u32 0, .int .u32 0, .int .u32 0, .int .u32 0, .int .u32 0, .int .u32 0, .int .u32 0, .int .u32 0, .int .u32 0, .int .u32 0, .int .u32 0, .int .u32 0, .int .u32 0, .int .u32 0, .int .u32 0, .int .u32 0, .int .u32 0] 25) = v32 at *
        refine wpAnyH_ready (rs := [1]) (by kernel_rfl) (by simp) ?_
        refine AllReadyH.cons (o := ⟨some 29, .call _, _, _, _, _⟩) rfl (fun K hK => ?_) ?_
        · go_simp
          refine (code_T P1 _ _ (HE.out.kept (B3.out.trans (Dv32.out.mono B3.out.size))) p1_s (by decide) P1_right).mono ?_
          rintro e v33 ⟨g, rfl, hc, hb⟩
          rw [show 4 * P1.length = 20 from rfl]
          have Cv33 := Lib.hid (show CodeIn v33 (some ⟨g, 0, none⟩) 20 (zT P1) from hc)
          have Dv33 := Lib.hid (Dv32.out.trans (hb.mono Dv32.out.size))
          have A6v33 := Lib.hid (A6v32.out.kept hb)
          have A7v33 := Lib.hid (A7v32.out.kept hb)
          refine hK.out _ _ (X3.out.kept Dv33.out) (fun _ => ?_)
          clear hK K hb hc
          refine wpAnyH_ready (rs := [2]) (by kernel_rfl) (by simp) ?_
          refine AllReadyH.cons (o := ⟨some 30, .call _, _, _, _, _⟩) rfl (fun K hK => ?_) ?_
          · go_simp
            refine (run_sum a b g v33 ha1 ha2 HB.out (HE.out.kept (B3.out.trans (Dv33.out.mono B3.out.size))) Cv33.out).mono ?_
            rw [HV1.out]
            rintro e v34 ⟨rfl, hb⟩
            have Dv34 := Lib.hid (Dv33.out.trans (hb.mono Dv33.out.size))
            have A6v34 := Lib.hid (A6v33.out.kept hb)
            have A7v34 := Lib.hid (A7v33.out.kept hb)
            refine hK.out _ _ (X3.out.kept Dv34.out) (fun _ => ?_)
            clear hK K hb
            refine wpAnyH_take (i := 3) (oi := ⟨some 27, .move (.tmp 30), _, _, _, _⟩) (v := (.tuple #[.agg (stL R1 Q1).toArray, .agg #[.int .i64 11, .int .i64 0, .int .u32 0, .int .u32 0], .int .i64 k1])) rfl (by kernel_rfl) (by kernel_rfl) (by kernel_rfl) (fun _ _ _ h => absurd h.1 (by simp)) (Or.inl ⟨by rfl, fun _ _ => rfl⟩) (X3.out.kept Dv34.out) ?_
            refine wpAnyH_take (i := 4) (oi := ⟨some 31, .extract (.tmp 27) 0, _, _, _, _⟩) (v := .agg (stL R1 Q1).toArray) rfl (by kernel_rfl) (by kernel_rfl) (by kernel_rfl) (fun _ _ _ h => absurd h.1 (by simp)) (Or.inl ⟨by rfl, fun _ _ => rfl⟩) (X3.out.kept Dv34.out) ?_
            refine wpAnyH_take (i := 5) (oi := ⟨some 32, .extract (.tmp 27) 1, _, _, _, _⟩) (v := .agg #[.int .i64 11, .int .i64 0, .int .u32 0, .int .u32 0]) rfl (by kernel_rfl) (by kernel_rfl) (by kernel_rfl) (fun _ _ _ h => absurd h.1 (by simp)) (Or.inl ⟨by rfl, fun _ _ => rfl⟩) (X3.out.kept Dv34.out) ?_
            refine wpAnyH_take (i := 6) (oi := ⟨some 33, .extract (.tmp 27) 2, _, _, _, _⟩) (v := .int .i64 k1) rfl (by kernel_rfl) (by kernel_rfl) (by kernel_rfl) (fun _ _ _ h => absurd h.1 (by simp)) (Or.inl ⟨by rfl, fun _ _ => rfl⟩) (X3.out.kept Dv34.out) ?_
            simp only [Act.put, List.setIfInBounds_toArray, List.set_cons_zero, List.set_cons_succ]
            have y5 := X3.out.lt
            have y6 := sA6v32.out
            have y7 := sA7v26.out
            have y8 := lv32.out
            refine wpAnyH_ready (rs := [9]) (by kernel_rfl) (by simp) ?_
            refine AllReadyH.cons (o := ⟨none, .store 25 (.tmp 6) (.tmp 31), _, _, _, _⟩) rfl (fun K hK => ?_) AllReadyH.nil
            rw [if_pos (by rfl)]
            refine so_store (.tmp 6) (.tmp 31) v26.heap.size (stL (fun _ => 0) 0) (stL R1 Q1) rfl rfl rfl A6v34.out (stL_len _ _ _ _) (stL_inf _ _) (stL_is _ _).one ?_
            have T9 := Lib.hid (A6v34.out.stored (l' := (stL R1 Q1)) (stL_len _ _ _ _))
            have U9 := Lib.hid (A7v34.out.apart (b' := v26.heap.size) (by omega) (stL R1 Q1))
            have D9 := Lib.hid (below_setCells (b := v26.heap.size) (stL R1 Q1) 0 _ Dv34.out y6)
            refine hK.out _ _ (X3.out.kept D9.out) (fun _ => ?_)
            clear hK K
            simp only [Act.put]
            generalize (v34.setCells v26.heap.size 0 (stL R1 Q1)) = v9 at *
            refine wpAnyH_ready (rs := [10]) (by kernel_rfl) (by simp) ?_
            refine AllReadyH.cons (o := ⟨none, .store 28 (.tmp 7) (.tmp 32), _, _, _, _⟩) rfl (fun K hK => ?_) AllReadyH.nil
            rw [if_pos (by rfl)]
            refine so_store (.tmp 7) (.tmp 32) v0.heap.size _ [.int .i64 11, .int .i64 0, .int .u32 0, .int .u32 0] rfl rfl rfl U9.out rfl (by kernel_rfl) (one4 _ _ _ _) ?_
            have T10 := Lib.hid (T9.out.apart (b' := v0.heap.size) (by omega) [.int .i64 11, .int .i64 0, .int .u32 0, .int .u32 0])
            have U10 := Lib.hid (U9.out.stored (l' := [.int .i64 11, .int .i64 0, .int .u32 0, .int .u32 0]) rfl)
            have D10 := Lib.hid (below_setCells (b := v0.heap.size) [.int .i64 11, .int .i64 0, .int .u32 0, .int .u32 0] 0 _ D9.out y7)
            refine hK.out _ _ (X3.out.kept D10.out) (fun _ => ?_)
            clear hK K
            simp only [Act.put]
            generalize (v9.setCells v0.heap.size 0 [.int .i64 11, .int .i64 0, .int .u32 0, .int .u32 0]) = v10 at *
            refine wpAnyH_ready (rs := [11]) (by kernel_rfl) (by simp) ?_
            refine AllReadyH.cons (o := ⟨some 8, .assign (.tmp 33), _, _, _, _⟩) rfl (fun K hK => ?_) AllReadyH.nil
            go_simp
            refine hK.out _ _ (X3.out.kept D10.out) (fun _ => ?_)
            clear hK K
            refine wpAnyH_done (by kernel_rfl) ?_ _
            exact ⟨rfl, v26.heap.size, v0.heap.size, g, rfl, T10.out, U10.out, D10.out, y6, y7⟩
          exact AllReadyH.nil
        exact AllReadyH.nil
      exact AllReadyH.nil
    exact AllReadyH.nil
  · intro n m g w4 hG
    have T4 := Lib.hid hG.1
    have U4 := Lib.hid hG.2.1
    have X4 := Lib.hid (X3.out.kept hG.2.2.1)
    have B4 := Lib.hid (B3.out.trans (hG.2.2.1.mono B3.out.size))
    have ne1 := Lib.hid (show n ≠ w1.heap.size by have := X3.out.lt; have := hG.2.2.2.1; omega)
    have ne2 := Lib.hid (show m ≠ w1.heap.size by have := X3.out.lt; have := hG.2.2.2.2; omega)
    have n5 := X4.out.at 5 ((stL_is _ _).reg 5 (by decide))
    have f5 := X4.out.fz 5 (by rw [(stL_is _ _).size]; decide)
    clear hG
    simp only [Act.put, List.setIfInBounds_toArray, List.set_cons_zero, List.set_cons_succ]
    go_wp2_with fail
    have X5 := Lib.hid (X4.out.put 5 (by rw [(stL_is _ _).size]; decide) (.int .u32 0))
    rw [show (stL (rs a b) 0).set 5 (.int .u32 0) = stL (rs a b) 0 from rfl] at X5
    have T5 := Lib.hid (T4.out.putApart ne1.out 5 (.int .u32 0))
    have U5 := Lib.hid (U4.out.putApart ne2.out 5 (.int .u32 0))
    have B5 := Lib.hid (B4.out.setCell (p := ⟨w1.heap.size, 5, none⟩) B1.out.size (.int .u32 0))
    clear n5 f5 X4 T4 U4 B4
    generalize w4.setCell ⟨w1.heap.size, 5, none⟩ (.int .u32 0) = w5 at *
    refine wp_cut (fun q n m g => ((((((((((q.put (some 37) (.agg (stL (rs a b) 0).toArray)).put (some 38) (.slice (some ⟨g, 0, none⟩) 8 8)).put (some 39) (.tuple #[.agg (stL R2 Q2).toArray, .agg #[.int .i64 11, .int .i64 0, .int .u32 0, .int .u32 0], .int .i64 k2])).put (some 36) (.tuple #[.agg (stL R2 Q2).toArray, .agg #[.int .i64 11, .int .i64 0, .int .u32 0, .int .u32 0], .int .i64 k2])).put (some 40) (.agg (stL R2 Q2).toArray)).put (some 41) (.agg #[.int .i64 11, .int .i64 0, .int .u32 0, .int .u32 0])).put (some 42) (.int .i64 k2)).put (some 9) (.pointer (some ⟨n, 0, none⟩))).put (some 10) (.pointer (some ⟨m, 0, none⟩))).put (some 11) (.int .i64 k2))) (fun n m w' => Box w' n (stL R2 Q2) ∧ Box w' m [.int .i64 11, .int .i64 0, .int .u32 0, .int .u32 0] ∧ Below w5.heap.size w5 w' ∧ w5.heap.size ≤ n ∧ w5.heap.size ≤ m) ?_ ?_
    · refine wp_region_held_drew (S := fun w' => Box w' w1.heap.size (stL (rs a b) 0)) (by kernel_rfl) X5.out.drew (fun _ => ?_)
      have D0 := Lib.hid ((Below.refl w5.heap.size w5).drew)
      generalize w5.drew = u0 at *
      refine wpAnyH_take (i := 0) (oi := ⟨some 37, .load 25 (.tmp 5), _, _, _, _⟩) rfl (by kernel_rfl) (by kernel_rfl) (by kernel_rfl) (fun _ _ _ h => absurd h.1 (by simp)) (yieldsIf_load_mid (by rfl) _ _ rfl _ _ rfl _ _ (fun _ h => h.range) Tryd.underlying25 rfl (stL_inf _ _)) (X5.out.kept D0.out) ?_
      simp only [Act.put, List.setIfInBounds_toArray, List.set_cons_zero, List.set_cons_succ]
      refine wpAnyH_ready (rs := [1, 7, 8]) (by kernel_rfl) (by simp) ?_
      refine AllReadyH.cons (o := ⟨some 38, .call _, _, _, _, _⟩) rfl (fun K hK => ?_) ?_
      · go_simp
        refine (code_T P2 _ _ (HE.out.kept (B5.out.trans (D0.out.mono B5.out.size))) p2_s (by decide) P2_right).mono ?_
        rintro e u1 ⟨g, rfl, hc, hb⟩
        rw [show 4 * P2.length = 8 from rfl]
        have Cu1 := Lib.hid (show CodeIn u1 (some ⟨g, 0, none⟩) 8 (zT P2) from hc)
        have Du1 := Lib.hid (D0.out.trans (hb.mono D0.out.size))
        refine hK.out _ _ (X5.out.kept Du1.out) (fun _ => ?_)
        clear hK K hb hc
        refine wpAnyH_ready (rs := [2, 7, 8]) (by kernel_rfl) (by simp) ?_
        refine AllReadyH.cons (o := ⟨some 39, .call _, _, _, _, _⟩) rfl (fun K hK => ?_) ?_
        · go_simp
          refine (run_mul a b g u1 ha1 ha2 HB.out (HE.out.kept (B5.out.trans (Du1.out.mono B5.out.size))) Cu1.out).mono ?_
          rw [HV2.out]
          rintro e u2 ⟨rfl, hb⟩
          have Du2 := Lib.hid (Du1.out.trans (hb.mono Du1.out.size))
          refine hK.out _ _ (X5.out.kept Du2.out) (fun _ => ?_)
          clear hK K hb
          refine wpAnyH_take (i := 3) (oi := ⟨some 36, .move (.tmp 39), _, _, _, _⟩) (v := (.tuple #[.agg (stL R2 Q2).toArray, .agg #[.int .i64 11, .int .i64 0, .int .u32 0, .int .u32 0], .int .i64 k2])) rfl (by kernel_rfl) (by kernel_rfl) (by kernel_rfl) (fun _ _ _ h => absurd h.1 (by simp)) (Or.inl ⟨by rfl, fun _ _ => rfl⟩) (X5.out.kept Du2.out) ?_
          refine wpAnyH_take (i := 4) (oi := ⟨some 40, .extract (.tmp 36) 0, _, _, _, _⟩) (v := .agg (stL R2 Q2).toArray) rfl (by kernel_rfl) (by kernel_rfl) (by kernel_rfl) (fun _ _ _ h => absurd h.1 (by simp)) (Or.inl ⟨by rfl, fun _ _ => rfl⟩) (X5.out.kept Du2.out) ?_
          refine wpAnyH_take (i := 5) (oi := ⟨some 41, .extract (.tmp 36) 1, _, _, _, _⟩) (v := .agg #[.int .i64 11, .int .i64 0, .int .u32 0, .int .u32 0]) rfl (by kernel_rfl) (by kernel_rfl) (by kernel_rfl) (fun _ _ _ h => absurd h.1 (by simp)) (Or.inl ⟨by rfl, fun _ _ => rfl⟩) (X5.out.kept Du2.out) ?_
          refine wpAnyH_take (i := 6) (oi := ⟨some 42, .extract (.tmp 36) 2, _, _, _, _⟩) (v := .int .i64 k2) rfl (by kernel_rfl) (by kernel_rfl) (by kernel_rfl) (fun _ _ _ h => absurd h.1 (by simp)) (Or.inl ⟨by rfl, fun _ _ => rfl⟩) (X5.out.kept Du2.out) ?_
          simp only [Act.put, List.setIfInBounds_toArray, List.set_cons_zero, List.set_cons_succ]
          refine wpAnyH_ready (rs := [7, 8]) (by kernel_rfl) (by simp) ?_
          refine AllReadyH.cons (o := ⟨some 9, .alloc 25, _, _, _, _⟩) rfl (fun K hK => ?_) ?_
          · go_simp
            have A6u3 := Lib.hid (zeroBox u2)
            have sA6u3 := Lib.hid Du2.out.size
            have Cu3 := Lib.hid (Cu1.out.kept ((Below.refl _ _).alloc (Nat.le_refl _) (.cells #[.int .u32 0, .int .u32 0, .int .u32 0, .int .u32 0, .int .u32 0, .int .u32 0, .int .u32 0, .int .u32 0, .int .u32 0, .int .u32 0, .int .u32 0, .int .u32 0, .int .u32 0, .int .u32 0, .int .u32 0, .int .u32 0, .int .u32 0] 25)))
            have Du3 := Lib.hid (Du2.out.alloc Du2.out.size (.cells #[.int .u32 0, .int .u32 0, .int .u32 0, .int .u32 0, .int .u32 0, .int .u32 0, .int .u32 0, .int .u32 0, .int .u32 0, .int .u32 0, .int .u32 0, .int .u32 0, .int .u32 0, .int .u32 0, .int .u32 0, .int .u32 0, .int .u32 0] 25))
            refine hK.out _ _ (X5.out.kept Du3.out) (fun _ => ?_)
            clear hK K
            generalize u2.alloc (.cells #[.int .u32 0, .int .u32 0, .int .u32 0, .int .u32 0, .int .u32 0, .int .u32 0, .int .u32 0, .int .u32 0, .int .u32 0, .int .u32 0, .int .u32 0, .int .u32 0, .int .u32 0, .int .u32 0, .int .u32 0, .int .u32 0, .int .u32 0] 25) = u3 at *
            refine wpAnyH_ready (rs := [8]) (by kernel_rfl) (by simp) ?_
            refine AllReadyH.cons (o := ⟨some 10, .alloc 28, _, _, _, _⟩) rfl (fun K hK => ?_) ?_
            · go_simp
              have A7u4 := Lib.hid (zeroE u3)
              have sA7u4 := Lib.hid Du3.out.size
              have lu4 := Lib.hid A6u3.out.lt
              have A6u4 := Lib.hid (A6u3.out.box (.cells #[.int .i64 0, .int .i64 0, .int .u32 0, .int .u32 0] 28))
              have Cu4 := Lib.hid (Cu3.out.kept ((Below.refl _ _).alloc (Nat.le_refl _) (.cells #[.int .i64 0, .int .i64 0, .int .u32 0, .int .u32 0] 28)))
              have Du4 := Lib.hid (Du3.out.alloc Du3.out.size (.cells #[.int .i64 0, .int .i64 0, .int .u32 0, .int .u32 0] 28))
              refine hK.out _ _ (X5.out.kept Du4.out) (fun _ => ?_)
              clear hK K
              generalize u3.alloc (.cells #[.int .i64 0, .int .i64 0, .int .u32 0, .int .u32 0] 28) = u4 at *
              have y5 := X5.out.lt
              have y6 := sA6u3.out
              have y7 := sA7u4.out
              have y8 := lu4.out
              refine wpAnyH_ready (rs := [9]) (by kernel_rfl) (by simp) ?_
              refine AllReadyH.cons (o := ⟨none, .store 25 (.tmp 9) (.tmp 40), _, _, _, _⟩) rfl (fun K hK => ?_) AllReadyH.nil
              rw [if_pos (by rfl)]
              refine so_store (.tmp 9) (.tmp 40) u2.heap.size (stL (fun _ => 0) 0) (stL R2 Q2) rfl rfl rfl A6u4.out (stL_len _ _ _ _) (stL_inf _ _) (stL_is _ _).one ?_
              have T9 := Lib.hid (A6u4.out.stored (l' := (stL R2 Q2)) (stL_len _ _ _ _))
              have U9 := Lib.hid (A7u4.out.apart (b' := u2.heap.size) (by omega) (stL R2 Q2))
              have D9 := Lib.hid (below_setCells (b := u2.heap.size) (stL R2 Q2) 0 _ Du4.out y6)
              refine hK.out _ _ (X5.out.kept D9.out) (fun _ => ?_)
              clear hK K
              simp only [Act.put]
              generalize (u4.setCells u2.heap.size 0 (stL R2 Q2)) = v9 at *
              refine wpAnyH_ready (rs := [10]) (by kernel_rfl) (by simp) ?_
              refine AllReadyH.cons (o := ⟨none, .store 28 (.tmp 10) (.tmp 41), _, _, _, _⟩) rfl (fun K hK => ?_) AllReadyH.nil
              rw [if_pos (by rfl)]
              refine so_store (.tmp 10) (.tmp 41) u3.heap.size _ [.int .i64 11, .int .i64 0, .int .u32 0, .int .u32 0] rfl rfl rfl U9.out rfl (by kernel_rfl) (one4 _ _ _ _) ?_
              have T10 := Lib.hid (T9.out.apart (b' := u3.heap.size) (by omega) [.int .i64 11, .int .i64 0, .int .u32 0, .int .u32 0])
              have U10 := Lib.hid (U9.out.stored (l' := [.int .i64 11, .int .i64 0, .int .u32 0, .int .u32 0]) rfl)
              have D10 := Lib.hid (below_setCells (b := u3.heap.size) [.int .i64 11, .int .i64 0, .int .u32 0, .int .u32 0] 0 _ D9.out y7)
              refine hK.out _ _ (X5.out.kept D10.out) (fun _ => ?_)
              clear hK K
              simp only [Act.put]
              generalize (v9.setCells u3.heap.size 0 [.int .i64 11, .int .i64 0, .int .u32 0, .int .u32 0]) = v10 at *
              refine wpAnyH_ready (rs := [11]) (by kernel_rfl) (by simp) ?_
              refine AllReadyH.cons (o := ⟨some 11, .assign (.tmp 42), _, _, _, _⟩) rfl (fun K hK => ?_) AllReadyH.nil
              go_simp
              refine hK.out _ _ (X5.out.kept D10.out) (fun _ => ?_)
              clear hK K
              refine wpAnyH_done (by kernel_rfl) ?_ _
              exact ⟨rfl, u2.heap.size, u3.heap.size, g, rfl, T10.out, U10.out, D10.out, y6, y7⟩
            exact AllReadyH.nil
          refine AllReadyH.cons (o := ⟨some 10, .alloc 28, _, _, _, _⟩) rfl (fun K hK => ?_) ?_
          · go_simp
            have A7u5 := Lib.hid (zeroE u2)
            have sA7u5 := Lib.hid Du2.out.size
            have Cu5 := Lib.hid (Cu1.out.kept ((Below.refl _ _).alloc (Nat.le_refl _) (.cells #[.int .i64 0, .int .i64 0, .int .u32 0, .int .u32 0] 28)))
            have Du5 := Lib.hid (Du2.out.alloc Du2.out.size (.cells #[.int .i64 0, .int .i64 0, .int .u32 0, .int .u32 0] 28))
            refine hK.out _ _ (X5.out.kept Du5.out) (fun _ => ?_)
            clear hK K
            generalize u2.alloc (.cells #[.int .i64 0, .int .i64 0, .int .u32 0, .int .u32 0] 28) = u5 at *
            refine wpAnyH_ready (rs := [7]) (by kernel_rfl) (by simp) ?_
            refine AllReadyH.cons (o := ⟨some 9, .alloc 25, _, _, _, _⟩) rfl (fun K hK => ?_) ?_
            · go_simp
              have A6u6 := Lib.hid (zeroBox u5)
              have sA6u6 := Lib.hid Du5.out.size
              have lu6 := Lib.hid A7u5.out.lt
              have A7u6 := Lib.hid (A7u5.out.box (.cells #[.int .u32 0, .int .u32 0, .int .u32 0, .int .u32 0, .int .u32 0, .int .u32 0, .int .u32 0, .int .u32 0, .int .u32 0, .int .u32 0, .int .u32 0, .int .u32 0, .int .u32 0, .int .u32 0, .int .u32 0, .int .u32 0, .int .u32 0] 25))
              have Cu6 := Lib.hid (Cu5.out.kept ((Below.refl _ _).alloc (Nat.le_refl _) (.cells #[.int .u32 0, .int .u32 0, .int .u32 0, .int .u32 0, .int .u32 0, .int .u32 0, .int .u32 0, .int .u32 0, .int .u32 0, .int .u32 0, .int .u32 0, .int .u32 0, .int .u32 0, .int .u32 0, .int .u32 0, .int .u32 0, .int .u32 0] 25)))
              have Du6 := Lib.hid (Du5.out.alloc Du5.out.size (.cells #[.int .u32 0, .int .u32 0, .int .u32 0, .int .u32 0, .int .u32 0, .int .u32 0, .int .u32 0, .int .u32 0, .int .u32 0, .int .u32 0, .int .u32 0, .int .u32 0, .int .u32 0, .int .u32 0, .int .u32 0, .int .u32 0, .int .u32 0] 25))
              refine hK.out _ _ (X5.out.kept Du6.out) (fun _ => ?_)
              clear hK K
              generalize u5.alloc (.cells #[.int .u32 0, .int .u32 0, .int .u32 0, .int .u32 0, .int .u32 0, .int .u32 0, .int .u32 0, .int .u32 0, .int .u32 0, .int .u32 0, .int .u32 0, .int .u32 0, .int .u32 0, .int .u32 0, .int .u32 0, .int .u32 0, .int .u32 0] 25) = u6 at *
              have y5 := X5.out.lt
              have y6 := sA6u6.out
              have y7 := sA7u5.out
              have y8 := lu6.out
              refine wpAnyH_ready (rs := [9]) (by kernel_rfl) (by simp) ?_
              refine AllReadyH.cons (o := ⟨none, .store 25 (.tmp 9) (.tmp 40), _, _, _, _⟩) rfl (fun K hK => ?_) AllReadyH.nil
              rw [if_pos (by rfl)]
              refine so_store (.tmp 9) (.tmp 40) u5.heap.size (stL (fun _ => 0) 0) (stL R2 Q2) rfl rfl rfl A6u6.out (stL_len _ _ _ _) (stL_inf _ _) (stL_is _ _).one ?_
              have T9 := Lib.hid (A6u6.out.stored (l' := (stL R2 Q2)) (stL_len _ _ _ _))
              have U9 := Lib.hid (A7u6.out.apart (b' := u5.heap.size) (by omega) (stL R2 Q2))
              have D9 := Lib.hid (below_setCells (b := u5.heap.size) (stL R2 Q2) 0 _ Du6.out y6)
              refine hK.out _ _ (X5.out.kept D9.out) (fun _ => ?_)
              clear hK K
              simp only [Act.put]
              generalize (u6.setCells u5.heap.size 0 (stL R2 Q2)) = v9 at *
              refine wpAnyH_ready (rs := [10]) (by kernel_rfl) (by simp) ?_
              refine AllReadyH.cons (o := ⟨none, .store 28 (.tmp 10) (.tmp 41), _, _, _, _⟩) rfl (fun K hK => ?_) AllReadyH.nil
              rw [if_pos (by rfl)]
              refine so_store (.tmp 10) (.tmp 41) u2.heap.size _ [.int .i64 11, .int .i64 0, .int .u32 0, .int .u32 0] rfl rfl rfl U9.out rfl (by kernel_rfl) (one4 _ _ _ _) ?_
              have T10 := Lib.hid (T9.out.apart (b' := u2.heap.size) (by omega) [.int .i64 11, .int .i64 0, .int .u32 0, .int .u32 0])
              have U10 := Lib.hid (U9.out.stored (l' := [.int .i64 11, .int .i64 0, .int .u32 0, .int .u32 0]) rfl)
              have D10 := Lib.hid (below_setCells (b := u2.heap.size) [.int .i64 11, .int .i64 0, .int .u32 0, .int .u32 0] 0 _ D9.out y7)
              refine hK.out _ _ (X5.out.kept D10.out) (fun _ => ?_)
              clear hK K
              simp only [Act.put]
              generalize (v9.setCells u2.heap.size 0 [.int .i64 11, .int .i64 0, .int .u32 0, .int .u32 0]) = v10 at *
              refine wpAnyH_ready (rs := [11]) (by kernel_rfl) (by simp) ?_
              refine AllReadyH.cons (o := ⟨some 11, .assign (.tmp 42), _, _, _, _⟩) rfl (fun K hK => ?_) AllReadyH.nil
              go_simp
              refine hK.out _ _ (X5.out.kept D10.out) (fun _ => ?_)
              clear hK K
              refine wpAnyH_done (by kernel_rfl) ?_ _
              exact ⟨rfl, u5.heap.size, u2.heap.size, g, rfl, T10.out, U10.out, D10.out, y6, y7⟩
            exact AllReadyH.nil
          exact AllReadyH.nil
        refine AllReadyH.cons (o := ⟨some 9, .alloc 25, _, _, _, _⟩) rfl (fun K hK => ?_) ?_
        · go_simp
          have A6u7 := Lib.hid (zeroBox u1)
          have sA6u7 := Lib.hid Du1.out.size
          have Cu7 := Lib.hid (Cu1.out.kept ((Below.refl _ _).alloc (Nat.le_refl _) (.cells #[.int .u32 0, .int .u32 0, .int .u32 0, .int .u32 0, .int .u32 0, .int .u32 0, .int .u32 0, .int .u32 0, .int .u32 0, .int .u32 0, .int .u32 0, .int .u32 0, .int .u32 0, .int .u32 0, .int .u32 0, .int .u32 0, .int .u32 0] 25)))
          have Du7 := Lib.hid (Du1.out.alloc Du1.out.size (.cells #[.int .u32 0, .int .u32 0, .int .u32 0, .int .u32 0, .int .u32 0, .int .u32 0, .int .u32 0, .int .u32 0, .int .u32 0, .int .u32 0, .int .u32 0, .int .u32 0, .int .u32 0, .int .u32 0, .int .u32 0, .int .u32 0, .int .u32 0] 25))
          refine hK.out _ _ (X5.out.kept Du7.out) (fun _ => ?_)
          clear hK K
          generalize u1.alloc (.cells #[.int .u32 0, .int .u32 0, .int .u32 0, .int .u32 0, .int .u32 0, .int .u32 0, .int .u32 0, .int .u32 0, .int .u32 0, .int .u32 0, .int .u32 0, .int .u32 0, .int .u32 0, .int .u32 0, .int .u32 0, .int .u32 0, .int .u32 0] 25) = u7 at *
          refine wpAnyH_ready (rs := [2, 8]) (by kernel_rfl) (by simp) ?_
          refine AllReadyH.cons (o := ⟨some 39, .call _, _, _, _, _⟩) rfl (fun K hK => ?_) ?_
          · go_simp
            refine (run_mul a b g u7 ha1 ha2 HB.out (HE.out.kept (B5.out.trans (Du7.out.mono B5.out.size))) Cu7.out).mono ?_
            rw [HV2.out]
            rintro e u8 ⟨rfl, hb⟩
            have Du8 := Lib.hid (Du7.out.trans (hb.mono Du7.out.size))
            have A6u8 := Lib.hid (A6u7.out.kept hb)
            refine hK.out _ _ (X5.out.kept Du8.out) (fun _ => ?_)
            clear hK K hb
            refine wpAnyH_take (i := 3) (oi := ⟨some 36, .move (.tmp 39), _, _, _, _⟩) (v := (.tuple #[.agg (stL R2 Q2).toArray, .agg #[.int .i64 11, .int .i64 0, .int .u32 0, .int .u32 0], .int .i64 k2])) rfl (by kernel_rfl) (by kernel_rfl) (by kernel_rfl) (fun _ _ _ h => absurd h.1 (by simp)) (Or.inl ⟨by rfl, fun _ _ => rfl⟩) (X5.out.kept Du8.out) ?_
            refine wpAnyH_take (i := 4) (oi := ⟨some 40, .extract (.tmp 36) 0, _, _, _, _⟩) (v := .agg (stL R2 Q2).toArray) rfl (by kernel_rfl) (by kernel_rfl) (by kernel_rfl) (fun _ _ _ h => absurd h.1 (by simp)) (Or.inl ⟨by rfl, fun _ _ => rfl⟩) (X5.out.kept Du8.out) ?_
            refine wpAnyH_take (i := 5) (oi := ⟨some 41, .extract (.tmp 36) 1, _, _, _, _⟩) (v := .agg #[.int .i64 11, .int .i64 0, .int .u32 0, .int .u32 0]) rfl (by kernel_rfl) (by kernel_rfl) (by kernel_rfl) (fun _ _ _ h => absurd h.1 (by simp)) (Or.inl ⟨by rfl, fun _ _ => rfl⟩) (X5.out.kept Du8.out) ?_
            refine wpAnyH_take (i := 6) (oi := ⟨some 42, .extract (.tmp 36) 2, _, _, _, _⟩) (v := .int .i64 k2) rfl (by kernel_rfl) (by kernel_rfl) (by kernel_rfl) (fun _ _ _ h => absurd h.1 (by simp)) (Or.inl ⟨by rfl, fun _ _ => rfl⟩) (X5.out.kept Du8.out) ?_
            simp only [Act.put, List.setIfInBounds_toArray, List.set_cons_zero, List.set_cons_succ]
            refine wpAnyH_ready (rs := [8]) (by kernel_rfl) (by simp) ?_
            refine AllReadyH.cons (o := ⟨some 10, .alloc 28, _, _, _, _⟩) rfl (fun K hK => ?_) ?_
            · go_simp
              have A7u9 := Lib.hid (zeroE u8)
              have sA7u9 := Lib.hid Du8.out.size
              have lu9 := Lib.hid A6u8.out.lt
              have A6u9 := Lib.hid (A6u8.out.box (.cells #[.int .i64 0, .int .i64 0, .int .u32 0, .int .u32 0] 28))
              have Cu9 := Lib.hid (Cu7.out.kept ((Below.refl _ _).alloc (Nat.le_refl _) (.cells #[.int .i64 0, .int .i64 0, .int .u32 0, .int .u32 0] 28)))
              have Du9 := Lib.hid (Du8.out.alloc Du8.out.size (.cells #[.int .i64 0, .int .i64 0, .int .u32 0, .int .u32 0] 28))
              refine hK.out _ _ (X5.out.kept Du9.out) (fun _ => ?_)
              clear hK K
              generalize u8.alloc (.cells #[.int .i64 0, .int .i64 0, .int .u32 0, .int .u32 0] 28) = u9 at *
              have y5 := X5.out.lt
              have y6 := sA6u7.out
              have y7 := sA7u9.out
              have y8 := lu9.out
              refine wpAnyH_ready (rs := [9]) (by kernel_rfl) (by simp) ?_
              refine AllReadyH.cons (o := ⟨none, .store 25 (.tmp 9) (.tmp 40), _, _, _, _⟩) rfl (fun K hK => ?_) AllReadyH.nil
              rw [if_pos (by rfl)]
              refine so_store (.tmp 9) (.tmp 40) u1.heap.size (stL (fun _ => 0) 0) (stL R2 Q2) rfl rfl rfl A6u9.out (stL_len _ _ _ _) (stL_inf _ _) (stL_is _ _).one ?_
              have T9 := Lib.hid (A6u9.out.stored (l' := (stL R2 Q2)) (stL_len _ _ _ _))
              have U9 := Lib.hid (A7u9.out.apart (b' := u1.heap.size) (by omega) (stL R2 Q2))
              have D9 := Lib.hid (below_setCells (b := u1.heap.size) (stL R2 Q2) 0 _ Du9.out y6)
              refine hK.out _ _ (X5.out.kept D9.out) (fun _ => ?_)
              clear hK K
              simp only [Act.put]
              generalize (u9.setCells u1.heap.size 0 (stL R2 Q2)) = v9 at *
              refine wpAnyH_ready (rs := [10]) (by kernel_rfl) (by simp) ?_
              refine AllReadyH.cons (o := ⟨none, .store 28 (.tmp 10) (.tmp 41), _, _, _, _⟩) rfl (fun K hK => ?_) AllReadyH.nil
              rw [if_pos (by rfl)]
              refine so_store (.tmp 10) (.tmp 41) u8.heap.size _ [.int .i64 11, .int .i64 0, .int .u32 0, .int .u32 0] rfl rfl rfl U9.out rfl (by kernel_rfl) (one4 _ _ _ _) ?_
              have T10 := Lib.hid (T9.out.apart (b' := u8.heap.size) (by omega) [.int .i64 11, .int .i64 0, .int .u32 0, .int .u32 0])
              have U10 := Lib.hid (U9.out.stored (l' := [.int .i64 11, .int .i64 0, .int .u32 0, .int .u32 0]) rfl)
              have D10 := Lib.hid (below_setCells (b := u8.heap.size) [.int .i64 11, .int .i64 0, .int .u32 0, .int .u32 0] 0 _ D9.out y7)
              refine hK.out _ _ (X5.out.kept D10.out) (fun _ => ?_)
              clear hK K
              simp only [Act.put]
              generalize (v9.setCells u8.heap.size 0 [.int .i64 11, .int .i64 0, .int .u32 0, .int .u32 0]) = v10 at *
              refine wpAnyH_ready (rs := [11]) (by kernel_rfl) (by simp) ?_
              refine AllReadyH.cons (o := ⟨some 11, .assign (.tmp 42), _, _, _, _⟩) rfl (fun K hK => ?_) AllReadyH.nil
              go_simp
              refine hK.out _ _ (X5.out.kept D10.out) (fun _ => ?_)
              clear hK K
              refine wpAnyH_done (by kernel_rfl) ?_ _
              exact ⟨rfl, u1.heap.size, u8.heap.size, g, rfl, T10.out, U10.out, D10.out, y6, y7⟩
            exact AllReadyH.nil
          refine AllReadyH.cons (o := ⟨some 10, .alloc 28, _, _, _, _⟩) rfl (fun K hK => ?_) ?_
          · go_simp
            have A7u10 := Lib.hid (zeroE u7)
            have sA7u10 := Lib.hid Du7.out.size
            have lu10 := Lib.hid A6u7.out.lt
            have A6u10 := Lib.hid (A6u7.out.box (.cells #[.int .i64 0, .int .i64 0, .int .u32 0, .int .u32 0] 28))
            have Cu10 := Lib.hid (Cu7.out.kept ((Below.refl _ _).alloc (Nat.le_refl _) (.cells #[.int .i64 0, .int .i64 0, .int .u32 0, .int .u32 0] 28)))
            have Du10 := Lib.hid (Du7.out.alloc Du7.out.size (.cells #[.int .i64 0, .int .i64 0, .int .u32 0, .int .u32 0] 28))
            refine hK.out _ _ (X5.out.kept Du10.out) (fun _ => ?_)
            clear hK K
            generalize u7.alloc (.cells #[.int .i64 0, .int .i64 0, .int .u32 0, .int .u32 0] 28) = u10 at *
            refine wpAnyH_ready (rs := [2]) (by kernel_rfl) (by simp) ?_
            refine AllReadyH.cons (o := ⟨some 39, .call _, _, _, _, _⟩) rfl (fun K hK => ?_) ?_
            · go_simp
              refine (run_mul a b g u10 ha1 ha2 HB.out (HE.out.kept (B5.out.trans (Du10.out.mono B5.out.size))) Cu10.out).mono ?_
              rw [HV2.out]
              rintro e u11 ⟨rfl, hb⟩
              have Du11 := Lib.hid (Du10.out.trans (hb.mono Du10.out.size))
              have A6u11 := Lib.hid (A6u10.out.kept hb)
              have A7u11 := Lib.hid (A7u10.out.kept hb)
              refine hK.out _ _ (X5.out.kept Du11.out) (fun _ => ?_)
              clear hK K hb
              refine wpAnyH_take (i := 3) (oi := ⟨some 36, .move (.tmp 39), _, _, _, _⟩) (v := (.tuple #[.agg (stL R2 Q2).toArray, .agg #[.int .i64 11, .int .i64 0, .int .u32 0, .int .u32 0], .int .i64 k2])) rfl (by kernel_rfl) (by kernel_rfl) (by kernel_rfl) (fun _ _ _ h => absurd h.1 (by simp)) (Or.inl ⟨by rfl, fun _ _ => rfl⟩) (X5.out.kept Du11.out) ?_
              refine wpAnyH_take (i := 4) (oi := ⟨some 40, .extract (.tmp 36) 0, _, _, _, _⟩) (v := .agg (stL R2 Q2).toArray) rfl (by kernel_rfl) (by kernel_rfl) (by kernel_rfl) (fun _ _ _ h => absurd h.1 (by simp)) (Or.inl ⟨by rfl, fun _ _ => rfl⟩) (X5.out.kept Du11.out) ?_
              refine wpAnyH_take (i := 5) (oi := ⟨some 41, .extract (.tmp 36) 1, _, _, _, _⟩) (v := .agg #[.int .i64 11, .int .i64 0, .int .u32 0, .int .u32 0]) rfl (by kernel_rfl) (by kernel_rfl) (by kernel_rfl) (fun _ _ _ h => absurd h.1 (by simp)) (Or.inl ⟨by rfl, fun _ _ => rfl⟩) (X5.out.kept Du11.out) ?_
              refine wpAnyH_take (i := 6) (oi := ⟨some 42, .extract (.tmp 36) 2, _, _, _, _⟩) (v := .int .i64 k2) rfl (by kernel_rfl) (by kernel_rfl) (by kernel_rfl) (fun _ _ _ h => absurd h.1 (by simp)) (Or.inl ⟨by rfl, fun _ _ => rfl⟩) (X5.out.kept Du11.out) ?_
              simp only [Act.put, List.setIfInBounds_toArray, List.set_cons_zero, List.set_cons_succ]
              have y5 := X5.out.lt
              have y6 := sA6u7.out
              have y7 := sA7u10.out
              have y8 := lu10.out
              refine wpAnyH_ready (rs := [9]) (by kernel_rfl) (by simp) ?_
              refine AllReadyH.cons (o := ⟨none, .store 25 (.tmp 9) (.tmp 40), _, _, _, _⟩) rfl (fun K hK => ?_) AllReadyH.nil
              rw [if_pos (by rfl)]
              refine so_store (.tmp 9) (.tmp 40) u1.heap.size (stL (fun _ => 0) 0) (stL R2 Q2) rfl rfl rfl A6u11.out (stL_len _ _ _ _) (stL_inf _ _) (stL_is _ _).one ?_
              have T9 := Lib.hid (A6u11.out.stored (l' := (stL R2 Q2)) (stL_len _ _ _ _))
              have U9 := Lib.hid (A7u11.out.apart (b' := u1.heap.size) (by omega) (stL R2 Q2))
              have D9 := Lib.hid (below_setCells (b := u1.heap.size) (stL R2 Q2) 0 _ Du11.out y6)
              refine hK.out _ _ (X5.out.kept D9.out) (fun _ => ?_)
              clear hK K
              simp only [Act.put]
              generalize (u11.setCells u1.heap.size 0 (stL R2 Q2)) = v9 at *
              refine wpAnyH_ready (rs := [10]) (by kernel_rfl) (by simp) ?_
              refine AllReadyH.cons (o := ⟨none, .store 28 (.tmp 10) (.tmp 41), _, _, _, _⟩) rfl (fun K hK => ?_) AllReadyH.nil
              rw [if_pos (by rfl)]
              refine so_store (.tmp 10) (.tmp 41) u7.heap.size _ [.int .i64 11, .int .i64 0, .int .u32 0, .int .u32 0] rfl rfl rfl U9.out rfl (by kernel_rfl) (one4 _ _ _ _) ?_
              have T10 := Lib.hid (T9.out.apart (b' := u7.heap.size) (by omega) [.int .i64 11, .int .i64 0, .int .u32 0, .int .u32 0])
              have U10 := Lib.hid (U9.out.stored (l' := [.int .i64 11, .int .i64 0, .int .u32 0, .int .u32 0]) rfl)
              have D10 := Lib.hid (below_setCells (b := u7.heap.size) [.int .i64 11, .int .i64 0, .int .u32 0, .int .u32 0] 0 _ D9.out y7)
              refine hK.out _ _ (X5.out.kept D10.out) (fun _ => ?_)
              clear hK K
              simp only [Act.put]
              generalize (v9.setCells u7.heap.size 0 [.int .i64 11, .int .i64 0, .int .u32 0, .int .u32 0]) = v10 at *
              refine wpAnyH_ready (rs := [11]) (by kernel_rfl) (by simp) ?_
              refine AllReadyH.cons (o := ⟨some 11, .assign (.tmp 42), _, _, _, _⟩) rfl (fun K hK => ?_) AllReadyH.nil
              go_simp
              refine hK.out _ _ (X5.out.kept D10.out) (fun _ => ?_)
              clear hK K
              refine wpAnyH_done (by kernel_rfl) ?_ _
              exact ⟨rfl, u1.heap.size, u7.heap.size, g, rfl, T10.out, U10.out, D10.out, y6, y7⟩
            exact AllReadyH.nil
          exact AllReadyH.nil
        refine AllReadyH.cons (o := ⟨some 10, .alloc 28, _, _, _, _⟩) rfl (fun K hK => ?_) ?_
        · go_simp
          have A7u12 := Lib.hid (zeroE u1)
          have sA7u12 := Lib.hid Du1.out.size
          have Cu12 := Lib.hid (Cu1.out.kept ((Below.refl _ _).alloc (Nat.le_refl _) (.cells #[.int .i64 0, .int .i64 0, .int .u32 0, .int .u32 0] 28)))
          have Du12 := Lib.hid (Du1.out.alloc Du1.out.size (.cells #[.int .i64 0, .int .i64 0, .int .u32 0, .int .u32 0] 28))
          refine hK.out _ _ (X5.out.kept Du12.out) (fun _ => ?_)
          clear hK K
          generalize u1.alloc (.cells #[.int .i64 0, .int .i64 0, .int .u32 0, .int .u32 0] 28) = u12 at *
          refine wpAnyH_ready (rs := [2, 7]) (by kernel_rfl) (by simp) ?_
          refine AllReadyH.cons (o := ⟨some 39, .call _, _, _, _, _⟩) rfl (fun K hK => ?_) ?_
          · go_simp
            refine (run_mul a b g u12 ha1 ha2 HB.out (HE.out.kept (B5.out.trans (Du12.out.mono B5.out.size))) Cu12.out).mono ?_
            rw [HV2.out]
            rintro e u13 ⟨rfl, hb⟩
            have Du13 := Lib.hid (Du12.out.trans (hb.mono Du12.out.size))
            have A7u13 := Lib.hid (A7u12.out.kept hb)
            refine hK.out _ _ (X5.out.kept Du13.out) (fun _ => ?_)
            clear hK K hb
            refine wpAnyH_take (i := 3) (oi := ⟨some 36, .move (.tmp 39), _, _, _, _⟩) (v := (.tuple #[.agg (stL R2 Q2).toArray, .agg #[.int .i64 11, .int .i64 0, .int .u32 0, .int .u32 0], .int .i64 k2])) rfl (by kernel_rfl) (by kernel_rfl) (by kernel_rfl) (fun _ _ _ h => absurd h.1 (by simp)) (Or.inl ⟨by rfl, fun _ _ => rfl⟩) (X5.out.kept Du13.out) ?_
            refine wpAnyH_take (i := 4) (oi := ⟨some 40, .extract (.tmp 36) 0, _, _, _, _⟩) (v := .agg (stL R2 Q2).toArray) rfl (by kernel_rfl) (by kernel_rfl) (by kernel_rfl) (fun _ _ _ h => absurd h.1 (by simp)) (Or.inl ⟨by rfl, fun _ _ => rfl⟩) (X5.out.kept Du13.out) ?_
            refine wpAnyH_take (i := 5) (oi := ⟨some 41, .extract (.tmp 36) 1, _, _, _, _⟩) (v := .agg #[.int .i64 11, .int .i64 0, .int .u32 0, .int .u32 0]) rfl (by kernel_rfl) (by kernel_rfl) (by kernel_rfl) (fun _ _ _ h => absurd h.1 (by simp)) (Or.inl ⟨by rfl, fun _ _ => rfl⟩) (X5.out.kept Du13.out) ?_
            refine wpAnyH_take (i := 6) (oi := ⟨some 42, .extract (.tmp 36) 2, _, _, _, _⟩) (v := .int .i64 k2) rfl (by kernel_rfl) (by kernel_rfl) (by kernel_rfl) (fun _ _ _ h => absurd h.1 (by simp)) (Or.inl ⟨by rfl, fun _ _ => rfl⟩) (X5.out.kept Du13.out) ?_
            simp only [Act.put, List.setIfInBounds_toArray, List.set_cons_zero, List.set_cons_succ]
            refine wpAnyH_ready (rs := [7]) (by kernel_rfl) (by simp) ?_
            refine AllReadyH.cons (o := ⟨some 9, .alloc 25, _, _, _, _⟩) rfl (fun K hK => ?_) ?_
            · go_simp
              have A6u14 := Lib.hid (zeroBox u13)
              have sA6u14 := Lib.hid Du13.out.size
              have lu14 := Lib.hid A7u13.out.lt
              have A7u14 := Lib.hid (A7u13.out.box (.cells #[.int .u32 0, .int .u32 0, .int .u32 0, .int .u32 0, .int .u32 0, .int .u32 0, .int .u32 0, .int .u32 0, .int .u32 0, .int .u32 0, .int .u32 0, .int .u32 0, .int .u32 0, .int .u32 0, .int .u32 0, .int .u32 0, .int .u32 0] 25))
              have Cu14 := Lib.hid (Cu12.out.kept ((Below.refl _ _).alloc (Nat.le_refl _) (.cells #[.int .u32 0, .int .u32 0, .int .u32 0, .int .u32 0, .int .u32 0, .int .u32 0, .int .u32 0, .int .u32 0, .int .u32 0, .int .u32 0, .int .u32 0, .int .u32 0, .int .u32 0, .int .u32 0, .int .u32 0, .int .u32 0, .int .u32 0] 25)))
              have Du14 := Lib.hid (Du13.out.alloc Du13.out.size (.cells #[.int .u32 0, .int .u32 0, .int .u32 0, .int .u32 0, .int .u32 0, .int .u32 0, .int .u32 0, .int .u32 0, .int .u32 0, .int .u32 0, .int .u32 0, .int .u32 0, .int .u32 0, .int .u32 0, .int .u32 0, .int .u32 0, .int .u32 0] 25))
              refine hK.out _ _ (X5.out.kept Du14.out) (fun _ => ?_)
              clear hK K
              generalize u13.alloc (.cells #[.int .u32 0, .int .u32 0, .int .u32 0, .int .u32 0, .int .u32 0, .int .u32 0, .int .u32 0, .int .u32 0, .int .u32 0, .int .u32 0, .int .u32 0, .int .u32 0, .int .u32 0, .int .u32 0, .int .u32 0, .int .u32 0, .int .u32 0] 25) = u14 at *
              have y5 := X5.out.lt
              have y6 := sA6u14.out
              have y7 := sA7u12.out
              have y8 := lu14.out
              refine wpAnyH_ready (rs := [9]) (by kernel_rfl) (by simp) ?_
              refine AllReadyH.cons (o := ⟨none, .store 25 (.tmp 9) (.tmp 40), _, _, _, _⟩) rfl (fun K hK => ?_) AllReadyH.nil
              rw [if_pos (by rfl)]
              refine so_store (.tmp 9) (.tmp 40) u13.heap.size (stL (fun _ => 0) 0) (stL R2 Q2) rfl rfl rfl A6u14.out (stL_len _ _ _ _) (stL_inf _ _) (stL_is _ _).one ?_
              have T9 := Lib.hid (A6u14.out.stored (l' := (stL R2 Q2)) (stL_len _ _ _ _))
              have U9 := Lib.hid (A7u14.out.apart (b' := u13.heap.size) (by omega) (stL R2 Q2))
              have D9 := Lib.hid (below_setCells (b := u13.heap.size) (stL R2 Q2) 0 _ Du14.out y6)
              refine hK.out _ _ (X5.out.kept D9.out) (fun _ => ?_)
              clear hK K
              simp only [Act.put]
              generalize (u14.setCells u13.heap.size 0 (stL R2 Q2)) = v9 at *
              refine wpAnyH_ready (rs := [10]) (by kernel_rfl) (by simp) ?_
              refine AllReadyH.cons (o := ⟨none, .store 28 (.tmp 10) (.tmp 41), _, _, _, _⟩) rfl (fun K hK => ?_) AllReadyH.nil
              rw [if_pos (by rfl)]
              refine so_store (.tmp 10) (.tmp 41) u1.heap.size _ [.int .i64 11, .int .i64 0, .int .u32 0, .int .u32 0] rfl rfl rfl U9.out rfl (by kernel_rfl) (one4 _ _ _ _) ?_
              have T10 := Lib.hid (T9.out.apart (b' := u1.heap.size) (by omega) [.int .i64 11, .int .i64 0, .int .u32 0, .int .u32 0])
              have U10 := Lib.hid (U9.out.stored (l' := [.int .i64 11, .int .i64 0, .int .u32 0, .int .u32 0]) rfl)
              have D10 := Lib.hid (below_setCells (b := u1.heap.size) [.int .i64 11, .int .i64 0, .int .u32 0, .int .u32 0] 0 _ D9.out y7)
              refine hK.out _ _ (X5.out.kept D10.out) (fun _ => ?_)
              clear hK K
              simp only [Act.put]
              generalize (v9.setCells u1.heap.size 0 [.int .i64 11, .int .i64 0, .int .u32 0, .int .u32 0]) = v10 at *
              refine wpAnyH_ready (rs := [11]) (by kernel_rfl) (by simp) ?_
              refine AllReadyH.cons (o := ⟨some 11, .assign (.tmp 42), _, _, _, _⟩) rfl (fun K hK => ?_) AllReadyH.nil
              go_simp
              refine hK.out _ _ (X5.out.kept D10.out) (fun _ => ?_)
              clear hK K
              refine wpAnyH_done (by kernel_rfl) ?_ _
              exact ⟨rfl, u13.heap.size, u1.heap.size, g, rfl, T10.out, U10.out, D10.out, y6, y7⟩
            exact AllReadyH.nil
          refine AllReadyH.cons (o := ⟨some 9, .alloc 25, _, _, _, _⟩) rfl (fun K hK => ?_) ?_
          · go_simp
            have A6u15 := Lib.hid (zeroBox u12)
            have sA6u15 := Lib.hid Du12.out.size
            have lu15 := Lib.hid A7u12.out.lt
            have A7u15 := Lib.hid (A7u12.out.box (.cells #[.int .u32 0, .int .u32 0, .int .u32 0, .int .u32 0, .int .u32 0, .int .u32 0, .int .u32 0, .int .u32 0, .int .u32 0, .int .u32 0, .int .u32 0, .int .u32 0, .int .u32 0, .int .u32 0, .int .u32 0, .int .u32 0, .int .u32 0] 25))
            have Cu15 := Lib.hid (Cu12.out.kept ((Below.refl _ _).alloc (Nat.le_refl _) (.cells #[.int .u32 0, .int .u32 0, .int .u32 0, .int .u32 0, .int .u32 0, .int .u32 0, .int .u32 0, .int .u32 0, .int .u32 0, .int .u32 0, .int .u32 0, .int .u32 0, .int .u32 0, .int .u32 0, .int .u32 0, .int .u32 0, .int .u32 0] 25)))
            have Du15 := Lib.hid (Du12.out.alloc Du12.out.size (.cells #[.int .u32 0, .int .u32 0, .int .u32 0, .int .u32 0, .int .u32 0, .int .u32 0, .int .u32 0, .int .u32 0, .int .u32 0, .int .u32 0, .int .u32 0, .int .u32 0, .int .u32 0, .int .u32 0, .int .u32 0, .int .u32 0, .int .u32 0] 25))
            refine hK.out _ _ (X5.out.kept Du15.out) (fun _ => ?_)
            clear hK K
            generalize u12.alloc (.cells #[.int .u32 0, .int .u32 0, .int .u32 0, .int .u32 0, .int .u32 0, .int .u32 0, .int .u32 0, .int .u32 0, .int .u32 0, .int .u32 0, .int .u32 0, .int .u32 0, .int .u32 0, .int .u32 0, .int .u32 0, .int .u32 0, .int .u32 0] 25) = u15 at *
            refine wpAnyH_ready (rs := [2]) (by kernel_rfl) (by simp) ?_
            refine AllReadyH.cons (o := ⟨some 39, .call _, _, _, _, _⟩) rfl (fun K hK => ?_) ?_
            · go_simp
              refine (run_mul a b g u15 ha1 ha2 HB.out (HE.out.kept (B5.out.trans (Du15.out.mono B5.out.size))) Cu15.out).mono ?_
              rw [HV2.out]
              rintro e u16 ⟨rfl, hb⟩
              have Du16 := Lib.hid (Du15.out.trans (hb.mono Du15.out.size))
              have A6u16 := Lib.hid (A6u15.out.kept hb)
              have A7u16 := Lib.hid (A7u15.out.kept hb)
              refine hK.out _ _ (X5.out.kept Du16.out) (fun _ => ?_)
              clear hK K hb
              refine wpAnyH_take (i := 3) (oi := ⟨some 36, .move (.tmp 39), _, _, _, _⟩) (v := (.tuple #[.agg (stL R2 Q2).toArray, .agg #[.int .i64 11, .int .i64 0, .int .u32 0, .int .u32 0], .int .i64 k2])) rfl (by kernel_rfl) (by kernel_rfl) (by kernel_rfl) (fun _ _ _ h => absurd h.1 (by simp)) (Or.inl ⟨by rfl, fun _ _ => rfl⟩) (X5.out.kept Du16.out) ?_
              refine wpAnyH_take (i := 4) (oi := ⟨some 40, .extract (.tmp 36) 0, _, _, _, _⟩) (v := .agg (stL R2 Q2).toArray) rfl (by kernel_rfl) (by kernel_rfl) (by kernel_rfl) (fun _ _ _ h => absurd h.1 (by simp)) (Or.inl ⟨by rfl, fun _ _ => rfl⟩) (X5.out.kept Du16.out) ?_
              refine wpAnyH_take (i := 5) (oi := ⟨some 41, .extract (.tmp 36) 1, _, _, _, _⟩) (v := .agg #[.int .i64 11, .int .i64 0, .int .u32 0, .int .u32 0]) rfl (by kernel_rfl) (by kernel_rfl) (by kernel_rfl) (fun _ _ _ h => absurd h.1 (by simp)) (Or.inl ⟨by rfl, fun _ _ => rfl⟩) (X5.out.kept Du16.out) ?_
              refine wpAnyH_take (i := 6) (oi := ⟨some 42, .extract (.tmp 36) 2, _, _, _, _⟩) (v := .int .i64 k2) rfl (by kernel_rfl) (by kernel_rfl) (by kernel_rfl) (fun _ _ _ h => absurd h.1 (by simp)) (Or.inl ⟨by rfl, fun _ _ => rfl⟩) (X5.out.kept Du16.out) ?_
              simp only [Act.put, List.setIfInBounds_toArray, List.set_cons_zero, List.set_cons_succ]
              have y5 := X5.out.lt
              have y6 := sA6u15.out
              have y7 := sA7u12.out
              have y8 := lu15.out
              refine wpAnyH_ready (rs := [9]) (by kernel_rfl) (by simp) ?_
              refine AllReadyH.cons (o := ⟨none, .store 25 (.tmp 9) (.tmp 40), _, _, _, _⟩) rfl (fun K hK => ?_) AllReadyH.nil
              rw [if_pos (by rfl)]
              refine so_store (.tmp 9) (.tmp 40) u12.heap.size (stL (fun _ => 0) 0) (stL R2 Q2) rfl rfl rfl A6u16.out (stL_len _ _ _ _) (stL_inf _ _) (stL_is _ _).one ?_
              have T9 := Lib.hid (A6u16.out.stored (l' := (stL R2 Q2)) (stL_len _ _ _ _))
              have U9 := Lib.hid (A7u16.out.apart (b' := u12.heap.size) (by omega) (stL R2 Q2))
              have D9 := Lib.hid (below_setCells (b := u12.heap.size) (stL R2 Q2) 0 _ Du16.out y6)
              refine hK.out _ _ (X5.out.kept D9.out) (fun _ => ?_)
              clear hK K
              simp only [Act.put]
              generalize (u16.setCells u12.heap.size 0 (stL R2 Q2)) = v9 at *
              refine wpAnyH_ready (rs := [10]) (by kernel_rfl) (by simp) ?_
              refine AllReadyH.cons (o := ⟨none, .store 28 (.tmp 10) (.tmp 41), _, _, _, _⟩) rfl (fun K hK => ?_) AllReadyH.nil
              rw [if_pos (by rfl)]
              refine so_store (.tmp 10) (.tmp 41) u1.heap.size _ [.int .i64 11, .int .i64 0, .int .u32 0, .int .u32 0] rfl rfl rfl U9.out rfl (by kernel_rfl) (one4 _ _ _ _) ?_
              have T10 := Lib.hid (T9.out.apart (b' := u1.heap.size) (by omega) [.int .i64 11, .int .i64 0, .int .u32 0, .int .u32 0])
              have U10 := Lib.hid (U9.out.stored (l' := [.int .i64 11, .int .i64 0, .int .u32 0, .int .u32 0]) rfl)
              have D10 := Lib.hid (below_setCells (b := u1.heap.size) [.int .i64 11, .int .i64 0, .int .u32 0, .int .u32 0] 0 _ D9.out y7)
              refine hK.out _ _ (X5.out.kept D10.out) (fun _ => ?_)
              clear hK K
              simp only [Act.put]
              generalize (v9.setCells u1.heap.size 0 [.int .i64 11, .int .i64 0, .int .u32 0, .int .u32 0]) = v10 at *
              refine wpAnyH_ready (rs := [11]) (by kernel_rfl) (by simp) ?_
              refine AllReadyH.cons (o := ⟨some 11, .assign (.tmp 42), _, _, _, _⟩) rfl (fun K hK => ?_) AllReadyH.nil
              go_simp
              refine hK.out _ _ (X5.out.kept D10.out) (fun _ => ?_)
              clear hK K
              refine wpAnyH_done (by kernel_rfl) ?_ _
              exact ⟨rfl, u12.heap.size, u1.heap.size, g, rfl, T10.out, U10.out, D10.out, y6, y7⟩
            exact AllReadyH.nil
          exact AllReadyH.nil
        exact AllReadyH.nil
      refine AllReadyH.cons (o := ⟨some 9, .alloc 25, _, _, _, _⟩) rfl (fun K hK => ?_) ?_
      · go_simp
        have A6u17 := Lib.hid (zeroBox u0)
        have sA6u17 := Lib.hid D0.out.size
        have Du17 := Lib.hid (D0.out.alloc D0.out.size (.cells #[.int .u32 0, .int .u32 0, .int .u32 0, .int .u32 0, .int .u32 0, .int .u32 0, .int .u32 0, .int .u32 0, .int .u32 0, .int .u32 0, .int .u32 0, .int .u32 0, .int .u32 0, .int .u32 0, .int .u32 0, .int .u32 0, .int .u32 0] 25))
        refine hK.out _ _ (X5.out.kept Du17.out) (fun _ => ?_)
        clear hK K
        generalize u0.alloc (.cells #[.int .u32 0, .int .u32 0, .int .u32 0, .int .u32 0, .int .u32 0, .int .u32 0, .int .u32 0, .int .u32 0, .int .u32 0, .int .u32 0, .int .u32 0, .int .u32 0, .int .u32 0, .int .u32 0, .int .u32 0, .int .u32 0, .int .u32 0] 25) = u17 at *
        refine wpAnyH_ready (rs := [1, 8]) (by kernel_rfl) (by simp) ?_
        refine AllReadyH.cons (o := ⟨some 38, .call _, _, _, _, _⟩) rfl (fun K hK => ?_) ?_
        · go_simp
          refine (code_T P2 _ _ (HE.out.kept (B5.out.trans (Du17.out.mono B5.out.size))) p2_s (by decide) P2_right).mono ?_
          rintro e u18 ⟨g, rfl, hc, hb⟩
          rw [show 4 * P2.length = 8 from rfl]
          have Cu18 := Lib.hid (show CodeIn u18 (some ⟨g, 0, none⟩) 8 (zT P2) from hc)
          have Du18 := Lib.hid (Du17.out.trans (hb.mono Du17.out.size))
          have A6u18 := Lib.hid (A6u17.out.kept hb)
          refine hK.out _ _ (X5.out.kept Du18.out) (fun _ => ?_)
          clear hK K hb hc
          refine wpAnyH_ready (rs := [2, 8]) (by kernel_rfl) (by simp) ?_
          refine AllReadyH.cons (o := ⟨some 39, .call _, _, _, _, _⟩) rfl (fun K hK => ?_) ?_
          · go_simp
            refine (run_mul a b g u18 ha1 ha2 HB.out (HE.out.kept (B5.out.trans (Du18.out.mono B5.out.size))) Cu18.out).mono ?_
            rw [HV2.out]
            rintro e u19 ⟨rfl, hb⟩
            have Du19 := Lib.hid (Du18.out.trans (hb.mono Du18.out.size))
            have A6u19 := Lib.hid (A6u18.out.kept hb)
            refine hK.out _ _ (X5.out.kept Du19.out) (fun _ => ?_)
            clear hK K hb
            refine wpAnyH_take (i := 3) (oi := ⟨some 36, .move (.tmp 39), _, _, _, _⟩) (v := (.tuple #[.agg (stL R2 Q2).toArray, .agg #[.int .i64 11, .int .i64 0, .int .u32 0, .int .u32 0], .int .i64 k2])) rfl (by kernel_rfl) (by kernel_rfl) (by kernel_rfl) (fun _ _ _ h => absurd h.1 (by simp)) (Or.inl ⟨by rfl, fun _ _ => rfl⟩) (X5.out.kept Du19.out) ?_
            refine wpAnyH_take (i := 4) (oi := ⟨some 40, .extract (.tmp 36) 0, _, _, _, _⟩) (v := .agg (stL R2 Q2).toArray) rfl (by kernel_rfl) (by kernel_rfl) (by kernel_rfl) (fun _ _ _ h => absurd h.1 (by simp)) (Or.inl ⟨by rfl, fun _ _ => rfl⟩) (X5.out.kept Du19.out) ?_
            refine wpAnyH_take (i := 5) (oi := ⟨some 41, .extract (.tmp 36) 1, _, _, _, _⟩) (v := .agg #[.int .i64 11, .int .i64 0, .int .u32 0, .int .u32 0]) rfl (by kernel_rfl) (by kernel_rfl) (by kernel_rfl) (fun _ _ _ h => absurd h.1 (by simp)) (Or.inl ⟨by rfl, fun _ _ => rfl⟩) (X5.out.kept Du19.out) ?_
            refine wpAnyH_take (i := 6) (oi := ⟨some 42, .extract (.tmp 36) 2, _, _, _, _⟩) (v := .int .i64 k2) rfl (by kernel_rfl) (by kernel_rfl) (by kernel_rfl) (fun _ _ _ h => absurd h.1 (by simp)) (Or.inl ⟨by rfl, fun _ _ => rfl⟩) (X5.out.kept Du19.out) ?_
            simp only [Act.put, List.setIfInBounds_toArray, List.set_cons_zero, List.set_cons_succ]
            refine wpAnyH_ready (rs := [8]) (by kernel_rfl) (by simp) ?_
            refine AllReadyH.cons (o := ⟨some 10, .alloc 28, _, _, _, _⟩) rfl (fun K hK => ?_) ?_
            · go_simp
              have A7u20 := Lib.hid (zeroE u19)
              have sA7u20 := Lib.hid Du19.out.size
              have lu20 := Lib.hid A6u19.out.lt
              have A6u20 := Lib.hid (A6u19.out.box (.cells #[.int .i64 0, .int .i64 0, .int .u32 0, .int .u32 0] 28))
              have Cu20 := Lib.hid (Cu18.out.kept ((Below.refl _ _).alloc (Nat.le_refl _) (.cells #[.int .i64 0, .int .i64 0, .int .u32 0, .int .u32 0] 28)))
              have Du20 := Lib.hid (Du19.out.alloc Du19.out.size (.cells #[.int .i64 0, .int .i64 0, .int .u32 0, .int .u32 0] 28))
              refine hK.out _ _ (X5.out.kept Du20.out) (fun _ => ?_)
              clear hK K
              generalize u19.alloc (.cells #[.int .i64 0, .int .i64 0, .int .u32 0, .int .u32 0] 28) = u20 at *
              have y5 := X5.out.lt
              have y6 := sA6u17.out
              have y7 := sA7u20.out
              have y8 := lu20.out
              refine wpAnyH_ready (rs := [9]) (by kernel_rfl) (by simp) ?_
              refine AllReadyH.cons (o := ⟨none, .store 25 (.tmp 9) (.tmp 40), _, _, _, _⟩) rfl (fun K hK => ?_) AllReadyH.nil
              rw [if_pos (by rfl)]
              refine so_store (.tmp 9) (.tmp 40) u0.heap.size (stL (fun _ => 0) 0) (stL R2 Q2) rfl rfl rfl A6u20.out (stL_len _ _ _ _) (stL_inf _ _) (stL_is _ _).one ?_
              have T9 := Lib.hid (A6u20.out.stored (l' := (stL R2 Q2)) (stL_len _ _ _ _))
              have U9 := Lib.hid (A7u20.out.apart (b' := u0.heap.size) (by omega) (stL R2 Q2))
              have D9 := Lib.hid (below_setCells (b := u0.heap.size) (stL R2 Q2) 0 _ Du20.out y6)
              refine hK.out _ _ (X5.out.kept D9.out) (fun _ => ?_)
              clear hK K
              simp only [Act.put]
              generalize (u20.setCells u0.heap.size 0 (stL R2 Q2)) = v9 at *
              refine wpAnyH_ready (rs := [10]) (by kernel_rfl) (by simp) ?_
              refine AllReadyH.cons (o := ⟨none, .store 28 (.tmp 10) (.tmp 41), _, _, _, _⟩) rfl (fun K hK => ?_) AllReadyH.nil
              rw [if_pos (by rfl)]
              refine so_store (.tmp 10) (.tmp 41) u19.heap.size _ [.int .i64 11, .int .i64 0, .int .u32 0, .int .u32 0] rfl rfl rfl U9.out rfl (by kernel_rfl) (one4 _ _ _ _) ?_
              have T10 := Lib.hid (T9.out.apart (b' := u19.heap.size) (by omega) [.int .i64 11, .int .i64 0, .int .u32 0, .int .u32 0])
              have U10 := Lib.hid (U9.out.stored (l' := [.int .i64 11, .int .i64 0, .int .u32 0, .int .u32 0]) rfl)
              have D10 := Lib.hid (below_setCells (b := u19.heap.size) [.int .i64 11, .int .i64 0, .int .u32 0, .int .u32 0] 0 _ D9.out y7)
              refine hK.out _ _ (X5.out.kept D10.out) (fun _ => ?_)
              clear hK K
              simp only [Act.put]
              generalize (v9.setCells u19.heap.size 0 [.int .i64 11, .int .i64 0, .int .u32 0, .int .u32 0]) = v10 at *
              refine wpAnyH_ready (rs := [11]) (by kernel_rfl) (by simp) ?_
              refine AllReadyH.cons (o := ⟨some 11, .assign (.tmp 42), _, _, _, _⟩) rfl (fun K hK => ?_) AllReadyH.nil
              go_simp
              refine hK.out _ _ (X5.out.kept D10.out) (fun _ => ?_)
              clear hK K
              refine wpAnyH_done (by kernel_rfl) ?_ _
              exact ⟨rfl, u0.heap.size, u19.heap.size, g, rfl, T10.out, U10.out, D10.out, y6, y7⟩
            exact AllReadyH.nil
          refine AllReadyH.cons (o := ⟨some 10, .alloc 28, _, _, _, _⟩) rfl (fun K hK => ?_) ?_
          · go_simp
            have A7u21 := Lib.hid (zeroE u18)
            have sA7u21 := Lib.hid Du18.out.size
            have lu21 := Lib.hid A6u18.out.lt
            have A6u21 := Lib.hid (A6u18.out.box (.cells #[.int .i64 0, .int .i64 0, .int .u32 0, .int .u32 0] 28))
            have Cu21 := Lib.hid (Cu18.out.kept ((Below.refl _ _).alloc (Nat.le_refl _) (.cells #[.int .i64 0, .int .i64 0, .int .u32 0, .int .u32 0] 28)))
            have Du21 := Lib.hid (Du18.out.alloc Du18.out.size (.cells #[.int .i64 0, .int .i64 0, .int .u32 0, .int .u32 0] 28))
            refine hK.out _ _ (X5.out.kept Du21.out) (fun _ => ?_)
            clear hK K
            generalize u18.alloc (.cells #[.int .i64 0, .int .i64 0, .int .u32 0, .int .u32 0] 28) = u21 at *
            refine wpAnyH_ready (rs := [2]) (by kernel_rfl) (by simp) ?_
            refine AllReadyH.cons (o := ⟨some 39, .call _, _, _, _, _⟩) rfl (fun K hK => ?_) ?_
            · go_simp
              refine (run_mul a b g u21 ha1 ha2 HB.out (HE.out.kept (B5.out.trans (Du21.out.mono B5.out.size))) Cu21.out).mono ?_
              rw [HV2.out]
              rintro e u22 ⟨rfl, hb⟩
              have Du22 := Lib.hid (Du21.out.trans (hb.mono Du21.out.size))
              have A6u22 := Lib.hid (A6u21.out.kept hb)
              have A7u22 := Lib.hid (A7u21.out.kept hb)
              refine hK.out _ _ (X5.out.kept Du22.out) (fun _ => ?_)
              clear hK K hb
              refine wpAnyH_take (i := 3) (oi := ⟨some 36, .move (.tmp 39), _, _, _, _⟩) (v := (.tuple #[.agg (stL R2 Q2).toArray, .agg #[.int .i64 11, .int .i64 0, .int .u32 0, .int .u32 0], .int .i64 k2])) rfl (by kernel_rfl) (by kernel_rfl) (by kernel_rfl) (fun _ _ _ h => absurd h.1 (by simp)) (Or.inl ⟨by rfl, fun _ _ => rfl⟩) (X5.out.kept Du22.out) ?_
              refine wpAnyH_take (i := 4) (oi := ⟨some 40, .extract (.tmp 36) 0, _, _, _, _⟩) (v := .agg (stL R2 Q2).toArray) rfl (by kernel_rfl) (by kernel_rfl) (by kernel_rfl) (fun _ _ _ h => absurd h.1 (by simp)) (Or.inl ⟨by rfl, fun _ _ => rfl⟩) (X5.out.kept Du22.out) ?_
              refine wpAnyH_take (i := 5) (oi := ⟨some 41, .extract (.tmp 36) 1, _, _, _, _⟩) (v := .agg #[.int .i64 11, .int .i64 0, .int .u32 0, .int .u32 0]) rfl (by kernel_rfl) (by kernel_rfl) (by kernel_rfl) (fun _ _ _ h => absurd h.1 (by simp)) (Or.inl ⟨by rfl, fun _ _ => rfl⟩) (X5.out.kept Du22.out) ?_
              refine wpAnyH_take (i := 6) (oi := ⟨some 42, .extract (.tmp 36) 2, _, _, _, _⟩) (v := .int .i64 k2) rfl (by kernel_rfl) (by kernel_rfl) (by kernel_rfl) (fun _ _ _ h => absurd h.1 (by simp)) (Or.inl ⟨by rfl, fun _ _ => rfl⟩) (X5.out.kept Du22.out) ?_
              simp only [Act.put, List.setIfInBounds_toArray, List.set_cons_zero, List.set_cons_succ]
              have y5 := X5.out.lt
              have y6 := sA6u17.out
              have y7 := sA7u21.out
              have y8 := lu21.out
              refine wpAnyH_ready (rs := [9]) (by kernel_rfl) (by simp) ?_
              refine AllReadyH.cons (o := ⟨none, .store 25 (.tmp 9) (.tmp 40), _, _, _, _⟩) rfl (fun K hK => ?_) AllReadyH.nil
              rw [if_pos (by rfl)]
              refine so_store (.tmp 9) (.tmp 40) u0.heap.size (stL (fun _ => 0) 0) (stL R2 Q2) rfl rfl rfl A6u22.out (stL_len _ _ _ _) (stL_inf _ _) (stL_is _ _).one ?_
              have T9 := Lib.hid (A6u22.out.stored (l' := (stL R2 Q2)) (stL_len _ _ _ _))
              have U9 := Lib.hid (A7u22.out.apart (b' := u0.heap.size) (by omega) (stL R2 Q2))
              have D9 := Lib.hid (below_setCells (b := u0.heap.size) (stL R2 Q2) 0 _ Du22.out y6)
              refine hK.out _ _ (X5.out.kept D9.out) (fun _ => ?_)
              clear hK K
              simp only [Act.put]
              generalize (u22.setCells u0.heap.size 0 (stL R2 Q2)) = v9 at *
              refine wpAnyH_ready (rs := [10]) (by kernel_rfl) (by simp) ?_
              refine AllReadyH.cons (o := ⟨none, .store 28 (.tmp 10) (.tmp 41), _, _, _, _⟩) rfl (fun K hK => ?_) AllReadyH.nil
              rw [if_pos (by rfl)]
              refine so_store (.tmp 10) (.tmp 41) u18.heap.size _ [.int .i64 11, .int .i64 0, .int .u32 0, .int .u32 0] rfl rfl rfl U9.out rfl (by kernel_rfl) (one4 _ _ _ _) ?_
              have T10 := Lib.hid (T9.out.apart (b' := u18.heap.size) (by omega) [.int .i64 11, .int .i64 0, .int .u32 0, .int .u32 0])
              have U10 := Lib.hid (U9.out.stored (l' := [.int .i64 11, .int .i64 0, .int .u32 0, .int .u32 0]) rfl)
              have D10 := Lib.hid (below_setCells (b := u18.heap.size) [.int .i64 11, .int .i64 0, .int .u32 0, .int .u32 0] 0 _ D9.out y7)
              refine hK.out _ _ (X5.out.kept D10.out) (fun _ => ?_)
              clear hK K
              simp only [Act.put]
              generalize (v9.setCells u18.heap.size 0 [.int .i64 11, .int .i64 0, .int .u32 0, .int .u32 0]) = v10 at *
              refine wpAnyH_ready (rs := [11]) (by kernel_rfl) (by simp) ?_
              refine AllReadyH.cons (o := ⟨some 11, .assign (.tmp 42), _, _, _, _⟩) rfl (fun K hK => ?_) AllReadyH.nil
              go_simp
              refine hK.out _ _ (X5.out.kept D10.out) (fun _ => ?_)
              clear hK K
              refine wpAnyH_done (by kernel_rfl) ?_ _
              exact ⟨rfl, u0.heap.size, u18.heap.size, g, rfl, T10.out, U10.out, D10.out, y6, y7⟩
            exact AllReadyH.nil
          exact AllReadyH.nil
        refine AllReadyH.cons (o := ⟨some 10, .alloc 28, _, _, _, _⟩) rfl (fun K hK => ?_) ?_
        · go_simp
          have A7u23 := Lib.hid (zeroE u17)
          have sA7u23 := Lib.hid Du17.out.size
          have lu23 := Lib.hid A6u17.out.lt
          have A6u23 := Lib.hid (A6u17.out.box (.cells #[.int .i64 0, .int .i64 0, .int .u32 0, .int .u32 0] 28))
          have Du23 := Lib.hid (Du17.out.alloc Du17.out.size (.cells #[.int .i64 0, .int .i64 0, .int .u32 0, .int .u32 0] 28))
          refine hK.out _ _ (X5.out.kept Du23.out) (fun _ => ?_)
          clear hK K
          generalize u17.alloc (.cells #[.int .i64 0, .int .i64 0, .int .u32 0, .int .u32 0] 28) = u23 at *
          refine wpAnyH_ready (rs := [1]) (by kernel_rfl) (by simp) ?_
          refine AllReadyH.cons (o := ⟨some 38, .call _, _, _, _, _⟩) rfl (fun K hK => ?_) ?_
          · go_simp
            refine (code_T P2 _ _ (HE.out.kept (B5.out.trans (Du23.out.mono B5.out.size))) p2_s (by decide) P2_right).mono ?_
            rintro e u24 ⟨g, rfl, hc, hb⟩
            rw [show 4 * P2.length = 8 from rfl]
            have Cu24 := Lib.hid (show CodeIn u24 (some ⟨g, 0, none⟩) 8 (zT P2) from hc)
            have Du24 := Lib.hid (Du23.out.trans (hb.mono Du23.out.size))
            have A6u24 := Lib.hid (A6u23.out.kept hb)
            have A7u24 := Lib.hid (A7u23.out.kept hb)
            refine hK.out _ _ (X5.out.kept Du24.out) (fun _ => ?_)
            clear hK K hb hc
            refine wpAnyH_ready (rs := [2]) (by kernel_rfl) (by simp) ?_
            refine AllReadyH.cons (o := ⟨some 39, .call _, _, _, _, _⟩) rfl (fun K hK => ?_) ?_
            · go_simp
              refine (run_mul a b g u24 ha1 ha2 HB.out (HE.out.kept (B5.out.trans (Du24.out.mono B5.out.size))) Cu24.out).mono ?_
              rw [HV2.out]
              rintro e u25 ⟨rfl, hb⟩
              have Du25 := Lib.hid (Du24.out.trans (hb.mono Du24.out.size))
              have A6u25 := Lib.hid (A6u24.out.kept hb)
              have A7u25 := Lib.hid (A7u24.out.kept hb)
              refine hK.out _ _ (X5.out.kept Du25.out) (fun _ => ?_)
              clear hK K hb
              refine wpAnyH_take (i := 3) (oi := ⟨some 36, .move (.tmp 39), _, _, _, _⟩) (v := (.tuple #[.agg (stL R2 Q2).toArray, .agg #[.int .i64 11, .int .i64 0, .int .u32 0, .int .u32 0], .int .i64 k2])) rfl (by kernel_rfl) (by kernel_rfl) (by kernel_rfl) (fun _ _ _ h => absurd h.1 (by simp)) (Or.inl ⟨by rfl, fun _ _ => rfl⟩) (X5.out.kept Du25.out) ?_
              refine wpAnyH_take (i := 4) (oi := ⟨some 40, .extract (.tmp 36) 0, _, _, _, _⟩) (v := .agg (stL R2 Q2).toArray) rfl (by kernel_rfl) (by kernel_rfl) (by kernel_rfl) (fun _ _ _ h => absurd h.1 (by simp)) (Or.inl ⟨by rfl, fun _ _ => rfl⟩) (X5.out.kept Du25.out) ?_
              refine wpAnyH_take (i := 5) (oi := ⟨some 41, .extract (.tmp 36) 1, _, _, _, _⟩) (v := .agg #[.int .i64 11, .int .i64 0, .int .u32 0, .int .u32 0]) rfl (by kernel_rfl) (by kernel_rfl) (by kernel_rfl) (fun _ _ _ h => absurd h.1 (by simp)) (Or.inl ⟨by rfl, fun _ _ => rfl⟩) (X5.out.kept Du25.out) ?_
              refine wpAnyH_take (i := 6) (oi := ⟨some 42, .extract (.tmp 36) 2, _, _, _, _⟩) (v := .int .i64 k2) rfl (by kernel_rfl) (by kernel_rfl) (by kernel_rfl) (fun _ _ _ h => absurd h.1 (by simp)) (Or.inl ⟨by rfl, fun _ _ => rfl⟩) (X5.out.kept Du25.out) ?_
              simp only [Act.put, List.setIfInBounds_toArray, List.set_cons_zero, List.set_cons_succ]
              have y5 := X5.out.lt
              have y6 := sA6u17.out
              have y7 := sA7u23.out
              have y8 := lu23.out
              refine wpAnyH_ready (rs := [9]) (by kernel_rfl) (by simp) ?_
              refine AllReadyH.cons (o := ⟨none, .store 25 (.tmp 9) (.tmp 40), _, _, _, _⟩) rfl (fun K hK => ?_) AllReadyH.nil
              rw [if_pos (by rfl)]
              refine so_store (.tmp 9) (.tmp 40) u0.heap.size (stL (fun _ => 0) 0) (stL R2 Q2) rfl rfl rfl A6u25.out (stL_len _ _ _ _) (stL_inf _ _) (stL_is _ _).one ?_
              have T9 := Lib.hid (A6u25.out.stored (l' := (stL R2 Q2)) (stL_len _ _ _ _))
              have U9 := Lib.hid (A7u25.out.apart (b' := u0.heap.size) (by omega) (stL R2 Q2))
              have D9 := Lib.hid (below_setCells (b := u0.heap.size) (stL R2 Q2) 0 _ Du25.out y6)
              refine hK.out _ _ (X5.out.kept D9.out) (fun _ => ?_)
              clear hK K
              simp only [Act.put]
              generalize (u25.setCells u0.heap.size 0 (stL R2 Q2)) = v9 at *
              refine wpAnyH_ready (rs := [10]) (by kernel_rfl) (by simp) ?_
              refine AllReadyH.cons (o := ⟨none, .store 28 (.tmp 10) (.tmp 41), _, _, _, _⟩) rfl (fun K hK => ?_) AllReadyH.nil
              rw [if_pos (by rfl)]
              refine so_store (.tmp 10) (.tmp 41) u17.heap.size _ [.int .i64 11, .int .i64 0, .int .u32 0, .int .u32 0] rfl rfl rfl U9.out rfl (by kernel_rfl) (one4 _ _ _ _) ?_
              have T10 := Lib.hid (T9.out.apart (b' := u17.heap.size) (by omega) [.int .i64 11, .int .i64 0, .int .u32 0, .int .u32 0])
              have U10 := Lib.hid (U9.out.stored (l' := [.int .i64 11, .int .i64 0, .int .u32 0, .int .u32 0]) rfl)
              have D10 := Lib.hid (below_setCells (b := u17.heap.size) [.int .i64 11, .int .i64 0, .int .u32 0, .int .u32 0] 0 _ D9.out y7)
              refine hK.out _ _ (X5.out.kept D10.out) (fun _ => ?_)
              clear hK K
              simp only [Act.put]
              generalize (v9.setCells u17.heap.size 0 [.int .i64 11, .int .i64 0, .int .u32 0, .int .u32 0]) = v10 at *
              refine wpAnyH_ready (rs := [11]) (by kernel_rfl) (by simp) ?_
              refine AllReadyH.cons (o := ⟨some 11, .assign (.tmp 42), _, _, _, _⟩) rfl (fun K hK => ?_) AllReadyH.nil
              go_simp
              refine hK.out _ _ (X5.out.kept D10.out) (fun _ => ?_)
              clear hK K
              refine wpAnyH_done (by kernel_rfl) ?_ _
              exact ⟨rfl, u0.heap.size, u17.heap.size, g, rfl, T10.out, U10.out, D10.out, y6, y7⟩
            exact AllReadyH.nil
          exact AllReadyH.nil
        exact AllReadyH.nil
      refine AllReadyH.cons (o := ⟨some 10, .alloc 28, _, _, _, _⟩) rfl (fun K hK => ?_) ?_
      · go_simp
        have A7u26 := Lib.hid (zeroE u0)
        have sA7u26 := Lib.hid D0.out.size
        have Du26 := Lib.hid (D0.out.alloc D0.out.size (.cells #[.int .i64 0, .int .i64 0, .int .u32 0, .int .u32 0] 28))
        refine hK.out _ _ (X5.out.kept Du26.out) (fun _ => ?_)
        clear hK K
        generalize u0.alloc (.cells #[.int .i64 0, .int .i64 0, .int .u32 0, .int .u32 0] 28) = u26 at *
        refine wpAnyH_ready (rs := [1, 7]) (by kernel_rfl) (by simp) ?_
        refine AllReadyH.cons (o := ⟨some 38, .call _, _, _, _, _⟩) rfl (fun K hK => ?_) ?_
        · go_simp
          refine (code_T P2 _ _ (HE.out.kept (B5.out.trans (Du26.out.mono B5.out.size))) p2_s (by decide) P2_right).mono ?_
          rintro e u27 ⟨g, rfl, hc, hb⟩
          rw [show 4 * P2.length = 8 from rfl]
          have Cu27 := Lib.hid (show CodeIn u27 (some ⟨g, 0, none⟩) 8 (zT P2) from hc)
          have Du27 := Lib.hid (Du26.out.trans (hb.mono Du26.out.size))
          have A7u27 := Lib.hid (A7u26.out.kept hb)
          refine hK.out _ _ (X5.out.kept Du27.out) (fun _ => ?_)
          clear hK K hb hc
          refine wpAnyH_ready (rs := [2, 7]) (by kernel_rfl) (by simp) ?_
          refine AllReadyH.cons (o := ⟨some 39, .call _, _, _, _, _⟩) rfl (fun K hK => ?_) ?_
          · go_simp
            refine (run_mul a b g u27 ha1 ha2 HB.out (HE.out.kept (B5.out.trans (Du27.out.mono B5.out.size))) Cu27.out).mono ?_
            rw [HV2.out]
            rintro e u28 ⟨rfl, hb⟩
            have Du28 := Lib.hid (Du27.out.trans (hb.mono Du27.out.size))
            have A7u28 := Lib.hid (A7u27.out.kept hb)
            refine hK.out _ _ (X5.out.kept Du28.out) (fun _ => ?_)
            clear hK K hb
            refine wpAnyH_take (i := 3) (oi := ⟨some 36, .move (.tmp 39), _, _, _, _⟩) (v := (.tuple #[.agg (stL R2 Q2).toArray, .agg #[.int .i64 11, .int .i64 0, .int .u32 0, .int .u32 0], .int .i64 k2])) rfl (by kernel_rfl) (by kernel_rfl) (by kernel_rfl) (fun _ _ _ h => absurd h.1 (by simp)) (Or.inl ⟨by rfl, fun _ _ => rfl⟩) (X5.out.kept Du28.out) ?_
            refine wpAnyH_take (i := 4) (oi := ⟨some 40, .extract (.tmp 36) 0, _, _, _, _⟩) (v := .agg (stL R2 Q2).toArray) rfl (by kernel_rfl) (by kernel_rfl) (by kernel_rfl) (fun _ _ _ h => absurd h.1 (by simp)) (Or.inl ⟨by rfl, fun _ _ => rfl⟩) (X5.out.kept Du28.out) ?_
            refine wpAnyH_take (i := 5) (oi := ⟨some 41, .extract (.tmp 36) 1, _, _, _, _⟩) (v := .agg #[.int .i64 11, .int .i64 0, .int .u32 0, .int .u32 0]) rfl (by kernel_rfl) (by kernel_rfl) (by kernel_rfl) (fun _ _ _ h => absurd h.1 (by simp)) (Or.inl ⟨by rfl, fun _ _ => rfl⟩) (X5.out.kept Du28.out) ?_
            refine wpAnyH_take (i := 6) (oi := ⟨some 42, .extract (.tmp 36) 2, _, _, _, _⟩) (v := .int .i64 k2) rfl (by kernel_rfl) (by kernel_rfl) (by kernel_rfl) (fun _ _ _ h => absurd h.1 (by simp)) (Or.inl ⟨by rfl, fun _ _ => rfl⟩) (X5.out.kept Du28.out) ?_
            simp only [Act.put, List.setIfInBounds_toArray, List.set_cons_zero, List.set_cons_succ]
            refine wpAnyH_ready (rs := [7]) (by kernel_rfl) (by simp) ?_
            refine AllReadyH.cons (o := ⟨some 9, .alloc 25, _, _, _, _⟩) rfl (fun K hK => ?_) ?_
            · go_simp
              have A6u29 := Lib.hid (zeroBox u28)
              have sA6u29 := Lib.hid Du28.out.size
              have lu29 := Lib.hid A7u28.out.lt
              have A7u29 := Lib.hid (A7u28.out.box (.cells #[.int .u32 0, .int .u32 0, .int .u32 0, .int .u32 0, .int .u32 0, .int .u32 0, .int .u32 0, .int .u32 0, .int .u32 0, .int .u32 0, .int .u32 0, .int .u32 0, .int .u32 0, .int .u32 0, .int .u32 0, .int .u32 0, .int .u32 0] 25))
              have Cu29 := Lib.hid (Cu27.out.kept ((Below.refl _ _).alloc (Nat.le_refl _) (.cells #[.int .u32 0, .int .u32 0, .int .u32 0, .int .u32 0, .int .u32 0, .int .u32 0, .int .u32 0, .int .u32 0, .int .u32 0, .int .u32 0, .int .u32 0, .int .u32 0, .int .u32 0, .int .u32 0, .int .u32 0, .int .u32 0, .int .u32 0] 25)))
              have Du29 := Lib.hid (Du28.out.alloc Du28.out.size (.cells #[.int .u32 0, .int .u32 0, .int .u32 0, .int .u32 0, .int .u32 0, .int .u32 0, .int .u32 0, .int .u32 0, .int .u32 0, .int .u32 0, .int .u32 0, .int .u32 0, .int .u32 0, .int .u32 0, .int .u32 0, .int .u32 0, .int .u32 0] 25))
              refine hK.out _ _ (X5.out.kept Du29.out) (fun _ => ?_)
              clear hK K
              generalize u28.alloc (.cells #[.int .u32 0, .int .u32 0, .int .u32 0, .int .u32 0, .int .u32 0, .int .u32 0, .int .u32 0, .int .u32 0, .int .u32 0, .int .u32 0, .int .u32 0, .int .u32 0, .int .u32 0, .int .u32 0, .int .u32 0, .int .u32 0, .int .u32 0] 25) = u29 at *
              have y5 := X5.out.lt
              have y6 := sA6u29.out
              have y7 := sA7u26.out
              have y8 := lu29.out
              refine wpAnyH_ready (rs := [9]) (by kernel_rfl) (by simp) ?_
              refine AllReadyH.cons (o := ⟨none, .store 25 (.tmp 9) (.tmp 40), _, _, _, _⟩) rfl (fun K hK => ?_) AllReadyH.nil
              rw [if_pos (by rfl)]
              refine so_store (.tmp 9) (.tmp 40) u28.heap.size (stL (fun _ => 0) 0) (stL R2 Q2) rfl rfl rfl A6u29.out (stL_len _ _ _ _) (stL_inf _ _) (stL_is _ _).one ?_
              have T9 := Lib.hid (A6u29.out.stored (l' := (stL R2 Q2)) (stL_len _ _ _ _))
              have U9 := Lib.hid (A7u29.out.apart (b' := u28.heap.size) (by omega) (stL R2 Q2))
              have D9 := Lib.hid (below_setCells (b := u28.heap.size) (stL R2 Q2) 0 _ Du29.out y6)
              refine hK.out _ _ (X5.out.kept D9.out) (fun _ => ?_)
              clear hK K
              simp only [Act.put]
              generalize (u29.setCells u28.heap.size 0 (stL R2 Q2)) = v9 at *
              refine wpAnyH_ready (rs := [10]) (by kernel_rfl) (by simp) ?_
              refine AllReadyH.cons (o := ⟨none, .store 28 (.tmp 10) (.tmp 41), _, _, _, _⟩) rfl (fun K hK => ?_) AllReadyH.nil
              rw [if_pos (by rfl)]
              refine so_store (.tmp 10) (.tmp 41) u0.heap.size _ [.int .i64 11, .int .i64 0, .int .u32 0, .int .u32 0] rfl rfl rfl U9.out rfl (by kernel_rfl) (one4 _ _ _ _) ?_
              have T10 := Lib.hid (T9.out.apart (b' := u0.heap.size) (by omega) [.int .i64 11, .int .i64 0, .int .u32 0, .int .u32 0])
              have U10 := Lib.hid (U9.out.stored (l' := [.int .i64 11, .int .i64 0, .int .u32 0, .int .u32 0]) rfl)
              have D10 := Lib.hid (below_setCells (b := u0.heap.size) [.int .i64 11, .int .i64 0, .int .u32 0, .int .u32 0] 0 _ D9.out y7)
              refine hK.out _ _ (X5.out.kept D10.out) (fun _ => ?_)
              clear hK K
              simp only [Act.put]
              generalize (v9.setCells u0.heap.size 0 [.int .i64 11, .int .i64 0, .int .u32 0, .int .u32 0]) = v10 at *
              refine wpAnyH_ready (rs := [11]) (by kernel_rfl) (by simp) ?_
              refine AllReadyH.cons (o := ⟨some 11, .assign (.tmp 42), _, _, _, _⟩) rfl (fun K hK => ?_) AllReadyH.nil
              go_simp
              refine hK.out _ _ (X5.out.kept D10.out) (fun _ => ?_)
              clear hK K
              refine wpAnyH_done (by kernel_rfl) ?_ _
              exact ⟨rfl, u28.heap.size, u0.heap.size, g, rfl, T10.out, U10.out, D10.out, y6, y7⟩
            exact AllReadyH.nil
          refine AllReadyH.cons (o := ⟨some 9, .alloc 25, _, _, _, _⟩) rfl (fun K hK => ?_) ?_
          · go_simp
            have A6u30 := Lib.hid (zeroBox u27)
            have sA6u30 := Lib.hid Du27.out.size
            have lu30 := Lib.hid A7u27.out.lt
            have A7u30 := Lib.hid (A7u27.out.box (.cells #[.int .u32 0, .int .u32 0, .int .u32 0, .int .u32 0, .int .u32 0, .int .u32 0, .int .u32 0, .int .u32 0, .int .u32 0, .int .u32 0, .int .u32 0, .int .u32 0, .int .u32 0, .int .u32 0, .int .u32 0, .int .u32 0, .int .u32 0] 25))
            have Cu30 := Lib.hid (Cu27.out.kept ((Below.refl _ _).alloc (Nat.le_refl _) (.cells #[.int .u32 0, .int .u32 0, .int .u32 0, .int .u32 0, .int .u32 0, .int .u32 0, .int .u32 0, .int .u32 0, .int .u32 0, .int .u32 0, .int .u32 0, .int .u32 0, .int .u32 0, .int .u32 0, .int .u32 0, .int .u32 0, .int .u32 0] 25)))
            have Du30 := Lib.hid (Du27.out.alloc Du27.out.size (.cells #[.int .u32 0, .int .u32 0, .int .u32 0, .int .u32 0, .int .u32 0, .int .u32 0, .int .u32 0, .int .u32 0, .int .u32 0, .int .u32 0, .int .u32 0, .int .u32 0, .int .u32 0, .int .u32 0, .int .u32 0, .int .u32 0, .int .u32 0] 25))
            refine hK.out _ _ (X5.out.kept Du30.out) (fun _ => ?_)
            clear hK K
            generalize u27.alloc (.cells #[.int .u32 0, .int .u32 0, .int .u32 0, .int .u32 0, .int .u32 0, .int .u32 0, .int .u32 0, .int .u32 0, .int .u32 0, .int .u32 0, .int .u32 0, .int .u32 0, .int .u32 0, .int .u32 0, .int .u32 0, .int .u32 0, .int .u32 0] 25) = u30 at *
            refine wpAnyH_ready (rs := [2]) (by kernel_rfl) (by simp) ?_
            refine AllReadyH.cons (o := ⟨some 39, .call _, _, _, _, _⟩) rfl (fun K hK => ?_) ?_
            · go_simp
              refine (run_mul a b g u30 ha1 ha2 HB.out (HE.out.kept (B5.out.trans (Du30.out.mono B5.out.size))) Cu30.out).mono ?_
              rw [HV2.out]
              rintro e u31 ⟨rfl, hb⟩
              have Du31 := Lib.hid (Du30.out.trans (hb.mono Du30.out.size))
              have A6u31 := Lib.hid (A6u30.out.kept hb)
              have A7u31 := Lib.hid (A7u30.out.kept hb)
              refine hK.out _ _ (X5.out.kept Du31.out) (fun _ => ?_)
              clear hK K hb
              refine wpAnyH_take (i := 3) (oi := ⟨some 36, .move (.tmp 39), _, _, _, _⟩) (v := (.tuple #[.agg (stL R2 Q2).toArray, .agg #[.int .i64 11, .int .i64 0, .int .u32 0, .int .u32 0], .int .i64 k2])) rfl (by kernel_rfl) (by kernel_rfl) (by kernel_rfl) (fun _ _ _ h => absurd h.1 (by simp)) (Or.inl ⟨by rfl, fun _ _ => rfl⟩) (X5.out.kept Du31.out) ?_
              refine wpAnyH_take (i := 4) (oi := ⟨some 40, .extract (.tmp 36) 0, _, _, _, _⟩) (v := .agg (stL R2 Q2).toArray) rfl (by kernel_rfl) (by kernel_rfl) (by kernel_rfl) (fun _ _ _ h => absurd h.1 (by simp)) (Or.inl ⟨by rfl, fun _ _ => rfl⟩) (X5.out.kept Du31.out) ?_
              refine wpAnyH_take (i := 5) (oi := ⟨some 41, .extract (.tmp 36) 1, _, _, _, _⟩) (v := .agg #[.int .i64 11, .int .i64 0, .int .u32 0, .int .u32 0]) rfl (by kernel_rfl) (by kernel_rfl) (by kernel_rfl) (fun _ _ _ h => absurd h.1 (by simp)) (Or.inl ⟨by rfl, fun _ _ => rfl⟩) (X5.out.kept Du31.out) ?_
              refine wpAnyH_take (i := 6) (oi := ⟨some 42, .extract (.tmp 36) 2, _, _, _, _⟩) (v := .int .i64 k2) rfl (by kernel_rfl) (by kernel_rfl) (by kernel_rfl) (fun _ _ _ h => absurd h.1 (by simp)) (Or.inl ⟨by rfl, fun _ _ => rfl⟩) (X5.out.kept Du31.out) ?_
              simp only [Act.put, List.setIfInBounds_toArray, List.set_cons_zero, List.set_cons_succ]
              have y5 := X5.out.lt
              have y6 := sA6u30.out
              have y7 := sA7u26.out
              have y8 := lu30.out
              refine wpAnyH_ready (rs := [9]) (by kernel_rfl) (by simp) ?_
              refine AllReadyH.cons (o := ⟨none, .store 25 (.tmp 9) (.tmp 40), _, _, _, _⟩) rfl (fun K hK => ?_) AllReadyH.nil
              rw [if_pos (by rfl)]
              refine so_store (.tmp 9) (.tmp 40) u27.heap.size (stL (fun _ => 0) 0) (stL R2 Q2) rfl rfl rfl A6u31.out (stL_len _ _ _ _) (stL_inf _ _) (stL_is _ _).one ?_
              have T9 := Lib.hid (A6u31.out.stored (l' := (stL R2 Q2)) (stL_len _ _ _ _))
              have U9 := Lib.hid (A7u31.out.apart (b' := u27.heap.size) (by omega) (stL R2 Q2))
              have D9 := Lib.hid (below_setCells (b := u27.heap.size) (stL R2 Q2) 0 _ Du31.out y6)
              refine hK.out _ _ (X5.out.kept D9.out) (fun _ => ?_)
              clear hK K
              simp only [Act.put]
              generalize (u31.setCells u27.heap.size 0 (stL R2 Q2)) = v9 at *
              refine wpAnyH_ready (rs := [10]) (by kernel_rfl) (by simp) ?_
              refine AllReadyH.cons (o := ⟨none, .store 28 (.tmp 10) (.tmp 41), _, _, _, _⟩) rfl (fun K hK => ?_) AllReadyH.nil
              rw [if_pos (by rfl)]
              refine so_store (.tmp 10) (.tmp 41) u0.heap.size _ [.int .i64 11, .int .i64 0, .int .u32 0, .int .u32 0] rfl rfl rfl U9.out rfl (by kernel_rfl) (one4 _ _ _ _) ?_
              have T10 := Lib.hid (T9.out.apart (b' := u0.heap.size) (by omega) [.int .i64 11, .int .i64 0, .int .u32 0, .int .u32 0])
              have U10 := Lib.hid (U9.out.stored (l' := [.int .i64 11, .int .i64 0, .int .u32 0, .int .u32 0]) rfl)
              have D10 := Lib.hid (below_setCells (b := u0.heap.size) [.int .i64 11, .int .i64 0, .int .u32 0, .int .u32 0] 0 _ D9.out y7)
              refine hK.out _ _ (X5.out.kept D10.out) (fun _ => ?_)
              clear hK K
              simp only [Act.put]
              generalize (v9.setCells u0.heap.size 0 [.int .i64 11, .int .i64 0, .int .u32 0, .int .u32 0]) = v10 at *
              refine wpAnyH_ready (rs := [11]) (by kernel_rfl) (by simp) ?_
              refine AllReadyH.cons (o := ⟨some 11, .assign (.tmp 42), _, _, _, _⟩) rfl (fun K hK => ?_) AllReadyH.nil
              go_simp
              refine hK.out _ _ (X5.out.kept D10.out) (fun _ => ?_)
              clear hK K
              refine wpAnyH_done (by kernel_rfl) ?_ _
              exact ⟨rfl, u27.heap.size, u0.heap.size, g, rfl, T10.out, U10.out, D10.out, y6, y7⟩
            exact AllReadyH.nil
          exact AllReadyH.nil
        refine AllReadyH.cons (o := ⟨some 9, .alloc 25, _, _, _, _⟩) rfl (fun K hK => ?_) ?_
        · go_simp
          have A6u32 := Lib.hid (zeroBox u26)
          have sA6u32 := Lib.hid Du26.out.size
          have lu32 := Lib.hid A7u26.out.lt
          have A7u32 := Lib.hid (A7u26.out.box (.cells #[.int .u32 0, .int .u32 0, .int .u32 0, .int .u32 0, .int .u32 0, .int .u32 0, .int .u32 0, .int .u32 0, .int .u32 0, .int .u32 0, .int .u32 0, .int .u32 0, .int .u32 0, .int .u32 0, .int .u32 0, .int .u32 0, .int .u32 0] 25))
          have Du32 := Lib.hid (Du26.out.alloc Du26.out.size (.cells #[.int .u32 0, .int .u32 0, .int .u32 0, .int .u32 0, .int .u32 0, .int .u32 0, .int .u32 0, .int .u32 0, .int .u32 0, .int .u32 0, .int .u32 0, .int .u32 0, .int .u32 0, .int .u32 0, .int .u32 0, .int .u32 0, .int .u32 0] 25))
          refine hK.out _ _ (X5.out.kept Du32.out) (fun _ => ?_)
          clear hK K
          generalize u26.alloc (.cells #[.int .u32 0, .int .u32 0, .int .u32 0, .int .u32 0, .int .u32 0, .int .u32 0, .int .u32 0, .int .u32 0, .int .u32 0, .int .u32 0, .int .u32 0, .int .u32 0, .int .u32 0, .int .u32 0, .int .u32 0, .int .u32 0, .int .u32 0] 25) = u32 at *
          refine wpAnyH_ready (rs := [1]) (by kernel_rfl) (by simp) ?_
          refine AllReadyH.cons (o := ⟨some 38, .call _, _, _, _, _⟩) rfl (fun K hK => ?_) ?_
          · go_simp
            refine (code_T P2 _ _ (HE.out.kept (B5.out.trans (Du32.out.mono B5.out.size))) p2_s (by decide) P2_right).mono ?_
            rintro e u33 ⟨g, rfl, hc, hb⟩
            rw [show 4 * P2.length = 8 from rfl]
            have Cu33 := Lib.hid (show CodeIn u33 (some ⟨g, 0, none⟩) 8 (zT P2) from hc)
            have Du33 := Lib.hid (Du32.out.trans (hb.mono Du32.out.size))
            have A6u33 := Lib.hid (A6u32.out.kept hb)
            have A7u33 := Lib.hid (A7u32.out.kept hb)
            refine hK.out _ _ (X5.out.kept Du33.out) (fun _ => ?_)
            clear hK K hb hc
            refine wpAnyH_ready (rs := [2]) (by kernel_rfl) (by simp) ?_
            refine AllReadyH.cons (o := ⟨some 39, .call _, _, _, _, _⟩) rfl (fun K hK => ?_) ?_
            · go_simp
              refine (run_mul a b g u33 ha1 ha2 HB.out (HE.out.kept (B5.out.trans (Du33.out.mono B5.out.size))) Cu33.out).mono ?_
              rw [HV2.out]
              rintro e u34 ⟨rfl, hb⟩
              have Du34 := Lib.hid (Du33.out.trans (hb.mono Du33.out.size))
              have A6u34 := Lib.hid (A6u33.out.kept hb)
              have A7u34 := Lib.hid (A7u33.out.kept hb)
              refine hK.out _ _ (X5.out.kept Du34.out) (fun _ => ?_)
              clear hK K hb
              refine wpAnyH_take (i := 3) (oi := ⟨some 36, .move (.tmp 39), _, _, _, _⟩) (v := (.tuple #[.agg (stL R2 Q2).toArray, .agg #[.int .i64 11, .int .i64 0, .int .u32 0, .int .u32 0], .int .i64 k2])) rfl (by kernel_rfl) (by kernel_rfl) (by kernel_rfl) (fun _ _ _ h => absurd h.1 (by simp)) (Or.inl ⟨by rfl, fun _ _ => rfl⟩) (X5.out.kept Du34.out) ?_
              refine wpAnyH_take (i := 4) (oi := ⟨some 40, .extract (.tmp 36) 0, _, _, _, _⟩) (v := .agg (stL R2 Q2).toArray) rfl (by kernel_rfl) (by kernel_rfl) (by kernel_rfl) (fun _ _ _ h => absurd h.1 (by simp)) (Or.inl ⟨by rfl, fun _ _ => rfl⟩) (X5.out.kept Du34.out) ?_
              refine wpAnyH_take (i := 5) (oi := ⟨some 41, .extract (.tmp 36) 1, _, _, _, _⟩) (v := .agg #[.int .i64 11, .int .i64 0, .int .u32 0, .int .u32 0]) rfl (by kernel_rfl) (by kernel_rfl) (by kernel_rfl) (fun _ _ _ h => absurd h.1 (by simp)) (Or.inl ⟨by rfl, fun _ _ => rfl⟩) (X5.out.kept Du34.out) ?_
              refine wpAnyH_take (i := 6) (oi := ⟨some 42, .extract (.tmp 36) 2, _, _, _, _⟩) (v := .int .i64 k2) rfl (by kernel_rfl) (by kernel_rfl) (by kernel_rfl) (fun _ _ _ h => absurd h.1 (by simp)) (Or.inl ⟨by rfl, fun _ _ => rfl⟩) (X5.out.kept Du34.out) ?_
              simp only [Act.put, List.setIfInBounds_toArray, List.set_cons_zero, List.set_cons_succ]
              have y5 := X5.out.lt
              have y6 := sA6u32.out
              have y7 := sA7u26.out
              have y8 := lu32.out
              refine wpAnyH_ready (rs := [9]) (by kernel_rfl) (by simp) ?_
              refine AllReadyH.cons (o := ⟨none, .store 25 (.tmp 9) (.tmp 40), _, _, _, _⟩) rfl (fun K hK => ?_) AllReadyH.nil
              rw [if_pos (by rfl)]
              refine so_store (.tmp 9) (.tmp 40) u26.heap.size (stL (fun _ => 0) 0) (stL R2 Q2) rfl rfl rfl A6u34.out (stL_len _ _ _ _) (stL_inf _ _) (stL_is _ _).one ?_
              have T9 := Lib.hid (A6u34.out.stored (l' := (stL R2 Q2)) (stL_len _ _ _ _))
              have U9 := Lib.hid (A7u34.out.apart (b' := u26.heap.size) (by omega) (stL R2 Q2))
              have D9 := Lib.hid (below_setCells (b := u26.heap.size) (stL R2 Q2) 0 _ Du34.out y6)
              refine hK.out _ _ (X5.out.kept D9.out) (fun _ => ?_)
              clear hK K
              simp only [Act.put]
              generalize (u34.setCells u26.heap.size 0 (stL R2 Q2)) = v9 at *
              refine wpAnyH_ready (rs := [10]) (by kernel_rfl) (by simp) ?_
              refine AllReadyH.cons (o := ⟨none, .store 28 (.tmp 10) (.tmp 41), _, _, _, _⟩) rfl (fun K hK => ?_) AllReadyH.nil
              rw [if_pos (by rfl)]
              refine so_store (.tmp 10) (.tmp 41) u0.heap.size _ [.int .i64 11, .int .i64 0, .int .u32 0, .int .u32 0] rfl rfl rfl U9.out rfl (by kernel_rfl) (one4 _ _ _ _) ?_
              have T10 := Lib.hid (T9.out.apart (b' := u0.heap.size) (by omega) [.int .i64 11, .int .i64 0, .int .u32 0, .int .u32 0])
              have U10 := Lib.hid (U9.out.stored (l' := [.int .i64 11, .int .i64 0, .int .u32 0, .int .u32 0]) rfl)
              have D10 := Lib.hid (below_setCells (b := u0.heap.size) [.int .i64 11, .int .i64 0, .int .u32 0, .int .u32 0] 0 _ D9.out y7)
              refine hK.out _ _ (X5.out.kept D10.out) (fun _ => ?_)
              clear hK K
              simp only [Act.put]
              generalize (v9.setCells u0.heap.size 0 [.int .i64 11, .int .i64 0, .int .u32 0, .int .u32 0]) = v10 at *
              refine wpAnyH_ready (rs := [11]) (by kernel_rfl) (by simp) ?_
              refine AllReadyH.cons (o := ⟨some 11, .assign (.tmp 42), _, _, _, _⟩) rfl (fun K hK => ?_) AllReadyH.nil
              go_simp
              refine hK.out _ _ (X5.out.kept D10.out) (fun _ => ?_)
              clear hK K
              refine wpAnyH_done (by kernel_rfl) ?_ _
              exact ⟨rfl, u26.heap.size, u0.heap.size, g, rfl, T10.out, U10.out, D10.out, y6, y7⟩
            exact AllReadyH.nil
          exact AllReadyH.nil
        exact AllReadyH.nil
      exact AllReadyH.nil
    · intro n' m' g' w6 hG
      have t3 := (T5.out.kept hG.2.2.1).at 3 ((stL_is _ _).reg 3 (by decide))
      have u0 := (U5.out.kept hG.2.2.1).at 0 rfl
      have t3' := hG.1.at 3 ((stL_is _ _).reg 3 (by decide))
      have u0' := hG.2.1.at 0 rfl
      have B6 := Lib.hid (B5.out.trans (hG.2.2.1.mono B5.out.size))
      rw [hr1] at t3
      rw [hr2] at t3'
      clear hG
      simp only [Act.put, List.setIfInBounds_toArray, List.set_cons_zero, List.set_cons_succ]
      go_wp2
      go_ret
      exact ⟨rfl, B6.out⟩
end Go.Proofs.YtlfhcnpbgbnadaaDoor.aluSums
