/-
  What is done in stage's Merge, MapRun and Map. Conditions: that a space lies there that tells its pages, and that each argument is of its Go type.
-/
import Derived.Test.YtiiggmfindfkfaaGreatStClo
namespace Go.Proofs.YtiiggmfindfkfaaGreat
open Go.RowKit Nt
namespace St
open Ph En Wk
variable {L : Loc} {v : Value} {x x1 : Pl} {A A1 : Nat → Fst}
section
variable (i : Int) (bs bp : Nat) (w : World) (hS : St L w v x) (hR : Rep L.n x A) (hl : x.log = []) (Bs : Bx L w v bs (.pointer (some ⟨L.s, 0, none⟩))) (Bp : Bx L w v bp (.int .i64 i))
include hS hR hl Bs Bp
theorem mer1_any : Calls Tryz.prog 69 #[.pointer (some ⟨bp, 0, none⟩), .pointer (some ⟨bs, 0, none⟩)] w (CEnd L v (merP L.n L.vm x A i).k (merP L.n L.vm x A i).x w) := by
  have cs := Bs.c
  have cp := Bp.c
  have fb := fieldB
  cases hr : inR 64 i with
  | false =>
    have e1 : merP L.n L.vm x A i = ⟨11, x, A⟩ := by unfold merP; rw [if_pos hr]
    rw [e1]
    have HN := Lib.hid (show ¬ (0 ≤ i ∧ i < 64) from fun h => by have := inR_iff.2 h; rw [hr] at this; cases this)
    have HS := Lib.hid hS
    clear hr e1 hS hR hl Bs Bp
    go_enter Tryz.func69, Tryz.ntmps69
    go_wp2_with fail
    refine (needFirst_no i w HN.out).mono ?_
    rintro e w1 ⟨rfl, rfl⟩
    unfold panE
    exact ⟨rfl, cend_pan (k := 11) (by decide) HS.out (Hop.refl _ _ _)⟩
  | true =>
    obtain ⟨k, rfl, hk⟩ := inR_nat hr
    have hf := hR.few
    have HS := Lib.hid hS
    have HR := Lib.hid hR
    have X0 := Lib.hid Bs
    have X1 := Lib.hid Bp
    have NO : ∀ (V W X B : Bool) (f : Int), (V && !B) = false → entOf (A k).W = ⟨V, W, X, B, f⟩ → merP L.n L.vm x A k = ⟨12, x, A⟩ → Calls Tryz.prog 69 #[.pointer (some ⟨bp, 0, none⟩), .pointer (some ⟨bs, 0, none⟩)] w (CEnd L v (merP L.n L.vm x A k).k (merP L.n L.vm x A k).x w) := by
      intro V W X B f hB hE e1
      rw [e1]
      have HE := Lib.hid hE
      have HB := Lib.hid hB
      clear hr e1 hS hR hl Bs Bp hB hE
      go_enter Tryz.func69, Tryz.ntmps69
      go_wp2_with (go_at_call 66; refine (needFirst_yes _ _ (by omega)).mono ?_; rintro e w' ⟨rfl, rfl⟩)
      refine (first_rep k w HS.out HR.out hk _ _ _ _ _ HE.out).mono ?_
      rintro e w1 ⟨rfl, b1⟩
      have S2 := Lib.hid ((HS.out.below b1).alloc (.cells #[.bool V, .bool W, .bool X, .bool B, .int .i64 f] 62))
      have O2 := Lib.hid ((Only.of b1 L.S).trans (Only.alloc L.S w1 (.cells #[.bool V, .bool W, .bool X, .bool B, .int .i64 f] 62)))
      clear b1 HS HR HE X0 X1
      go_wp2_with fail
      refine (isTable_any _ _ _ _ _ _).mono ?_
      rw [HB.out]
      rintro e w2 ⟨rfl, b2⟩
      have S3 := Lib.hid (S2.out.below b2)
      have O3 := Lib.hid (O2.out.trans (Only.of b2 L.S))
      clear b2 S2 O2
      go_wp2_with fail
      refine (need_no _ _).mono ?_
      rintro e w' ⟨rfl, rfl⟩
      unfold panE
      exact ⟨rfl, cend_pan (k := 12) (by decide) S3.out (Hop.of O3.out v)⟩
    cases hA : A k with
    | no => exact NO false false false false 0 rfl (by rw [hA]; exact entOf_0) (by unfold merP; rw [if_neg (by rw [hr]; simp), Int.toNat_natCast, hA])
    | blk bw be F =>
      have hF : F + 64 ≤ L.n := by have := hR.ok k hk; rw [hA] at this; exact this.2
      exact NO true bw be true F (by simp) (by rw [hA]; exact entOf_lw _ _ _ (by omega) (by omega)) (by unfold merP; rw [if_neg (by rw [hr]; simp), Int.toNat_natCast, hA])
    | tab t pg =>
      clear NO
      have htn := (hR.tabAt hk hA).1
      have HE := Lib.hid (show entOf (A k).W = ⟨true, false, false, false, t⟩ by rw [hA]; exact entOf_lw _ _ _ (by omega) (by omega))
      have HA := Lib.hid hA
      cases hm : mrg pg with
      | none =>
        have e0 : merP L.n L.vm x A k = ⟨20, x, A⟩ := by unfold merP; rw [if_neg (by rw [hr]; simp), Int.toNat_natCast, hA]; simp only [hm]
        rw [e0]
        have HM := Lib.hid hm
        clear hr e0 hS hR hl Bs Bp hA hm
        go_enter Tryz.func69, Tryz.ntmps69
        go_wp2_with (go_at_call 66; refine (needFirst_yes _ _ (by omega)).mono ?_; rintro e w' ⟨rfl, rfl⟩)
        refine (first_rep k w HS.out HR.out hk _ _ _ _ _ HE.out).mono ?_
        rintro e w1 ⟨rfl, b1⟩
        have O2 := Lib.hid ((Only.of b1 L.S).trans (Only.alloc L.S w1 (.cells #[.bool true, .bool false, .bool false, .bool false, .int .i64 t] 62)))
        have S2 := Lib.hid ((HS.out.below b1).alloc (.cells #[.bool true, .bool false, .bool false, .bool false, .int .i64 t] 62))
        have Y2 := Lib.hid (Tl.Lay.new w1 62 [.bool true, .bool false, .bool false, .bool false, .int .i64 t])
        have I2 := Lib.hid ((X0.out.below b1).alloc (.cells #[.bool true, .bool false, .bool false, .bool false, .int .i64 t] 62))
        have J2 := Lib.hid ((X1.out.below b1).alloc (.cells #[.bool true, .bool false, .bool false, .bool false, .int .i64 t] 62))
        have NX := Lib.hid (show w1.heap.size ∉ L.S ∧ v.ownBlock ≠ some w1.heap.size from ⟨S_all fun h => by have := (HS.out.below b1).lts _ h; omega, (HS.out.below b1).off (Nat.le_refl _)⟩)
        clear b1 HS X0 X1 cs cp
        go_wp2_with (first | (go_at_call 70; refine (isTable_any _ _ _ _ _ _).mono ?_; rintro e w2 ⟨rfl, b2⟩) | fail)
        have O3 := Lib.hid (O2.out.trans (Only.of b2 L.S))
        have S3 := Lib.hid (S2.out.below b2)
        have Y3 := Lib.hid (Y2.out.kept (Only.of b2 []) (by simp))
        have I3 := Lib.hid (I2.out.below b2)
        have J3 := Lib.hid (J2.out.below b2)
        clear b2 O2 S2 Y2 I2 J2
        generalize w1.heap.size = bx at *
        go_wp2_with (first | (go_at_call 56; refine (need_yes _ _).mono ?_; rintro e w' ⟨rfl, rfl⟩) | fail)
        have S4 := Lib.hid (S3.out.drewN 1)
        have O4 := Lib.hid (O3.out.trans (Only.drewN L.S w2 1))
        have Y4 := Lib.hid (Y3.out.kept (Only.drewN [] w2 1) (by simp))
        have I4 := Lib.hid (I3.out.drewN 1)
        have J4 := Lib.hid (J3.out.drewN 1)
        change Hid (St L w2.drew v x) at S4
        change Hid (Only L.S w w2.drew) at O4
        change Hid (Tl.Lay w2.drew _ _ _) at Y4
        change Hid (Bx L w2.drew v _ _) at I4
        change Hid (Bx L w2.drew v _ _) at J4
        clear S3 O3 Y3 I3 J3
        have y4 := Y4.out.cell 4
        simp only [List.getElem?_cons_zero, List.getElem?_cons_succ] at y4
        refine wp_region_held_drew (S := fun w' => w'.cell? ⟨bs, 0, none⟩ = some (.pointer (some ⟨L.s, 0, none⟩)) ∧ w'.cell? ⟨bp, 0, none⟩ = some (.int .i64 (k : Int)) ∧ w'.cell? ⟨bx, 4, none⟩ = some (.int .i64 (t : Int))) (by kernel_rfl) ⟨I4.out.c, J4.out.c, y4⟩ (fun hHeld => ?_)
        generalize w2.drew = u4 at *
        refine wpAnyH_take (i := 0) (v := (.pointer (some ⟨L.s, 0, none⟩))) rfl (by kernel_rfl) (by kernel_rfl) (by kernel_rfl) (fun _ _ _ h => h) (y_sp (bs) 0 (some ⟨L.s, 0, none⟩) (.tmp 1) (by kernel_rfl) (fun _ h => h.1) rfl rfl) hHeld ?_
        try simp only [Act.put, List.setIfInBounds_toArray]
        refine wpAnyH_take (i := 1) (v := (.int .i64 (k : Int))) rfl (by kernel_rfl) (by kernel_rfl) (by kernel_rfl) (fun _ _ _ h => h) (y_int (bp) 0 (k) (.tmp 0) (by kernel_rfl) (fun _ h => h.2.1) rfl rfl) hHeld ?_
        try simp only [Act.put]
        refine wpAnyH_take (i := 2) (v := (.pointer (some ⟨L.s, 0, none⟩))) rfl (by kernel_rfl) (by kernel_rfl) (by kernel_rfl) (fun _ _ _ h => h) (y_sp (bs) 0 (some ⟨L.s, 0, none⟩) (.tmp 1) (by kernel_rfl) (fun _ h => h.1) rfl rfl) hHeld ?_
        try simp only [Act.put]
        refine wpAnyH_take (i := 3) (v := (.pointer (some ⟨bx, 4, none⟩))) rfl (by kernel_rfl) (by kernel_rfl) (by kernel_rfl) (fun _ _ _ h => h) (y_run (by kernel_rfl) (fun _ => by kernel_rfl)) hHeld ?_
        try simp only [Act.put]
        refine wpAnyH_take (i := 4) (v := (.int .i64 (t : Int))) rfl (by kernel_rfl) (by kernel_rfl) (by kernel_rfl) (fun _ _ _ h => h) (y_int (bx) 4 (t) (.tmp 14) (by kernel_rfl) (fun _ h => h.2.2) rfl rfl) hHeld ?_
        try simp only [Act.put]
        refine wpAnyH_ready (rs := [5]) (by kernel_rfl) (by simp) ?_
        refine AllReadyH.cons (o := ⟨some 16, .call _, _, _, _, _⟩) rfl (fun K hK => ?_) AllReadyH.nil
        go_simp
        refine (whole_no k t pg u4 S4.out HR.out hk HA.out HM.out).mono ?_
        rintro e w5 ⟨rfl, b5⟩
        unfold panE
        exact ⟨rfl, cend_pan (k := 20) (by decide) (S4.out.below b5) (Hop.of (O4.out.trans (Only.of b5 L.S)) v)⟩
      | some y =>
        obtain ⟨bw, be, F⟩ := y
        have e0 : merP L.n L.vm x A k = ⟨0, ((x.chg L.n L.vm (256 * x.root + 4 * k) (Fst.blk bw be F).W).gave t), setA A k (.blk bw be F)⟩ := by unfold merP; rw [if_neg (by rw [hr]; simp), Int.toNat_natCast, hA]; simp only [hm, repP_at hA]
        rw [e0]
        have HM := Lib.hid (mrg_some hm)
        have hF : F + 63 < L.n := ((hR.tabAt hk hA).2.2.2 63 (by omega)).2 _ _ _ ((mrg_some hm).2 63 (by omega))
        have hl0 : x.log.length ≤ 100 := by rw [hl]; simp
        clear hr e0 hS hR hl Bs Bp hA hm
        go_enter Tryz.func69, Tryz.ntmps69
        go_wp2_with (go_at_call 66; refine (needFirst_yes _ _ (by omega)).mono ?_; rintro e w' ⟨rfl, rfl⟩)
        refine (first_rep k w HS.out HR.out hk _ _ _ _ _ HE.out).mono ?_
        rintro e w1 ⟨rfl, b1⟩
        have O2 := Lib.hid ((Only.of b1 L.S).trans (Only.alloc L.S w1 (.cells #[.bool true, .bool false, .bool false, .bool false, .int .i64 t] 62)))
        have S2 := Lib.hid ((HS.out.below b1).alloc (.cells #[.bool true, .bool false, .bool false, .bool false, .int .i64 t] 62))
        have Y2 := Lib.hid (Tl.Lay.new w1 62 [.bool true, .bool false, .bool false, .bool false, .int .i64 t])
        have I2 := Lib.hid ((X0.out.below b1).alloc (.cells #[.bool true, .bool false, .bool false, .bool false, .int .i64 t] 62))
        have J2 := Lib.hid ((X1.out.below b1).alloc (.cells #[.bool true, .bool false, .bool false, .bool false, .int .i64 t] 62))
        have NX := Lib.hid (show w1.heap.size ∉ L.S ∧ v.ownBlock ≠ some w1.heap.size from ⟨S_all fun h => by have := (HS.out.below b1).lts _ h; omega, (HS.out.below b1).off (Nat.le_refl _)⟩)
        clear b1 HS X0 X1 cs cp
        go_wp2_with (first | (go_at_call 70; refine (isTable_any _ _ _ _ _ _).mono ?_; rintro e w2 ⟨rfl, b2⟩) | fail)
        have O3 := Lib.hid (O2.out.trans (Only.of b2 L.S))
        have S3 := Lib.hid (S2.out.below b2)
        have Y3 := Lib.hid (Y2.out.kept (Only.of b2 []) (by simp))
        have I3 := Lib.hid (I2.out.below b2)
        have J3 := Lib.hid (J2.out.below b2)
        clear b2 O2 S2 Y2 I2 J2
        generalize w1.heap.size = bx at *
        go_wp2_with (first | (go_at_call 56; refine (need_yes _ _).mono ?_; rintro e w' ⟨rfl, rfl⟩) | fail)
        have S4 := Lib.hid (S3.out.drewN 1)
        have O4 := Lib.hid (O3.out.trans (Only.drewN L.S w2 1))
        have Y4 := Lib.hid (Y3.out.kept (Only.drewN [] w2 1) (by simp))
        have I4 := Lib.hid (I3.out.drewN 1)
        have J4 := Lib.hid (J3.out.drewN 1)
        change Hid (St L w2.drew v x) at S4
        change Hid (Only L.S w w2.drew) at O4
        change Hid (Tl.Lay w2.drew _ _ _) at Y4
        change Hid (Bx L w2.drew v _ _) at I4
        change Hid (Bx L w2.drew v _ _) at J4
        clear S3 O3 Y3 I3 J3
        have y4 := Y4.out.cell 4
        simp only [List.getElem?_cons_zero, List.getElem?_cons_succ] at y4
        refine wp_region_held_drew (S := fun w' => w'.cell? ⟨bs, 0, none⟩ = some (.pointer (some ⟨L.s, 0, none⟩)) ∧ w'.cell? ⟨bp, 0, none⟩ = some (.int .i64 (k : Int)) ∧ w'.cell? ⟨bx, 4, none⟩ = some (.int .i64 (t : Int))) (by kernel_rfl) ⟨I4.out.c, J4.out.c, y4⟩ (fun hHeld => ?_)
        generalize w2.drew = u4 at *
        refine wpAnyH_take (i := 0) (v := (.pointer (some ⟨L.s, 0, none⟩))) rfl (by kernel_rfl) (by kernel_rfl) (by kernel_rfl) (fun _ _ _ h => h) (y_sp (bs) 0 (some ⟨L.s, 0, none⟩) (.tmp 1) (by kernel_rfl) (fun _ h => h.1) rfl rfl) hHeld ?_
        try simp only [Act.put, List.setIfInBounds_toArray]
        refine wpAnyH_take (i := 1) (v := (.int .i64 (k : Int))) rfl (by kernel_rfl) (by kernel_rfl) (by kernel_rfl) (fun _ _ _ h => h) (y_int (bp) 0 (k) (.tmp 0) (by kernel_rfl) (fun _ h => h.2.1) rfl rfl) hHeld ?_
        try simp only [Act.put]
        refine wpAnyH_take (i := 2) (v := (.pointer (some ⟨L.s, 0, none⟩))) rfl (by kernel_rfl) (by kernel_rfl) (by kernel_rfl) (fun _ _ _ h => h) (y_sp (bs) 0 (some ⟨L.s, 0, none⟩) (.tmp 1) (by kernel_rfl) (fun _ h => h.1) rfl rfl) hHeld ?_
        try simp only [Act.put]
        refine wpAnyH_take (i := 3) (v := (.pointer (some ⟨bx, 4, none⟩))) rfl (by kernel_rfl) (by kernel_rfl) (by kernel_rfl) (fun _ _ _ h => h) (y_run (by kernel_rfl) (fun _ => by kernel_rfl)) hHeld ?_
        try simp only [Act.put]
        refine wpAnyH_take (i := 4) (v := (.int .i64 (t : Int))) rfl (by kernel_rfl) (by kernel_rfl) (by kernel_rfl) (fun _ _ _ h => h) (y_int (bx) 4 (t) (.tmp 14) (by kernel_rfl) (fun _ h => h.2.2) rfl rfl) hHeld ?_
        try simp only [Act.put]
        refine wpAnyH_ready (rs := [5]) (by kernel_rfl) (by simp) ?_
        refine AllReadyH.cons (o := ⟨some 16, .call _, _, _, _, _⟩) rfl (fun K hK => ?_) AllReadyH.nil
        go_simp
        refine (whole_yes k t pg bw be F u4 S4.out HR.out hk HA.out HM.out.1 HM.out.2).mono ?_
        rintro e w5 ⟨rfl, b5⟩
        have S5 := Lib.hid (S4.out.below b5)
        have O5 := Lib.hid (O4.out.trans (Only.of b5 L.S))
        have y5 := (Y4.out.kept (Only.of b5 []) (by simp)).cell 4
        simp only [List.getElem?_cons_zero, List.getElem?_cons_succ] at y5
        refine hK.out _ _ ⟨(I4.out.below b5).c, (J4.out.below b5).c, y5⟩ (fun hHeld => ?_)
        have I5 := Lib.hid (I4.out.below b5)
        have J5 := Lib.hid (J4.out.below b5)
        have Y5 := Lib.hid (Y4.out.kept (Only.of b5 []) (by simp))
        clear hK K b5 S4 O4 Y4 I4 J4 y4 y5
        try simp only [Act.put, List.setIfInBounds_toArray, List.set_cons_zero, List.set_cons_succ]
        refine wpAnyH_ready (rs := [6]) (by kernel_rfl) (by simp) ?_
        refine AllReadyH.cons (o := ⟨some 17, .call _, _, _, _, _⟩) rfl (fun K hK => ?_) AllReadyH.nil
        go_simp
        refine (replace_any k t pg true bw be true F (Fst.blk bw be F).W w5 S5.out HR.out hk HA.out (by omega) (encN_lw _ _ _ (by omega) (by omega))).mono ?_
        rintro e w6 ⟨rfl, v6, hS, hP⟩
        have y6 := (hP.lay Y5.out NX.out.1 NX.out.2).cell 4
        simp only [List.getElem?_cons_zero, List.getElem?_cons_succ] at y6
        have F6 := Lib.hid (And.intro hS ((Hop.of O5.out v).trans hP))
        refine hK.out _ _ ⟨(I5.out.hop hP).c, (J5.out.hop hP).c, y6⟩ (fun hHeld => ?_)
        clear hK K S5 O5 Y5 I5 J5 y6 hS hP
        try simp only [Act.put, List.setIfInBounds_toArray, List.set_cons_zero, List.set_cons_succ]
        refine wpAnyH_done (by kernel_rfl) ?_ _
        go_wp2
        go_end0
        exact cend_ok F6.out.1 F6.out.2
end
section
variable (p f : Int) (we ex : Bool) (bp bs bf bw be : Nat) (w : World) (hS : St L w v x) (hR : Rep L.n x A) (hl : x.log = []) (Bp : Bx L w v bp (.int .i64 p)) (Bs : Bx L w v bs (.pointer (some ⟨L.s, 0, none⟩))) (Bf : Bx L w v bf (.int .i64 f)) (Bw : Bx L w v bw (.bool we)) (Be : Bx L w v be (.bool ex))
include hS hR hl Bp Bs Bf Bw Be
set_option maxRecDepth 100000 in
theorem run1_any : Calls Tryz.prog 65 #[.pointer (some ⟨bp, 0, none⟩), .pointer (some ⟨bs, 0, none⟩), .pointer (some ⟨bf, 0, none⟩), .pointer (some ⟨bw, 0, none⟩), .pointer (some ⟨be, 0, none⟩)] w (CEnd L v (runM L.n L.vm x A p f we ex).k (runM L.n L.vm x A p f we ex).x w) := by
  have cp := Bp.c
  have cs := Bs.c
  have cf := Bf.c
  have cw := Bw.c
  have ce := Be.c
  have fv := fieldV
  have ff := fieldF
  have HS := Lib.hid hS
  by_cases h1 : 0 ≤ p ∧ p < 64
  case neg =>
    have e1 : runM L.n L.vm x A p f we ex = ⟨11, x, A⟩ := by
      unfold runM; rw [if_pos (Or.inl (by cases h : inR 64 p with | false => rfl | true => exact absurd (inR_iff.1 h) h1))]
    rw [e1]
    have HN := Lib.hid h1
    clear e1 h1
    clear hS hR hl Bp Bs Bf Bw Be
    go_enter Tryz.func65, Tryz.ntmps65
    go_wp2_with fail
    refine (needFirst_no p w HN.out).mono ?_
    rintro e w1 ⟨rfl, rfl⟩
    unfold panE
    exact ⟨rfl, cend_pan (k := 11) (by decide) HS.out (Hop.refl _ _ _)⟩
  have i1 : inR 64 p = true := inR_iff.2 h1
  by_cases h2 : 0 ≤ f ∧ f < L.n
  case neg =>
    have e1 : runM L.n L.vm x A p f we ex = ⟨11, x, A⟩ := by
      unfold runM; rw [if_pos (Or.inr (Or.inl (by cases h : inR L.n f with | false => rfl | true => exact absurd (inR_iff.1 h) h2)))]
    rw [e1]
    have HN := Lib.hid h2
    clear e1 h2
    clear hS hR hl Bp Bs Bf Bw Be
    go_enter Tryz.func65, Tryz.ntmps65
    go_wp2_with (go_at_call 66; refine (needFirst_yes _ _ (by omega)).mono ?_; rintro e w' ⟨rfl, rfl⟩)
    refine (needFrame_no f w HS.out HN.out).mono ?_
    rintro e w1 ⟨rfl, rfl⟩
    unfold panE
    exact ⟨rfl, cend_pan (k := 11) (by decide) HS.out (Hop.refl _ _ _)⟩
  have i2 : inR L.n f = true := inR_iff.2 h2
  have hf := hR.few
  by_cases h3 : f + 63 < L.n
  case neg =>
    have e1 : runM L.n L.vm x A p f we ex = ⟨11, x, A⟩ := by
      unfold runM; rw [if_pos (Or.inr (Or.inr (Or.inl (by cases h : inR L.n (f + 63) with | false => rfl | true => exact absurd (inR_iff.1 h).2 h3))))]
    rw [e1]
    have g1 := h1.1; have g2 := h1.2; have g3 := h2.1; have g4 := h2.2
    have HN := Lib.hid (show ¬ (0 ≤ f + 64 - 1 ∧ f + 64 - 1 < L.n) by omega)
    clear e1 h3 h1 h2 i1 i2
    clear hS hR hl Bp Bs Bf Bw Be
    go_enter Tryz.func65, Tryz.ntmps65
    go_wp2_with (first | (go_at_call 66; refine (needFirst_yes _ _ (by omega)).mono ?_; rintro e w' ⟨rfl, rfl⟩) | (go_at_call 55; (with_reducible refine (needFrame_yes f _ HS.out (by omega)).mono ?_); rintro e w' ⟨rfl, rfl⟩))
    refine (needFrame_no (f + 64 - 1) w HS.out HN.out).mono ?_
    rintro e w1 ⟨rfl, rfl⟩
    unfold panE
    exact ⟨rfl, cend_pan (k := 11) (by decide) HS.out (Hop.refl _ _ _)⟩
  have i3 : inR L.n (f + 63) = true := inR_iff.2 ⟨by omega, h3⟩
  obtain ⟨k, rfl⟩ : ∃ k : Nat, p = k := ⟨p.toNat, by omega⟩
  obtain ⟨g, rfl⟩ : ∃ g : Nat, f = g := ⟨f.toNat, by omega⟩
  by_cases h4 : g % 64 = 0
  case neg =>
    have e1 : runM L.n L.vm x A k g we ex = ⟨11, x, A⟩ := by
      unfold runM; rw [if_pos (Or.inr (Or.inr (Or.inr (by omega))))]
    rw [e1]
    have d4 : ((g : Int) % 64 == 0) = false := by simp; omega
    clear e1 h4 i1 i2 i3
    clear hS hR hl Bp Bs Bf Bw Be
    go_enter Tryz.func65, Tryz.ntmps65
    go_wp2_with (first | (go_at_call 66; refine (needFirst_yes _ _ (by omega)).mono ?_; rintro e w' ⟨rfl, rfl⟩) | (go_at_call 55; refine (needFrame_yes _ _ HS.out (by omega)).mono ?_; rintro e w' ⟨rfl, rfl⟩))
    refine (need_no _ _).mono ?_
    rintro e w1 ⟨rfl, rfl⟩
    unfold panE
    exact ⟨rfl, cend_pan (k := 11) (by decide) HS.out (Hop.refl _ _ _)⟩
  have d4 : ((g : Int) % 64 == 0) = true := by simp; omega
  have c1 : ¬ (inR 64 (k : Int) = false ∨ inR L.n (g : Int) = false ∨ inR L.n ((g : Int) + 63) = false ∨ (g : Int) % 64 ≠ 0) := by
    rw [i1, i2, i3]; simp; omega
  have hk : k < 64 := by omega
  have HR := Lib.hid hR
  have X0 := Lib.hid Bs
  have X1 := Lib.hid Bp
  have X2 := Lib.hid Bf
  have X3 := Lib.hid Bw
  have X4 := Lib.hid Be
  have NO : ∀ (W X B : Bool) (f : Int), entOf (A k).W = ⟨true, W, X, B, f⟩ → isNo (A k) = false → Calls Tryz.prog 65 #[.pointer (some ⟨bp, 0, none⟩), .pointer (some ⟨bs, 0, none⟩), .pointer (some ⟨bf, 0, none⟩), .pointer (some ⟨bw, 0, none⟩), .pointer (some ⟨be, 0, none⟩)] w (CEnd L v (runM L.n L.vm x A k g we ex).k (runM L.n L.vm x A k g we ex).x w) := by
    intro W X B f hE hn
    have e1 : runM L.n L.vm x A k g we ex = ⟨13, x, A⟩ := by unfold runM; rw [if_neg c1, Int.toNat_natCast, if_pos hn]
    rw [e1]
    have HE := Lib.hid hE
    clear e1 hE hn c1 i1 i2 i3 h4
    clear hS hR hl Bp Bs Bf Bw Be
    go_enter Tryz.func65, Tryz.ntmps65
    go_wp2_with (first | (go_at_call 66; refine (needFirst_yes _ _ (by omega)).mono ?_; rintro e w' ⟨rfl, rfl⟩) | (go_at_call 55; refine (needFrame_yes _ _ HS.out (by omega)).mono ?_; rintro e w' ⟨rfl, rfl⟩) | (go_at_call 56; refine (need_yes _ _).mono ?_; rintro e w' ⟨rfl, rfl⟩))
    refine (first_rep k w HS.out HR.out hk _ _ _ _ _ HE.out).mono ?_
    rintro e w1 ⟨rfl, b1⟩
    have F1 := Lib.hid (And.intro (HS.out.below b1) (hop_below (S := L.S) b1 v))
    clear b1 HS HR HE
    go_wp2_with fail
    refine (need_no _ _).mono ?_
    rintro e w' ⟨rfl, rfl⟩
    unfold panE
    exact ⟨rfl, cend_pan (k := 13) (by decide) F1.out.1 F1.out.2⟩
  cases hA : A k with
  | tab t pg => exact NO false false false t (by rw [hA]; exact entOf_lw _ _ _ (by omega) (by have := (hR.tabAt hk hA).1; omega)) (by rw [hA]; rfl)
  | blk a b F =>
    have hF : F + 64 ≤ L.n := by have := hR.ok k hk; rw [hA] at this; exact this.2
    exact NO a b true F (by rw [hA]; exact entOf_lw _ _ _ (by omega) (by omega)) (by rw [hA]; rfl)
  | no =>
    clear NO
    have e1 : runM L.n L.vm x A k g we ex = ⟨0, x.chg L.n L.vm (256 * x.root + 4 * k) (Fst.blk we ex g).W, setA A k (.blk we ex g)⟩ := by
      unfold runM; rw [if_neg c1, Int.toNat_natCast, Int.toNat_natCast, hA, if_neg (by simp [isNo])]
    rw [e1]
    have HE := Lib.hid (show entOf (A k).W = ⟨false, false, false, false, 0⟩ by rw [hA]; exact entOf_0)
    have hrt := hR.rt
    have hl0 : x.log.length ≤ 100 := by rw [hl]; simp
    clear e1 c1 i1 i2 i3 h4 hA
    clear hS hR hl Bp Bs Bf Bw Be
    go_enter Tryz.func65, Tryz.ntmps65
    go_wp2_with (first | (go_at_call 66; refine (needFirst_yes _ _ (by omega)).mono ?_; rintro e w' ⟨rfl, rfl⟩) | (go_at_call 55; refine (needFrame_yes _ _ HS.out (by omega)).mono ?_; rintro e w' ⟨rfl, rfl⟩) | (go_at_call 56; refine (need_yes _ _).mono ?_; rintro e w' ⟨rfl, rfl⟩))
    refine (first_rep k w HS.out HR.out hk _ _ _ _ _ HE.out).mono ?_
    rintro e w1 ⟨rfl, b1⟩
    have S2 := Lib.hid ((HS.out.below b1).drewN 1)
    have P2 := Lib.hid ((hop_below (S := L.S) b1 v).trans (Hop.of (Only.drewN L.S w1 1) v))
    have Y0 := Lib.hid ((X0.out.below b1).drewN 1)
    have Y1 := Lib.hid ((X1.out.below b1).drewN 1)
    have Y2 := Lib.hid ((X2.out.below b1).drewN 1)
    have Y3 := Lib.hid ((X3.out.below b1).drewN 1)
    have Y4 := Lib.hid ((X4.out.below b1).drewN 1)
    change Hid (St L w1.drew v _) at S2
    change Hid (Hop L.S v v w w1.drew) at P2
    change Hid (Bx L w1.drew v _ _) at Y0
    change Hid (Bx L w1.drew v _ _) at Y1
    change Hid (Bx L w1.drew v _ _) at Y2
    change Hid (Bx L w1.drew v _ _) at Y3
    change Hid (Bx L w1.drew v _ _) at Y4
    have cs := (X0.out.below b1).c
    have cp := (X1.out.below b1).c
    have cf := (X2.out.below b1).c
    have cw := (X3.out.below b1).c
    have ce := (X4.out.below b1).c
    clear b1 HS HR HE X0 X1 X2 X3 X4
    go_wp2_with (first | (go_at_call 56; refine (need_yes _ _).mono ?_; rintro e w' ⟨rfl, rfl⟩))
    refine wp_region_still_tail 11 (by kernel_rfl) (by kernel_rfl) ?_
    simp only [List.take_succ_cons, List.take_zero, List.drop_succ_cons, List.drop_zero]
    change wpStill _ _ w1.drew (fun a' => wpList _ _ _ _ a' w1.drew) _ _
    clear cs cp cf cw ce
    generalize w1.drew = u1 at *
    have cs := Y0.out.c
    have cp := Y1.out.c
    have cf := Y2.out.c
    have cw := Y3.out.c
    have ce := Y4.out.c
    have c4 := S2.out.c4
    iterate 6 still_step
    still_call (slot_still x.root k _ (by omega) hk)
    repeat still_step
    refine wpStill_nil ?_
    clear cs cp cf cw ce c4 d4 Y0 Y1 Y2 Y3 Y4
    go_wp2_with fail
    refine (change_at x.root k _ true we ex true g (Fst.blk we ex g).W u1 rfl S2.out hrt hk (by omega) (encN_lw _ _ _ (by omega) (by omega))).mono ?_
    rintro e w3 ⟨rfl, v3, hS, hP⟩
    have F3 := Lib.hid (And.intro hS (P2.out.trans hP))
    clear S2 P2 hS hP
    go_wp2
    go_end0
    exact cend_ok F3.out.1 F3.out.2
set_option maxRecDepth 100000 in
set_option maxHeartbeats 8000000 in
theorem map1_any : Calls Tryz.prog 53 #[.pointer (some ⟨bp, 0, none⟩), .pointer (some ⟨bs, 0, none⟩), .pointer (some ⟨bf, 0, none⟩), .pointer (some ⟨bw, 0, none⟩), .pointer (some ⟨be, 0, none⟩)] w (CEnd L v (mapP L.n L.vm x A p f we ex).k (mapP L.n L.vm x A p f we ex).x w) := by
  have cp := Bp.c
  have cs := Bs.c
  have cf := Bf.c
  have cw := Bw.c
  have ce := Be.c
  have fv := fieldV
  have ff := fieldF
  have HS := Lib.hid hS
  by_cases h1 : 0 ≤ p ∧ p < 4096
  case neg =>
    have e1 : mapP L.n L.vm x A p f we ex = ⟨11, x, A⟩ := by
      unfold mapP; rw [if_pos (Or.inl (by cases h : inR 4096 p with | false => rfl | true => exact absurd (inR_iff.1 h) h1))]
    rw [e1]
    have HN := Lib.hid h1
    clear e1 h1
    clear hS hR hl Bp Bs Bf Bw Be
    go_enter Tryz.func53, Tryz.ntmps53
    go_wp2_with fail
    refine (indexes_no p w HN.out).mono ?_
    rintro e w1 ⟨rfl, rfl⟩
    unfold panE
    exact ⟨rfl, cend_pan (k := 11) (by decide) HS.out (Hop.refl _ _ _)⟩
  have i1 : inR 4096 p = true := inR_iff.2 h1
  obtain ⟨p, rfl⟩ : ∃ k : Nat, p = k := ⟨p.toNat, by omega⟩
  have hp : p < 4096 := by omega
  have HR := Lib.hid hR
  have hf := hR.few
  have hrt := hR.rt
  obtain ⟨i, ei⟩ : ∃ i, i = p / 64 := ⟨_, rfl⟩
  obtain ⟨j, ej⟩ : ∃ j, j = p % 64 := ⟨_, rfl⟩
  have hi : i < 64 := by omega
  have hj : j < 64 := by omega
  have HI := Lib.hid (And.intro ei ej)
  have hl0 : x.log.length ≤ 100 := by rw [hl]; simp
  by_cases h2 : 0 ≤ f ∧ f < L.n
  case neg =>
    have e1 : mapP L.n L.vm x A p f we ex = ⟨11, x, A⟩ := by
      unfold mapP; rw [if_pos (Or.inr (by cases h : inR L.n f with | false => rfl | true => exact absurd (inR_iff.1 h) h2))]
    rw [e1]
    have HN := Lib.hid h2
    have C1 := Lib.hid Bs
    have C2 := Lib.hid Bf
    clear e1 h2 h1 i1 ei ej
    clear hS hR hl Bp Bs Bf Bw Be
    go_enter Tryz.func53, Tryz.ntmps53
    go_wp2_with fail
    refine (indexes_yes p w hp).mono ?_
    rintro e w1 ⟨rfl, k1, rfl⟩
    have bd := drewB (Below.refl w.heap.size w) k1
    have F1 := Lib.hid (And.intro (HS.out.below bd) (hop_below (S := L.S) bd v))
    have cs := (C1.out.below bd).c
    have cf := (C2.out.below bd).c
    clear bd HS cp cw ce C1 C2
    generalize w.drewN k1 = u1 at *
    go_wp2_with fail
    refine (needFrame_no f u1 F1.out.1 HN.out).mono ?_
    rintro e w1 ⟨rfl, rfl⟩
    unfold panE
    exact ⟨rfl, cend_pan (k := 11) (by decide) F1.out.1 F1.out.2⟩
  obtain ⟨g, rfl⟩ : ∃ g : Nat, f = g := ⟨f.toNat, by omega⟩
  have i2 : inR L.n (g : Int) = true := inR_iff.2 h2
  have c1 : ¬ (inR 4096 (p : Int) = false ∨ inR L.n (g : Int) = false) := by rw [i1, i2]; simp
  have hg : g < L.n := by omega
  have X0 := Lib.hid Bs
  have X1 := Lib.hid Bp
  have X2 := Lib.hid Bf
  have X3 := Lib.hid Bw
  have X4 := Lib.hid Be
  cases hT : told A p with
  | some q =>
    have e1 : mapP L.n L.vm x A p g we ex = ⟨13, x, A⟩ := by unfold mapP; rw [if_neg c1, Int.toNat_natCast, if_pos (by rw [hT]; rfl)]
    rw [e1]
    have HT := Lib.hid hT
    clear e1 h2 h1 i1 i2 c1 hT ei ej
    clear hS hR hl Bp Bs Bf Bw Be
    go_enter Tryz.func53, Tryz.ntmps53
    go_wp2_with fail
    refine (indexes_yes p w hp).mono ?_
    rintro e w1 ⟨rfl, k1, rfl⟩
    rw [← HI.out.1, ← HI.out.2]
    have bd := drewB (Below.refl w.heap.size w) k1
    have S0' := Lib.hid (HS.out.below bd)
    have P0 := Lib.hid (hop_below (S := L.S) bd v)
    have cs := (X0.out.below bd).c
    have cp := (X1.out.below bd).c
    have cf := (X2.out.below bd).c
    clear bd HS X0 X1 X2 X3 X4 cw ce
    generalize w.drewN k1 = u1 at *
    go_wp2_with (go_at_call 55; refine (needFrame_yes _ _ S0'.out (by omega)).mono ?_; rintro e w' ⟨rfl, rfl⟩)
    refine (look_some p q u1 S0'.out HR.out hp HT.out).mono ?_
    rintro e w2 ⟨rfl, b2⟩
    have S2 := Lib.hid ((S0'.out.below b2).alloc (.cells #[.bool true, .bool q.W, .bool q.X, .bool q.B, .int .i64 (q.F : Int)] 62))
    have P2 := Lib.hid ((P0.out.trans (hop_below b2 v)).trans (Hop.of (Only.alloc L.S w2 (.cells #[.bool true, .bool q.W, .bool q.X, .bool q.B, .int .i64 (q.F : Int)] 62)) v))
    clear b2 S0' P0 cs cp cf
    go_wp2_with fail
    refine (need_no _ _).mono ?_
    rintro e w' ⟨rfl, rfl⟩
    unfold panE
    exact ⟨rfl, cend_pan (k := 13) (by decide) S2.out P2.out⟩
  | none =>
    have HT := Lib.hid hT
    have em : mapP L.n L.vm x A p g we ex = match laid L.n L.vm x A i with
      | none => ⟨15, x, A⟩
      | some (x1, A1) => ⟨0, (pgP L.n L.vm x1 A1 i j (some (we, ex, g))).1, (pgP L.n L.vm x1 A1 i j (some (we, ex, g))).2⟩ := by
      unfold mapP; rw [if_neg c1, Int.toNat_natCast, Int.toNat_natCast, if_neg (by rw [hT]; simp), ei, ej]
      cases laid L.n L.vm x A (p / 64) <;> rfl
    cases hA : A i with
    | blk a b F =>
      exfalso
      unfold told Fst.told at hT
      rw [← ei, hA] at hT
      cases hT
    | no =>
      cases hs : Fr.spot 1 x.os with
      | none =>
        rw [show laid L.n L.vm x A i = none by unfold laid; rw [hA]; simp only [hs]] at em
        rw [em]
        have HX := Lib.hid hs
        have HE := Lib.hid (show entOf (A i).W = ⟨false, false, false, false, 0⟩ by rw [hA]; exact entOf_0)
        clear h2 h1 i1 i2 c1 hT ei ej em hA hs
        clear hS hR hl Bp Bs Bf Bw Be
        go_enter Tryz.func53, Tryz.ntmps53
        go_wp2_with fail
        refine (indexes_yes p w hp).mono ?_
        rintro e w1 ⟨rfl, k1, rfl⟩
        rw [← HI.out.1, ← HI.out.2]
        have bd := drewB (Below.refl w.heap.size w) k1
        have S0' := Lib.hid (HS.out.below bd)
        have P0 := Lib.hid (hop_below (S := L.S) bd v)
        have Y0 := Lib.hid (X0.out.below bd)
        have Y1 := Lib.hid (X1.out.below bd)
        have Y2 := Lib.hid (X2.out.below bd)
        have Y3 := Lib.hid (X3.out.below bd)
        have Y4 := Lib.hid (X4.out.below bd)
        clear bd HS X0 X1 X2 X3 X4 cw ce cs cp cf
        generalize w.drewN k1 = u1 at *
        have cs := Y0.out.c
        have cp := Y1.out.c
        have cf := Y2.out.c
        go_wp2_with (go_at_call 55; refine (needFrame_yes _ _ S0'.out (by omega)).mono ?_; rintro e w' ⟨rfl, rfl⟩)
        refine (look_none p u1 S0'.out HR.out hp HT.out).mono ?_
        rintro e w2 ⟨rfl, b2⟩
        have S2 := Lib.hid ((S0'.out.below b2).alloc (.cells #[.bool false, .bool false, .bool false, .bool false, .int .i64 0] 62))
        have P2 := Lib.hid ((P0.out.trans (hop_below b2 v)).trans (Hop.of (Only.alloc L.S w2 (.cells #[.bool false, .bool false, .bool false, .bool false, .int .i64 0] 62)) v))
        have Z0 := Lib.hid ((Y0.out.below b2).alloc (.cells #[.bool false, .bool false, .bool false, .bool false, .int .i64 0] 62))
        have Z1 := Lib.hid ((Y1.out.below b2).alloc (.cells #[.bool false, .bool false, .bool false, .bool false, .int .i64 0] 62))
        have Z2 := Lib.hid ((Y2.out.below b2).alloc (.cells #[.bool false, .bool false, .bool false, .bool false, .int .i64 0] 62))
        have Z3 := Lib.hid ((Y3.out.below b2).alloc (.cells #[.bool false, .bool false, .bool false, .bool false, .int .i64 0] 62))
        have Z4 := Lib.hid ((Y4.out.below b2).alloc (.cells #[.bool false, .bool false, .bool false, .bool false, .int .i64 0] 62))
        clear b2 S0' P0 cs cp cf Y0 Y1 Y2 Y3 Y4
        have cs := Z0.out.c
        go_wp2_with (go_at_call 56; refine (need_yes _ _).mono ?_; rintro e w' ⟨rfl, rfl⟩)
        generalize w2.alloc (.cells #[.bool false, .bool false, .bool false, .bool false, .int .i64 0] 62) = u3 at *
        refine (first_rep i u3 S2.out HR.out hi _ _ _ _ _ HE.out).mono ?_
        rintro e w3 ⟨rfl, b3⟩
        have S1 := Lib.hid ((S2.out.below b3).drewN 1)
        have P1 := Lib.hid ((P2.out.trans (hop_below b3 v)).trans (Hop.of (Only.drewN L.S w3 1) v))
        have X0 := Lib.hid ((Z0.out.below b3).drewN 1)
        have X1 := Lib.hid ((Z1.out.below b3).drewN 1)
        have X2 := Lib.hid ((Z2.out.below b3).drewN 1)
        have X3 := Lib.hid ((Z3.out.below b3).drewN 1)
        have X4 := Lib.hid ((Z4.out.below b3).drewN 1)
        change Hid (St L w3.drew v _) at S1
        change Hid (Hop L.S v v w w3.drew) at P1
        change Hid (Bx L w3.drew v _ _) at X0
        change Hid (Bx L w3.drew v _ _) at X1
        change Hid (Bx L w3.drew v _ _) at X2
        change Hid (Bx L w3.drew v _ _) at X3
        change Hid (Bx L w3.drew v _ _) at X4
        clear b3 S2 P2 Z0 Z1 Z2 Z3 Z4 cs
        go_wp2_with fail
        refine wp_region_held_drew (S := fun w' => w'.cell? ⟨bs, 0, none⟩ = some (.pointer (some ⟨L.s, 0, none⟩)) ∧ w'.cell? ⟨L.s, 4, none⟩ = some (.int .i64 (x.root : Int))) (by kernel_rfl) ⟨X0.out.c, S1.out.c4⟩ (fun hHeld => ?_)
        generalize w3.drew = u2 at *
        refine wpAnyH_take (i := 0) (v := (.pointer (some ⟨L.s, 0, none⟩))) rfl (by kernel_rfl) (by kernel_rfl) (by kernel_rfl) (fun _ _ _ h => h) (y_sp (bs) 0 (some ⟨L.s, 0, none⟩) (.tmp 1) (by kernel_rfl) (fun _ h => h.1) rfl rfl) hHeld ?_
        try simp only [Act.put, List.setIfInBounds_toArray]
        refine wpAnyH_take (i := 1) (v := (.pointer (some ⟨L.s, 0, none⟩))) rfl (by kernel_rfl) (by kernel_rfl) (by kernel_rfl) (fun _ _ _ h => h) (y_sp (bs) 0 (some ⟨L.s, 0, none⟩) (.tmp 1) (by kernel_rfl) (fun _ h => h.1) rfl rfl) hHeld ?_
        try simp only [Act.put]
        refine wpAnyH_take (i := 2) (v := (.pointer (some ⟨L.s, 0, none⟩))) rfl (by kernel_rfl) (by kernel_rfl) (by kernel_rfl) (fun _ _ _ h => h) (y_run (by kernel_rfl) (fun _ => by kernel_rfl)) hHeld ?_
        try simp only [Act.put]
        refine wpAnyH_take (i := 3) (v := (.pointer (some ⟨L.s, 4, none⟩))) rfl (by kernel_rfl) (by kernel_rfl) (by kernel_rfl) (fun _ _ _ h => h) (y_run (by kernel_rfl) (fun _ => by kernel_rfl)) hHeld ?_
        try simp only [Act.put]
        refine wpAnyH_take (i := 4) (v := (.int .i64 (x.root : Int))) rfl (by kernel_rfl) (by kernel_rfl) (by kernel_rfl) (fun _ _ _ h => h) (y_int (L.s) 4 (x.root) (.tmp 34) (by kernel_rfl) (fun _ h => h.2) rfl rfl) hHeld ?_
        try simp only [Act.put]
        refine wpAnyH_take (i := 5) (v := (.int .i64 (i : Int))) rfl (by kernel_rfl) (by kernel_rfl) (by kernel_rfl) (fun _ _ _ h => h) (y_run (by kernel_rfl) (fun _ => by kernel_rfl)) hHeld ?_
        try simp only [Act.put]
        refine wpAnyH_take (i := 7) (v := (.pointer (some ⟨L.s, 0, none⟩))) rfl (by kernel_rfl) (by kernel_rfl) (by kernel_rfl) (fun _ _ _ h => h) (y_sp (bs) 0 (some ⟨L.s, 0, none⟩) (.tmp 1) (by kernel_rfl) (fun _ h => h.1) rfl rfl) hHeld ?_
        try simp only [Act.put]
        refine wpAnyH_ready (rs := [6]) (by kernel_rfl) (by simp) ?_
        refine AllReadyH.cons (o := ⟨some 37, .call _, _, _, _, _⟩) rfl (fun K hK => ?_) AllReadyH.nil
        go_simp
        refine (slot_any x.root i _ (by omega) hi).mono ?_
        rintro e w' ⟨rfl, rfl⟩
        refine hK.out _ _ hHeld (fun hHeld => ?_)
        clear hK K
        try simp only [Act.put, List.setIfInBounds_toArray, List.set_cons_zero, List.set_cons_succ]
        refine wpAnyH_ready (rs := [8]) (by kernel_rfl) (by simp) ?_
        refine AllReadyH.cons (o := ⟨some 39, .call _, _, _, _, _⟩) rfl (fun K hK => ?_) AllReadyH.nil
        go_simp
        refine (take_no _ S1.out HX.out).mono ?_
        rintro e w3 ⟨rfl, hS, hO⟩
        unfold panE
        exact ⟨rfl, cend_pan (k := 15) (by decide) hS (P1.out.trans (Hop.of hO v))⟩
      | some t =>
        have hL : laid L.n L.vm x A i = some ((x.took t).chg L.n L.vm (256 * x.root + 4 * i) (Fst.tab t (fun _ => none)).W, setA A i (.tab t (fun _ => none))) := by unfold laid; rw [hA]; simp only [hs]
        rw [hL] at em
        simp only at em
        rw [pgP_at (setA_at _ _ _)] at em
        have EX := Lib.hid em
        have HX := Lib.hid hs
        obtain ⟨r1, _, l1, _⟩ := laid_some hR hl hp hT (by rw [← ei]; exact hL)
        have htn := (hR.took (spot1 hs)).2.1
        have HR5 := Lib.hid r1
        have HE5 := Lib.hid (show entOf (setA A i (.tab t (fun _ => none)) i).W = ⟨true, false, false, false, t⟩ by rw [setA_at]; exact entOf_lw _ _ _ (by omega) (by omega))
        have L5 : ((x.took t).chg L.n L.vm (256 * x.root + 4 * i) (Fst.tab t (fun _ => none)).W).log.length ≤ 900 := by omega
        clear l1 hL r1
        have HE := Lib.hid (show entOf (A i).W = ⟨false, false, false, false, 0⟩ by rw [hA]; exact entOf_0)
        clear h2 h1 i1 i2 c1 hT ei ej em hA hs
        clear hS hR hl Bp Bs Bf Bw Be
        go_enter Tryz.func53, Tryz.ntmps53
        go_wp2_with fail
        refine (indexes_yes p w hp).mono ?_
        rintro e w1 ⟨rfl, k1, rfl⟩
        rw [← HI.out.1, ← HI.out.2]
        have bd := drewB (Below.refl w.heap.size w) k1
        have S0' := Lib.hid (HS.out.below bd)
        have P0 := Lib.hid (hop_below (S := L.S) bd v)
        have Y0 := Lib.hid (X0.out.below bd)
        have Y1 := Lib.hid (X1.out.below bd)
        have Y2 := Lib.hid (X2.out.below bd)
        have Y3 := Lib.hid (X3.out.below bd)
        have Y4 := Lib.hid (X4.out.below bd)
        clear bd HS X0 X1 X2 X3 X4 cw ce cs cp cf
        generalize w.drewN k1 = u1 at *
        have cs := Y0.out.c
        have cp := Y1.out.c
        have cf := Y2.out.c
        go_wp2_with (go_at_call 55; refine (needFrame_yes _ _ S0'.out (by omega)).mono ?_; rintro e w' ⟨rfl, rfl⟩)
        refine (look_none p u1 S0'.out HR.out hp HT.out).mono ?_
        rintro e w2 ⟨rfl, b2⟩
        have S2 := Lib.hid ((S0'.out.below b2).alloc (.cells #[.bool false, .bool false, .bool false, .bool false, .int .i64 0] 62))
        have P2 := Lib.hid ((P0.out.trans (hop_below b2 v)).trans (Hop.of (Only.alloc L.S w2 (.cells #[.bool false, .bool false, .bool false, .bool false, .int .i64 0] 62)) v))
        have Z0 := Lib.hid ((Y0.out.below b2).alloc (.cells #[.bool false, .bool false, .bool false, .bool false, .int .i64 0] 62))
        have Z1 := Lib.hid ((Y1.out.below b2).alloc (.cells #[.bool false, .bool false, .bool false, .bool false, .int .i64 0] 62))
        have Z2 := Lib.hid ((Y2.out.below b2).alloc (.cells #[.bool false, .bool false, .bool false, .bool false, .int .i64 0] 62))
        have Z3 := Lib.hid ((Y3.out.below b2).alloc (.cells #[.bool false, .bool false, .bool false, .bool false, .int .i64 0] 62))
        have Z4 := Lib.hid ((Y4.out.below b2).alloc (.cells #[.bool false, .bool false, .bool false, .bool false, .int .i64 0] 62))
        clear b2 S0' P0 cs cp cf Y0 Y1 Y2 Y3 Y4
        have cs := Z0.out.c
        go_wp2_with (go_at_call 56; refine (need_yes _ _).mono ?_; rintro e w' ⟨rfl, rfl⟩)
        generalize w2.alloc (.cells #[.bool false, .bool false, .bool false, .bool false, .int .i64 0] 62) = u3 at *
        refine (first_rep i u3 S2.out HR.out hi _ _ _ _ _ HE.out).mono ?_
        rintro e w3 ⟨rfl, b3⟩
        have S1 := Lib.hid ((S2.out.below b3).drewN 1)
        have P1 := Lib.hid ((P2.out.trans (hop_below b3 v)).trans (Hop.of (Only.drewN L.S w3 1) v))
        have X0 := Lib.hid ((Z0.out.below b3).drewN 1)
        have X1 := Lib.hid ((Z1.out.below b3).drewN 1)
        have X2 := Lib.hid ((Z2.out.below b3).drewN 1)
        have X3 := Lib.hid ((Z3.out.below b3).drewN 1)
        have X4 := Lib.hid ((Z4.out.below b3).drewN 1)
        change Hid (St L w3.drew v _) at S1
        change Hid (Hop L.S v v w w3.drew) at P1
        change Hid (Bx L w3.drew v _ _) at X0
        change Hid (Bx L w3.drew v _ _) at X1
        change Hid (Bx L w3.drew v _ _) at X2
        change Hid (Bx L w3.drew v _ _) at X3
        change Hid (Bx L w3.drew v _ _) at X4
        clear b3 S2 P2 Z0 Z1 Z2 Z3 Z4 cs
        go_wp2_with fail
        refine wp_region_held_drew (S := fun w' => w'.cell? ⟨bs, 0, none⟩ = some (.pointer (some ⟨L.s, 0, none⟩)) ∧ w'.cell? ⟨L.s, 4, none⟩ = some (.int .i64 (x.root : Int))) (by kernel_rfl) ⟨X0.out.c, S1.out.c4⟩ (fun hHeld => ?_)
        generalize w3.drew = u2 at *
        refine wpAnyH_take (i := 0) (v := (.pointer (some ⟨L.s, 0, none⟩))) rfl (by kernel_rfl) (by kernel_rfl) (by kernel_rfl) (fun _ _ _ h => h) (y_sp (bs) 0 (some ⟨L.s, 0, none⟩) (.tmp 1) (by kernel_rfl) (fun _ h => h.1) rfl rfl) hHeld ?_
        try simp only [Act.put, List.setIfInBounds_toArray]
        refine wpAnyH_take (i := 1) (v := (.pointer (some ⟨L.s, 0, none⟩))) rfl (by kernel_rfl) (by kernel_rfl) (by kernel_rfl) (fun _ _ _ h => h) (y_sp (bs) 0 (some ⟨L.s, 0, none⟩) (.tmp 1) (by kernel_rfl) (fun _ h => h.1) rfl rfl) hHeld ?_
        try simp only [Act.put]
        refine wpAnyH_take (i := 2) (v := (.pointer (some ⟨L.s, 0, none⟩))) rfl (by kernel_rfl) (by kernel_rfl) (by kernel_rfl) (fun _ _ _ h => h) (y_run (by kernel_rfl) (fun _ => by kernel_rfl)) hHeld ?_
        try simp only [Act.put]
        refine wpAnyH_take (i := 3) (v := (.pointer (some ⟨L.s, 4, none⟩))) rfl (by kernel_rfl) (by kernel_rfl) (by kernel_rfl) (fun _ _ _ h => h) (y_run (by kernel_rfl) (fun _ => by kernel_rfl)) hHeld ?_
        try simp only [Act.put]
        refine wpAnyH_take (i := 4) (v := (.int .i64 (x.root : Int))) rfl (by kernel_rfl) (by kernel_rfl) (by kernel_rfl) (fun _ _ _ h => h) (y_int (L.s) 4 (x.root) (.tmp 34) (by kernel_rfl) (fun _ h => h.2) rfl rfl) hHeld ?_
        try simp only [Act.put]
        refine wpAnyH_take (i := 5) (v := (.int .i64 (i : Int))) rfl (by kernel_rfl) (by kernel_rfl) (by kernel_rfl) (fun _ _ _ h => h) (y_run (by kernel_rfl) (fun _ => by kernel_rfl)) hHeld ?_
        try simp only [Act.put]
        refine wpAnyH_take (i := 7) (v := (.pointer (some ⟨L.s, 0, none⟩))) rfl (by kernel_rfl) (by kernel_rfl) (by kernel_rfl) (fun _ _ _ h => h) (y_sp (bs) 0 (some ⟨L.s, 0, none⟩) (.tmp 1) (by kernel_rfl) (fun _ h => h.1) rfl rfl) hHeld ?_
        try simp only [Act.put]
        refine wpAnyH_ready (rs := [6]) (by kernel_rfl) (by simp) ?_
        refine AllReadyH.cons (o := ⟨some 37, .call _, _, _, _, _⟩) rfl (fun K hK => ?_) AllReadyH.nil
        go_simp
        refine (slot_any x.root i _ (by omega) hi).mono ?_
        rintro e w' ⟨rfl, rfl⟩
        refine hK.out _ _ hHeld (fun hHeld => ?_)
        clear hK K
        try simp only [Act.put, List.setIfInBounds_toArray, List.set_cons_zero, List.set_cons_succ]
        refine wpAnyH_ready (rs := [8]) (by kernel_rfl) (by simp) ?_
        refine AllReadyH.cons (o := ⟨some 39, .call _, _, _, _, _⟩) rfl (fun K hK => ?_) AllReadyH.nil
        go_simp
        refine (take_yes t _ S1.out HX.out htn).mono ?_
        rintro e w3 ⟨rfl, hS, hO⟩
        have S2 := Lib.hid hS
        have P2 := Lib.hid (P1.out.trans (Hop.of hO v))
        have A0 := Lib.hid (X0.out.only hO)
        have A1' := Lib.hid (X1.out.only hO)
        have A2 := Lib.hid (X2.out.only hO)
        have A3 := Lib.hid (X3.out.only hO)
        have A4 := Lib.hid (X4.out.only hO)
        refine hK.out _ _ ⟨(X0.out.only hO).c, hS.c4⟩ (fun hHeld => ?_)
        clear hK K hS hO S1 P1 X0 X1 X2 X3 X4
        try simp only [Act.put, List.setIfInBounds_toArray, List.set_cons_zero, List.set_cons_succ]
        refine wpAnyH_take (i := 9) (v := (.agg #[.bool true, .bool false, .bool false, .bool false, .int .i64 (t : Int)])) rfl (by kernel_rfl) (by kernel_rfl) (by kernel_rfl) (fun _ _ _ h => h) (y_run (by kernel_rfl) (fun _ => by kernel_rfl)) hHeld ?_
        try simp only [Act.put, List.setIfInBounds_toArray]
        refine wpAnyH_ready (rs := [10]) (by kernel_rfl) (by simp) ?_
        refine AllReadyH.cons (o := ⟨some 41, .call _, _, _, _, _⟩) rfl (fun K hK => ?_) AllReadyH.nil
        go_simp
        refine (change_at x.root i _ true false false false t (Fst.tab t (fun _ => none)).W w3 (by push_cast; rfl) S2.out hrt hi (by show x.log.length ≤ 900; omega) (encN_lw _ _ _ (by omega) (by omega))).mono ?_
        rintro e w4 ⟨rfl, v4, hS, hP⟩
        have S3 := Lib.hid hS
        have P3 := Lib.hid (P2.out.trans hP)
        have B0 := Lib.hid (A0.out.hop hP)
        have B1 := Lib.hid (A1'.out.hop hP)
        have B2 := Lib.hid (A2.out.hop hP)
        have B3 := Lib.hid (A3.out.hop hP)
        have B4 := Lib.hid (A4.out.hop hP)
        have hr4 := hS.c4
        rw [Pl.chg_root] at hr4
        refine hK.out _ _ ⟨(A0.out.hop hP).c, hr4⟩ (fun hHeld => ?_)
        clear hK K hS hP hr4 S2 P2 A0 A1' A2 A3 A4
        try simp only [Act.put, List.setIfInBounds_toArray, List.set_cons_zero, List.set_cons_succ]
        refine wpAnyH_done (by kernel_rfl) ?_ _
        show Exit.then _ _ _ _ _
        clear hHeld
        have D0 := Lib.hid (B0.out.drewN 1)
        have D1 := Lib.hid (B1.out.drewN 1)
        have D2 := Lib.hid (B2.out.drewN 1)
        have D3 := Lib.hid (B3.out.drewN 1)
        have D4 := Lib.hid (B4.out.drewN 1)
        have S5 := Lib.hid (S3.out.drewN 1)
        have P5 := Lib.hid (P3.out.trans (Hop.of (Only.drewN L.S w4 1) v4))
        change Hid (St L w4.drew v4 _) at S5
        change Hid (Hop L.S v v4 w w4.drew) at P5
        change Hid (Bx L w4.drew v4 _ _) at D0
        change Hid (Bx L w4.drew v4 _ _) at D1
        change Hid (Bx L w4.drew v4 _ _) at D2
        change Hid (Bx L w4.drew v4 _ _) at D3
        change Hid (Bx L w4.drew v4 _ _) at D4
        clear B0 B1 B2 B3 B4 S3 P3
        go_wp2_with fail
        refine wp_region_held_drew (S := fun w' => w'.cell? ⟨bs, 0, none⟩ = some (.pointer (some ⟨L.s, 0, none⟩)) ∧ w'.cell? ⟨bf, 0, none⟩ = some (.int .i64 (g : Int)) ∧ w'.cell? ⟨bw, 0, none⟩ = some (.bool we) ∧ w'.cell? ⟨be, 0, none⟩ = some (.bool ex)) (by kernel_rfl) ⟨D0.out.c, D2.out.c, D3.out.c, D4.out.c⟩ (fun hHeld => ?_)
        generalize w4.drew = u5 at *
        refine wpAnyH_take (i := 0) (v := (.pointer (some ⟨L.s, 0, none⟩))) rfl (by kernel_rfl) (by kernel_rfl) (by kernel_rfl) (fun _ _ _ h => h) (y_sp (bs) 0 (some ⟨L.s, 0, none⟩) (.tmp 1) (by kernel_rfl) (fun _ h => h.1) rfl rfl) hHeld ?_
        try simp only [Act.put, List.setIfInBounds_toArray]
        refine wpAnyH_take (i := 1) (v := (.pointer (some ⟨L.s, 0, none⟩))) rfl (by kernel_rfl) (by kernel_rfl) (by kernel_rfl) (fun _ _ _ h => h) (y_sp (bs) 0 (some ⟨L.s, 0, none⟩) (.tmp 1) (by kernel_rfl) (fun _ h => h.1) rfl rfl) hHeld ?_
        try simp only [Act.put]
        refine wpAnyH_take (i := 2) (v := (.int .i64 (i : Int))) rfl (by kernel_rfl) (by kernel_rfl) (by kernel_rfl) (fun _ _ _ h => h) (y_run (by kernel_rfl) (fun _ => by kernel_rfl)) hHeld ?_
        try simp only [Act.put]
        refine wpAnyH_take (i := 5) (v := (.int .i64 (j : Int))) rfl (by kernel_rfl) (by kernel_rfl) (by kernel_rfl) (fun _ _ _ h => h) (y_run (by kernel_rfl) (fun _ => by kernel_rfl)) hHeld ?_
        try simp only [Act.put]
        refine wpAnyH_take (i := 7) (v := (.bool we)) rfl (by kernel_rfl) (by kernel_rfl) (by kernel_rfl) (fun _ _ _ h => h) (y_bool (bw) 0 (we) (.tmp 3) (by kernel_rfl) (fun _ h => h.2.2.1) rfl rfl) hHeld ?_
        try simp only [Act.put]
        refine wpAnyH_take (i := 8) (v := (.bool ex)) rfl (by kernel_rfl) (by kernel_rfl) (by kernel_rfl) (fun _ _ _ h => h) (y_bool (be) 0 (ex) (.tmp 4) (by kernel_rfl) (fun _ h => h.2.2.2) rfl rfl) hHeld ?_
        try simp only [Act.put]
        refine wpAnyH_take (i := 9) (v := (.int .i64 (g : Int))) rfl (by kernel_rfl) (by kernel_rfl) (by kernel_rfl) (fun _ _ _ h => h) (y_int (bf) 0 (g) (.tmp 2) (by kernel_rfl) (fun _ h => h.2.1) rfl rfl) hHeld ?_
        try simp only [Act.put]
        refine wpAnyH_take (i := 10) (v := (.agg #[.bool true, .bool we, .bool ex, .bool false, .int .i64 (g : Int)])) rfl (by kernel_rfl) (by kernel_rfl) (by kernel_rfl) (fun _ _ _ h => h) (y_run (by kernel_rfl) (fun _ => by kernel_rfl)) hHeld ?_
        try simp only [Act.put]
        refine wpAnyH_ready (rs := [3]) (by kernel_rfl) (by simp) ?_
        refine AllReadyH.cons (o := ⟨some 45, .call _, _, _, _, _⟩) rfl (fun K hK => ?_) AllReadyH.nil
        go_simp
        refine (first_rep i u5 S5.out HR5.out hi _ _ _ _ _ HE5.out).mono ?_
        rintro e w6 ⟨rfl, b6⟩
        have S6 := Lib.hid (S5.out.below b6)
        have P6 := Lib.hid (P5.out.trans (hop_below b6 v4))
        have E0 := Lib.hid (D0.out.below b6)
        have E2 := Lib.hid (D2.out.below b6)
        have E3 := Lib.hid (D3.out.below b6)
        have E4 := Lib.hid (D4.out.below b6)
        refine hK.out _ _ ⟨E0.out.c, E2.out.c, E3.out.c, E4.out.c⟩ (fun hHeld => ?_)
        clear hK K b6 S5 P5 D0 D1 D2 D3 D4
        try simp only [Act.put, List.setIfInBounds_toArray, List.set_cons_zero, List.set_cons_succ]
        refine wpAnyH_take (i := 4) (v := (.int .i64 (t : Int))) rfl (by kernel_rfl) (by kernel_rfl) (by kernel_rfl) (fun _ _ _ h => h) (y_run (by kernel_rfl) (fun _ => by kernel_rfl)) hHeld ?_
        try simp only [Act.put, List.setIfInBounds_toArray]
        refine wpAnyH_ready (rs := [6]) (by kernel_rfl) (by simp) ?_
        refine AllReadyH.cons (o := ⟨some 48, .call _, _, _, _, _⟩) rfl (fun K hK => ?_) AllReadyH.nil
        go_simp
        refine (slot_any t j _ (by omega) hj).mono ?_
        rintro e w' ⟨rfl, rfl⟩
        refine hK.out _ _ hHeld (fun hHeld => ?_)
        clear hK K
        try simp only [Act.put, List.setIfInBounds_toArray, List.set_cons_zero, List.set_cons_succ]
        refine wpAnyH_ready (rs := [11]) (by kernel_rfl) (by simp) ?_
        refine AllReadyH.cons (o := ⟨some 53, .call _, _, _, _, _⟩) rfl (fun K hK => ?_) AllReadyH.nil
        go_simp
        refine (change_at t j _ true we ex false g (pgW (some (we, ex, g))) w6 (by push_cast; rfl) S6.out htn hj L5 (encN_lw _ _ _ (by omega) (by omega))).mono ?_
        rintro e w7 ⟨rfl, v7, hS, hP⟩
        have F7 := Lib.hid (And.intro hS (P6.out.trans hP))
        refine hK.out _ _ ⟨(E0.out.hop hP).c, (E2.out.hop hP).c, (E3.out.hop hP).c, (E4.out.hop hP).c⟩ (fun hHeld => ?_)
        clear hK K hS hP S6 P6 E0 E2 E3 E4
        try simp only [Act.put, List.setIfInBounds_toArray, List.set_cons_zero, List.set_cons_succ]
        refine wpAnyH_done (by kernel_rfl) ?_ _
        go_wp2
        go_end0
        rw [EX.out]
        exact cend_ok F7.out.1 F7.out.2
    | tab t pg =>
      have hL : laid L.n L.vm x A i = some (x, A) := by unfold laid; rw [hA]
      rw [hL] at em
      simp only at em
      rw [pgP_at hA] at em
      have EX := Lib.hid em
      have HR5 := Lib.hid hR
      have htn := (hR.tabAt hi hA).1
      have HE := Lib.hid (show entOf (A i).W = ⟨true, false, false, false, t⟩ by rw [hA]; exact entOf_lw _ _ _ (by omega) (by omega))
      have HE5 := Lib.hid HE.out
      have L5 : x.log.length ≤ 900 := by omega
      clear hL
      clear h2 h1 i1 i2 c1 hT ei ej em hA
      clear hS hR hl Bp Bs Bf Bw Be
      go_enter Tryz.func53, Tryz.ntmps53
      go_wp2_with fail
      refine (indexes_yes p w hp).mono ?_
      rintro e w1 ⟨rfl, k1, rfl⟩
      rw [← HI.out.1, ← HI.out.2]
      have bd := drewB (Below.refl w.heap.size w) k1
      have S0' := Lib.hid (HS.out.below bd)
      have P0 := Lib.hid (hop_below (S := L.S) bd v)
      have Y0 := Lib.hid (X0.out.below bd)
      have Y1 := Lib.hid (X1.out.below bd)
      have Y2 := Lib.hid (X2.out.below bd)
      have Y3 := Lib.hid (X3.out.below bd)
      have Y4 := Lib.hid (X4.out.below bd)
      clear bd HS X0 X1 X2 X3 X4 cw ce cs cp cf
      generalize w.drewN k1 = u1 at *
      have cs := Y0.out.c
      have cp := Y1.out.c
      have cf := Y2.out.c
      go_wp2_with (go_at_call 55; refine (needFrame_yes _ _ S0'.out (by omega)).mono ?_; rintro e w' ⟨rfl, rfl⟩)
      refine (look_none p u1 S0'.out HR.out hp HT.out).mono ?_
      rintro e w2 ⟨rfl, b2⟩
      have S2 := Lib.hid ((S0'.out.below b2).alloc (.cells #[.bool false, .bool false, .bool false, .bool false, .int .i64 0] 62))
      have P2 := Lib.hid ((P0.out.trans (hop_below b2 v)).trans (Hop.of (Only.alloc L.S w2 (.cells #[.bool false, .bool false, .bool false, .bool false, .int .i64 0] 62)) v))
      have Z0 := Lib.hid ((Y0.out.below b2).alloc (.cells #[.bool false, .bool false, .bool false, .bool false, .int .i64 0] 62))
      have Z1 := Lib.hid ((Y1.out.below b2).alloc (.cells #[.bool false, .bool false, .bool false, .bool false, .int .i64 0] 62))
      have Z2 := Lib.hid ((Y2.out.below b2).alloc (.cells #[.bool false, .bool false, .bool false, .bool false, .int .i64 0] 62))
      have Z3 := Lib.hid ((Y3.out.below b2).alloc (.cells #[.bool false, .bool false, .bool false, .bool false, .int .i64 0] 62))
      have Z4 := Lib.hid ((Y4.out.below b2).alloc (.cells #[.bool false, .bool false, .bool false, .bool false, .int .i64 0] 62))
      clear b2 S0' P0 cs cp cf Y0 Y1 Y2 Y3 Y4
      have cs := Z0.out.c
      go_wp2_with (go_at_call 56; refine (need_yes _ _).mono ?_; rintro e w' ⟨rfl, rfl⟩)
      generalize w2.alloc (.cells #[.bool false, .bool false, .bool false, .bool false, .int .i64 0] 62) = u3 at *
      refine (first_rep i u3 S2.out HR.out hi _ _ _ _ _ HE.out).mono ?_
      rintro e w3 ⟨rfl, b3⟩
      have S1 := Lib.hid ((S2.out.below b3).drewN 1)
      have P1 := Lib.hid ((P2.out.trans (hop_below b3 v)).trans (Hop.of (Only.drewN L.S w3 1) v))
      have X0 := Lib.hid ((Z0.out.below b3).drewN 1)
      have X1 := Lib.hid ((Z1.out.below b3).drewN 1)
      have X2 := Lib.hid ((Z2.out.below b3).drewN 1)
      have X3 := Lib.hid ((Z3.out.below b3).drewN 1)
      have X4 := Lib.hid ((Z4.out.below b3).drewN 1)
      change Hid (St L w3.drew v _) at S1
      change Hid (Hop L.S v v w w3.drew) at P1
      change Hid (Bx L w3.drew v _ _) at X0
      change Hid (Bx L w3.drew v _ _) at X1
      change Hid (Bx L w3.drew v _ _) at X2
      change Hid (Bx L w3.drew v _ _) at X3
      change Hid (Bx L w3.drew v _ _) at X4
      clear b3 S2 P2 Z0 Z1 Z2 Z3 Z4 cs
      go_wp2_with fail
      have D0 := X0
      have D1 := X1
      have D2 := X2
      have D3 := X3
      have D4 := X4
      have S5 := S1
      have P5 := P1
      clear S1 P1 X0 X1 X2 X3 X4
      refine wp_region_held_drew (S := fun w' => w'.cell? ⟨bs, 0, none⟩ = some (.pointer (some ⟨L.s, 0, none⟩)) ∧ w'.cell? ⟨bf, 0, none⟩ = some (.int .i64 (g : Int)) ∧ w'.cell? ⟨bw, 0, none⟩ = some (.bool we) ∧ w'.cell? ⟨be, 0, none⟩ = some (.bool ex)) (by kernel_rfl) ⟨D0.out.c, D2.out.c, D3.out.c, D4.out.c⟩ (fun hHeld => ?_)
      generalize w3.drew = u5 at *
      refine wpAnyH_take (i := 0) (v := (.pointer (some ⟨L.s, 0, none⟩))) rfl (by kernel_rfl) (by kernel_rfl) (by kernel_rfl) (fun _ _ _ h => h) (y_sp (bs) 0 (some ⟨L.s, 0, none⟩) (.tmp 1) (by kernel_rfl) (fun _ h => h.1) rfl rfl) hHeld ?_
      try simp only [Act.put, List.setIfInBounds_toArray]
      refine wpAnyH_take (i := 1) (v := (.pointer (some ⟨L.s, 0, none⟩))) rfl (by kernel_rfl) (by kernel_rfl) (by kernel_rfl) (fun _ _ _ h => h) (y_sp (bs) 0 (some ⟨L.s, 0, none⟩) (.tmp 1) (by kernel_rfl) (fun _ h => h.1) rfl rfl) hHeld ?_
      try simp only [Act.put]
      refine wpAnyH_take (i := 2) (v := (.int .i64 (i : Int))) rfl (by kernel_rfl) (by kernel_rfl) (by kernel_rfl) (fun _ _ _ h => h) (y_run (by kernel_rfl) (fun _ => by kernel_rfl)) hHeld ?_
      try simp only [Act.put]
      refine wpAnyH_take (i := 5) (v := (.int .i64 (j : Int))) rfl (by kernel_rfl) (by kernel_rfl) (by kernel_rfl) (fun _ _ _ h => h) (y_run (by kernel_rfl) (fun _ => by kernel_rfl)) hHeld ?_
      try simp only [Act.put]
      refine wpAnyH_take (i := 7) (v := (.bool we)) rfl (by kernel_rfl) (by kernel_rfl) (by kernel_rfl) (fun _ _ _ h => h) (y_bool (bw) 0 (we) (.tmp 3) (by kernel_rfl) (fun _ h => h.2.2.1) rfl rfl) hHeld ?_
      try simp only [Act.put]
      refine wpAnyH_take (i := 8) (v := (.bool ex)) rfl (by kernel_rfl) (by kernel_rfl) (by kernel_rfl) (fun _ _ _ h => h) (y_bool (be) 0 (ex) (.tmp 4) (by kernel_rfl) (fun _ h => h.2.2.2) rfl rfl) hHeld ?_
      try simp only [Act.put]
      refine wpAnyH_take (i := 9) (v := (.int .i64 (g : Int))) rfl (by kernel_rfl) (by kernel_rfl) (by kernel_rfl) (fun _ _ _ h => h) (y_int (bf) 0 (g) (.tmp 2) (by kernel_rfl) (fun _ h => h.2.1) rfl rfl) hHeld ?_
      try simp only [Act.put]
      refine wpAnyH_take (i := 10) (v := (.agg #[.bool true, .bool we, .bool ex, .bool false, .int .i64 (g : Int)])) rfl (by kernel_rfl) (by kernel_rfl) (by kernel_rfl) (fun _ _ _ h => h) (y_run (by kernel_rfl) (fun _ => by kernel_rfl)) hHeld ?_
      try simp only [Act.put]
      refine wpAnyH_ready (rs := [3]) (by kernel_rfl) (by simp) ?_
      refine AllReadyH.cons (o := ⟨some 45, .call _, _, _, _, _⟩) rfl (fun K hK => ?_) AllReadyH.nil
      go_simp
      refine (first_rep i u5 S5.out HR5.out hi _ _ _ _ _ HE5.out).mono ?_
      rintro e w6 ⟨rfl, b6⟩
      have S6 := Lib.hid (S5.out.below b6)
      have P6 := Lib.hid (P5.out.trans (hop_below b6 v))
      have E0 := Lib.hid (D0.out.below b6)
      have E2 := Lib.hid (D2.out.below b6)
      have E3 := Lib.hid (D3.out.below b6)
      have E4 := Lib.hid (D4.out.below b6)
      refine hK.out _ _ ⟨E0.out.c, E2.out.c, E3.out.c, E4.out.c⟩ (fun hHeld => ?_)
      clear hK K b6 S5 P5 D0 D1 D2 D3 D4
      try simp only [Act.put, List.setIfInBounds_toArray, List.set_cons_zero, List.set_cons_succ]
      refine wpAnyH_take (i := 4) (v := (.int .i64 (t : Int))) rfl (by kernel_rfl) (by kernel_rfl) (by kernel_rfl) (fun _ _ _ h => h) (y_run (by kernel_rfl) (fun _ => by kernel_rfl)) hHeld ?_
      try simp only [Act.put, List.setIfInBounds_toArray]
      refine wpAnyH_ready (rs := [6]) (by kernel_rfl) (by simp) ?_
      refine AllReadyH.cons (o := ⟨some 48, .call _, _, _, _, _⟩) rfl (fun K hK => ?_) AllReadyH.nil
      go_simp
      refine (slot_any t j _ (by omega) hj).mono ?_
      rintro e w' ⟨rfl, rfl⟩
      refine hK.out _ _ hHeld (fun hHeld => ?_)
      clear hK K
      try simp only [Act.put, List.setIfInBounds_toArray, List.set_cons_zero, List.set_cons_succ]
      refine wpAnyH_ready (rs := [11]) (by kernel_rfl) (by simp) ?_
      refine AllReadyH.cons (o := ⟨some 53, .call _, _, _, _, _⟩) rfl (fun K hK => ?_) AllReadyH.nil
      go_simp
      refine (change_at t j _ true we ex false g (pgW (some (we, ex, g))) w6 (by push_cast; rfl) S6.out htn hj L5 (encN_lw _ _ _ (by omega) (by omega))).mono ?_
      rintro e w7 ⟨rfl, v7, hS, hP⟩
      have F7 := Lib.hid (And.intro hS (P6.out.trans hP))
      refine hK.out _ _ ⟨(E0.out.hop hP).c, (E2.out.hop hP).c, (E3.out.hop hP).c, (E4.out.hop hP).c⟩ (fun hHeld => ?_)
      clear hK K hS hP S6 P6 E0 E2 E3 E4
      try simp only [Act.put, List.setIfInBounds_toArray, List.set_cons_zero, List.set_cons_succ]
      refine wpAnyH_done (by kernel_rfl) ?_ _
      go_wp2
      go_end0
      rw [EX.out]
      exact cend_ok F7.out.1 F7.out.2
end
end St
end Go.Proofs.YtiiggmfindfkfaaGreat
