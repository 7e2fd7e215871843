/-
  What the document's own Run answers, at every state, code of at most 2,000 bytes, and count.
-/
import Derived.Test.YtlfhcnpbgbnadaaDoorAluRStepAll
import Derived.Test.YtlfhcnpbgbnadaaDoorIsaGet
import Derived.Deep.RegionHeld3
namespace Go.Proofs.YtlfhcnpbgbnadaaDoor
open Go.RowKit Isa Nt
namespace Alu

theorem rget_any (p : Option Addr) (len cap : Nat) (z : Nat → Int) (pc : Int) (w : World) (hc : CodeIn w p len z) (hl : len ≤ 2000) (hp : 0 ≤ pc) :
    Calls Tryd.prog 30 #[.slice p len cap, .int .i64 pc] w fun e w' => e = .returned (getV (gW z len pc)) ∧ Below w.heap.size w w' := by
  unfold gW
  by_cases h : pc + 4 ≤ len
  · obtain ⟨b, off, rfl, hcell⟩ := hc.cell (by omega)
    rw [if_pos h]
    refine (Wd.rget_yes b off len cap pc _ _ _ _ w hp h hl (hc.byte _ (by omega)) (hc.byte _ (by omega)) (hc.byte _ (by omega)) (hc.byte _ (by omega)) (hcell _ (by omega)) (hcell _ (by omega)) (hcell _ (by omega)) (hcell _ (by omega))).mono ?_
    rintro e w' ⟨rfl, rfl⟩
    exact ⟨rfl, Below.refl _ _⟩
  · rw [if_neg h]
    refine (Wd.rget_no p len cap pc w (by omega) hl).mono ?_
    rintro e w' ⟨rfl, rfl⟩
    exact ⟨rfl, Below.refl _ _⟩
set_option maxHeartbeats 4000000 in
set_option maxRecDepth 2000 in
theorem rrun_any (r : Nat → Int) (pc : Int) (p : Option Addr) (len cap : Nat) (z : Nat → Int) (most : Int) (w : World) (hR : R32 r) (hp : W32 pc) (hc : CodeIn w p len z) (hlen : len ≤ 2000) (hm : most < 9223372036854775807) :
    Calls Tryd.prog 17 #[.agg (stL r pc).toArray, .slice p len cap, .int .i64 most] w fun e w' => e = .returned (runV (gW z len) most.toNat r pc 0) ∧ Below w.heap.size w w' := by
  have S0 := rstep_boxes w (stL r pc)
  have L0 := Lib.hid (show Loop w _ most.toNat 0 r pc len z (runV (gW z len) most.toNat r pc 0) from ⟨S0.1, S0.2.1, S0.2.2.1, S0.2.2.2, hR, hp, Nat.zero_le _, rfl⟩)
  have HC := Lib.hid hc
  clear S0 hR hp hc
  generalize hV : runV (gW z len) most.toNat r pc 0 = V at *
  clear hV
  go_enter Tryd.func17, Tryd.ntmps17
  go_wp2
  go_loopw [9] (fun i wr => ∃ (k : Nat) (r' : Nat → Int) (pc' : Int), i = .int .i64 k ∧ Loop w wr most.toNat k r' pc' len z V) (fun i _ => most.toNat - (intOf i).toNat)
  case atStart => exact ⟨0, r, pc, rfl, L0.out⟩
  case round =>
    clear L0
    obtain ⟨k, r', pc', rfl, hL⟩ := hrel
    have HL := Lib.hid hL
    clear hL
    by_cases hk : (k : Int) < most
    · have q0 := HL.out.pcw.1
      have q1 := HL.out.pcw.2
      have c16 := HL.out.st.at 16 (stL_is _ _).pc
      go_wp2_with fail
      refine (rget_any _ _ _ _ _ _ (HC.out.kept HL.out.bel) hlen q0).mono ?_
      rintro e w2 ⟨rfl, hb2⟩
      have L2 := Lib.hid (HL.out.kept hb2)
      cases hg : gW z len pc'
      · have E := Lib.hid (show V = .tuple #[.agg (stL r' pc').toArray, .agg #[.int .i64 12, .int .i64 0, .int .u32 0, .int .u32 0], .int .i64 k] by
          rw [← HL.out.val, show most.toNat - k = (most.toNat - k - 1) + 1 by omega]
          simp only [runV, hg])
        clear hb2 c16 HL
        simp only [getV]
        go_wp2_with (first | (with_reducible (show wpList _ _ _ (⟨_, .load _ (.tmp 3), _, _, _, _⟩ :: _) _ _); refine wlr_load (.tmp 3) _ _ rfl rfl rfl L2.out.st (stL_is _ _).size ?_) | (with_reducible (show wpList _ _ _ (⟨_, .store _ (.tmp 6) (.tmp 29), _, _, _, _⟩ :: _) _ _); refine wlr_store (.tmp 6) (.tmp 29) _ _ _ rfl rfl rfl rfl L2.out.rs (stL_is _ _).size (stL_is _ _).size (stL_is _ _).one ?_) | (with_reducible (show wpList _ _ _ (⟨_, .store _ (.tmp 7) (.tmp 30), _, _, _, _⟩ :: _) _ _); refine wlr_storeE (.tmp 7) (.tmp 30) _ _ _ _ _ _ _ _ _ rfl rfl rfl rfl (L2.out.re.apart (by omega) _) (one4 _ _ _ _) ?_))
        have Y2 := (L2.out.rs.stored (l' := stL r' pc') (stL_len _ _ _ _)).apart (b' := w.heap.size + 1 + 1) (by omega) [.int .i64 12, .int .i64 0, .int .u32 0, .int .u32 0]
        have Z2 := (L2.out.re.apart (b' := w.heap.size + 1) (by omega) (stL r' pc')).stored (l' := [.int .i64 12, .int .i64 0, .int .u32 0, .int .u32 0]) rfl
        refine bodyPost_ret (res_three Tryd.results17 _ rfl rfl rfl (run_load17 Tryd.underlying31 rfl (stL_infR _ _) Y2) (run_load17 Tryd.underlying32 rfl (by kernel_rfl) Z2)) rfl ⟨?_, below_setCells _ _ _ (below_setCells _ _ _ L2.out.bel (by omega)) (by omega)⟩
        rw [E.out]
        rfl
      · rename_i v
        have hv := gW_w HC.out q0 hg
        have HK := Lib.hid HL.out.val
        clear hb2 c16 HL
        simp only [getV]
        go_wp2_with (first | (with_reducible (show wpList _ _ _ (⟨_, .load _ (.tmp 3), _, _, _, _⟩ :: _) _ _); refine wlr_load (.tmp 3) _ _ rfl rfl rfl L2.out.st (stL_is _ _).size ?_))
        refine (rstep_any _ _ _ _ L2.out.regs hv).mono ?_
        rintro e w3 ⟨rfl, hb3⟩
        have L3 := Lib.hid (L2.out.kept hb3)
        clear hb3 L2
        have T : Box (w3.alloc (.cells #[.int .u32 0, .int .u32 0, .int .u32 0, .int .u32 0, .int .u32 0, .int .u32 0, .int .u32 0, .int .u32 0, .int .u32 0, .int .u32 0, .int .u32 0, .int .u32 0, .int .u32 0, .int .u32 0, .int .u32 0, .int .u32 0, .int .u32 0] 31)) w3.heap.size (stL (fun _ => 0) 0) := zeroBoxR w3
        have T2 := T.box (.cells #[.int .i64 0, .int .i64 0, .int .u32 0, .int .u32 0] 32)
        have U := Box.new (w3.alloc (.cells #[.int .u32 0, .int .u32 0, .int .u32 0, .int .u32 0, .int .u32 0, .int .u32 0, .int .u32 0, .int .u32 0, .int .u32 0, .int .u32 0, .int .u32 0, .int .u32 0, .int .u32 0, .int .u32 0, .int .u32 0, .int .u32 0, .int .u32 0] 31)) [.int .i64 0, .int .i64 0, .int .u32 0, .int .u32 0] 32
        rw [World.size_alloc] at U
        have TH := Lib.hid T2
        have U4 := Lib.hid (U.apart (b' := w3.heap.size) (by omega) (stL (sR r' pc' v) (sP r' pc' v)))
        have T4 := Lib.hid (T2.stored (l' := (stL (sR r' pc' v) (sP r' pc' v))) (stL_len _ _ _ _))
        have T5 := Lib.hid (T4.out.apart (b' := w3.heap.size + 1) (by omega) [.int .i64 (sK v), .int .i64 (sG v), .int .u32 (sA r' v), .int .u32 (sV r' v)])
        have U5 := Lib.hid (U4.out.stored (l' := [.int .i64 (sK v), .int .i64 (sG v), .int .u32 (sA r' v), .int .u32 (sV r' v)]) rfl)
        have hb5 : Below w3.heap.size w3 ((((w3.alloc (.cells #[.int .u32 0, .int .u32 0, .int .u32 0, .int .u32 0, .int .u32 0, .int .u32 0, .int .u32 0, .int .u32 0, .int .u32 0, .int .u32 0, .int .u32 0, .int .u32 0, .int .u32 0, .int .u32 0, .int .u32 0, .int .u32 0, .int .u32 0] 31)).alloc (.cells #[.int .i64 0, .int .i64 0, .int .u32 0, .int .u32 0] 32)).setCells w3.heap.size 0 (stL (sR r' pc' v) (sP r' pc' v))).setCells (w3.heap.size + 1) 0 [.int .i64 (sK v), .int .i64 (sG v), .int .u32 (sA r' v), .int .u32 (sV r' v)]) := below_setCells _ _ _ (below_setCells _ _ _ (((Below.refl _ _).alloc (Nat.le_refl _) _).alloc (by simp) _) (Nat.le_refl _)) (by omega)
        have L5 := Lib.hid (L3.out.kept hb5)
        have lt3 := Lib.hid L3.out.re.lt
        clear T T2 U hb5
        unfold stepV
        go_wp2_with (first | (with_reducible (show wpList _ _ _ (⟨_, .store _ (.tmp 12) (.tmp 36), _, _, _, _⟩ :: _) _ _); refine wlr_store (.tmp 12) (.tmp 36) _ _ _ rfl rfl rfl rfl TH.out (stL_is _ _).size (stL_is _ _).size (stL_is _ _).one ?_) | (with_reducible (show wpList _ _ _ (⟨_, .store _ (.tmp 13) (.tmp 37), _, _, _, _⟩ :: _) _ _); refine wlr_storeE (.tmp 13) (.tmp 37) _ _ _ _ _ _ _ _ _ rfl rfl rfl rfl U4.out (one4 _ _ _ _) ?_) | (with_reducible (show wpList _ _ _ (⟨_, .load _ (.tmp 12), _, _, _, _⟩ :: _) _ _); clear TH T4 U4; generalize ((((w3.alloc (.cells #[.int .u32 0, .int .u32 0, .int .u32 0, .int .u32 0, .int .u32 0, .int .u32 0, .int .u32 0, .int .u32 0, .int .u32 0, .int .u32 0, .int .u32 0, .int .u32 0, .int .u32 0, .int .u32 0, .int .u32 0, .int .u32 0, .int .u32 0] 31)).alloc (.cells #[.int .i64 0, .int .i64 0, .int .u32 0, .int .u32 0] 32)).setCells w3.heap.size 0 (stL (sR r' pc' v) (sP r' pc' v))).setCells (w3.heap.size + 1) 0 [.int .i64 (sK v), .int .i64 (sG v), .int .u32 (sA r' v), .int .u32 (sV r' v)]) = w5 at *; refine wlr_load (.tmp 12) _ _ rfl rfl rfl T5.out (stL_is _ _).size ?_) | (with_reducible (show wpList _ _ _ (⟨_, .store _ (.tmp 3) (.tmp 38), _, _, _, _⟩ :: _) _ _); refine wlr_store (.tmp 3) (.tmp 38) _ _ _ rfl rfl rfl rfl L5.out.st (stL_is _ _).size (stL_is _ _).size (stL_is _ _).one ?_) | (with_reducible (show wpList _ _ _ (⟨some 39, _, _, _, _, _⟩ :: _) _ _); refine Shut.out ?_))
        show wpList _ _ _ _ _ _
        have st6 := Lib.hid (L5.out.st.stored (l' := (stL (sR r' pc' v) (sP r' pc' v))) (stL_len _ _ _ _))
        have rs6 := Lib.hid (L5.out.rs.apart (b' := w.heap.size) (by omega) (stL (sR r' pc' v) (sP r' pc' v)))
        have re6 := Lib.hid (L5.out.re.apart (b' := w.heap.size) (by omega) (stL (sR r' pc' v) (sP r' pc' v)))
        have U6 := Lib.hid (U5.out.apart (b' := w.heap.size) (by have := lt3.out; omega) (stL (sR r' pc' v) (sP r' pc' v)))
        have B6 := Lib.hid (below_setCells (b := w.heap.size) (stL (sR r' pc' v) (sP r' pc' v)) 0 _ L5.out.bel (Nat.le_refl _))
        have g1 := Lib.hid L5.out.regs
        have g2 := Lib.hid L5.out.pcw
        clear L5 T5 U5 L3
        generalize (w5.setCells w.heap.size 0 (stL (sR r' pc' v) (sP r' pc' v))) = w6 at *
        have k0 := U6.out.at 0 rfl
        by_cases hs : sK v = 0
        · have d : (sK v != 0) = false := by simpa using hs
          have E := Lib.hid (show runV (gW z len) (most.toNat - (k + 1)) (sR r' pc' v) (sP r' pc' v) (k + 1) = V by
            rw [← HK.out, show most.toNat - k = (most.toNat - (k + 1)) + 1 by omega]
            simp only [runV, hg, if_pos hs])
          clear hs hg
          go_wp2
          go_roundw
          case rel =>
            refine ⟨k + 1, sR r' pc' v, sP r' pc' v, by go_num, ?_⟩
            exact ⟨st6.out, rs6.out, re6.out, B6.out, sR_w _ _ _ g1.out, sP_w _ _ _ g1.out g2.out, by omega, E.out⟩
          case measure => simp [intOf]; omega
        · have d : (sK v != 0) = true := by simpa using hs
          have E := Lib.hid (show V = .tuple #[.agg (stL (sR r' pc' v) (sP r' pc' v)).toArray, .agg #[.int .i64 (sK v), .int .i64 (sG v), .int .u32 (sA r' v), .int .u32 (sV r' v)], .int .i64 k] by
            rw [← HK.out, show most.toNat - k = (most.toNat - k - 1) + 1 by omega]
            simp only [runV, hg, if_neg hs])
          clear hs hg
          go_wp2_with fail
          clear k0
          have hS : Box w6.drew w.heap.size (stL (sR r' pc' v) (sP r' pc' v)) ∧ Box w6.drew (w3.heap.size + 1) [.int .i64 (sK v), .int .i64 (sG v), .int .u32 (sA r' v), .int .u32 (sV r' v)] := ⟨st6.out.drew, U6.out.drew⟩
          have LZ := lt3.out
          refine wp_region_noPanic ?_
          refine wp_region_held_drew (S := fun w' => Box w' w.heap.size (stL (sR r' pc' v) (sP r' pc' v)) ∧ Box w' (w3.heap.size + 1) [.int .i64 (sK v), .int .i64 (sG v), .int .u32 (sA r' v), .int .u32 (sV r' v)]) (by kernel_rfl) hS (fun _ => ?_)
          refine wpAnyH_take (i := 0) (oi := ⟨some 42, .load 31 (.tmp 3), _, _, _, _⟩) rfl (by kernel_rfl) (by kernel_rfl) (by kernel_rfl) (fun _ _ _ h => h) (yieldsIf_load_mid (by rfl) _ _ rfl _ _ rfl _ _ (fun _ h => h.1.range) Tryd.underlying31 rfl (stL_infR _ _)) hS ?_
          refine wpAnyH_take (i := 1) (oi := ⟨some 43, .load 32 (.tmp 13), _, _, _, _⟩) rfl (by kernel_rfl) (by kernel_rfl) (by kernel_rfl) (fun _ _ _ h => h) (yieldsIf_load_mid (by rfl) _ _ rfl _ _ rfl _ _ (fun _ h => h.2.range) Tryd.underlying32 rfl (by kernel_rfl)) hS ?_
          refine wpAnyH_take (i := 2) (oi := ⟨some 44, .move (.tmp 9), _, _, _, _⟩) (v := .int .i64 k) rfl (by kernel_rfl) (by kernel_rfl) (by kernel_rfl) (fun _ _ _ h => h) (Or.inl ⟨by rfl, fun _ _ => rfl⟩) hS ?_
          simp only [Act.put, List.setIfInBounds_toArray, List.set_cons_zero, List.set_cons_succ]
          refine wpAnyH_ready (rs := [3]) (by kernel_rfl) (by simp) ?_
          refine AllReadyH.cons (o := ⟨none, .store 31 (.tmp 6) (.tmp 42), _, _, _, _⟩) rfl (fun K hK => ?_) AllReadyH.nil
          rw [if_pos (by rfl)]
          refine so_store (.tmp 6) (.tmp 42) (w.heap.size + 1) (stL (fun _ => 0) 0) (stL (sR r' pc' v) (sP r' pc' v)) rfl rfl rfl rs6.out.drew (stL_len _ _ _ _) (stL_infR _ _) (stL_is _ _).one ?_
          have hS9 : Box (w6.drew.setCells (w.heap.size + 1) 0 (stL (sR r' pc' v) (sP r' pc' v))) w.heap.size (stL (sR r' pc' v) (sP r' pc' v)) ∧ Box (w6.drew.setCells (w.heap.size + 1) 0 (stL (sR r' pc' v) (sP r' pc' v))) (w3.heap.size + 1) [.int .i64 (sK v), .int .i64 (sG v), .int .u32 (sA r' v), .int .u32 (sV r' v)] := ⟨hS.1.apart (by omega) _, hS.2.apart (by omega) _⟩
          refine hK.out _ _ hS9 (fun _ => ?_)
          clear hK K hS
          have Y9 := Lib.hid (rs6.out.drew.stored (l' := (stL (sR r' pc' v) (sP r' pc' v))) (stL_len _ _ _ _))
          have Z9 := Lib.hid (re6.out.drew.apart (b' := w.heap.size + 1) (by omega) (stL (sR r' pc' v) (sP r' pc' v)))
          have B9 := Lib.hid (below_setCells (b := w.heap.size + 1) (stL (sR r' pc' v) (sP r' pc' v)) 0 _ B6.out.drew (by omega))
          simp only [Act.put]
          generalize (w6.drew.setCells (w.heap.size + 1) 0 (stL (sR r' pc' v) (sP r' pc' v))) = w9 at *
          refine wpAnyH_ready (rs := [4]) (by kernel_rfl) (by simp) ?_
          refine AllReadyH.cons (o := ⟨none, .store 32 (.tmp 7) (.tmp 43), _, _, _, _⟩) rfl (fun K hK => ?_) AllReadyH.nil
          rw [if_pos (by rfl)]
          refine so_store (.tmp 7) (.tmp 43) (w.heap.size + 1 + 1) _ [.int .i64 (sK v), .int .i64 (sG v), .int .u32 (sA r' v), .int .u32 (sV r' v)] rfl rfl rfl Z9.out rfl (by kernel_rfl) (one4 _ _ _ _) ?_
          have hS10 : Box (w9.setCells (w.heap.size + 1 + 1) 0 [.int .i64 (sK v), .int .i64 (sG v), .int .u32 (sA r' v), .int .u32 (sV r' v)]) w.heap.size (stL (sR r' pc' v) (sP r' pc' v)) ∧ Box (w9.setCells (w.heap.size + 1 + 1) 0 [.int .i64 (sK v), .int .i64 (sG v), .int .u32 (sA r' v), .int .u32 (sV r' v)]) (w3.heap.size + 1) [.int .i64 (sK v), .int .i64 (sG v), .int .u32 (sA r' v), .int .u32 (sV r' v)] := ⟨hS9.1.apart (by omega) _, hS9.2.apart (by omega) _⟩
          refine hK.out _ _ hS10 (fun _ => ?_)
          clear hK K hS9
          have Y10 := Lib.hid (Y9.out.apart (b' := w.heap.size + 1 + 1) (by omega) [.int .i64 (sK v), .int .i64 (sG v), .int .u32 (sA r' v), .int .u32 (sV r' v)])
          have Z10 := Lib.hid (Z9.out.stored (l' := [.int .i64 (sK v), .int .i64 (sG v), .int .u32 (sA r' v), .int .u32 (sV r' v)]) rfl)
          have B10 := Lib.hid (below_setCells (b := w.heap.size + 1 + 1) [.int .i64 (sK v), .int .i64 (sG v), .int .u32 (sA r' v), .int .u32 (sV r' v)] 0 _ B9.out (by omega))
          simp only [Act.put]
          generalize (w9.setCells (w.heap.size + 1 + 1) 0 [.int .i64 (sK v), .int .i64 (sG v), .int .u32 (sA r' v), .int .u32 (sV r' v)]) = w10 at *
          refine wpAnyH_ready (rs := [5]) (by kernel_rfl) (by simp) ?_
          refine AllReadyH.cons (o := ⟨some 8, .assign (.tmp 44), _, _, _, _⟩) rfl (fun K hK => ?_) AllReadyH.nil
          go_simp
          refine hK.out _ _ hS10 (fun _ => ?_)
          clear hK K
          refine wpAnyH_done (by kernel_rfl) ?_ _
          refine NoPanic.normal ?_
          go_wp2
          refine bodyPost_ret (res_three Tryd.results17 _ rfl rfl rfl (run_load17 Tryd.underlying31 rfl (stL_infR _ _) Y10.out) (run_load17 Tryd.underlying32 rfl (by kernel_rfl) Z10.out)) rfl ⟨?_, B10.out⟩
          rw [E.out]
          rfl
    · have d : decide ((k : Int) < most) = false := by simpa using hk
      have hle := HL.out.le
      have E := Lib.hid (show V = .tuple #[.agg (stL r' pc').toArray, .agg #[.int .i64 0, .int .i64 0, .int .u32 0, .int .u32 0], .int .i64 k] by
        rw [← HL.out.val, show most.toNat - k = 0 by omega]; rfl)
      have hmx : (max most 0 : Int) = k := by omega
      go_wp2_with (first | (with_reducible (show wpList _ _ _ (⟨_, .load _ (.tmp 3), _, _, _, _⟩ :: _) _ _); refine wlr_load (.tmp 3) _ _ rfl rfl rfl HL.out.st (stL_is _ _).size ?_) | (with_reducible (show wpList _ _ _ (⟨_, .store _ (.tmp 6) (.tmp 45), _, _, _, _⟩ :: _) _ _); refine wlr_store (.tmp 6) (.tmp 45) _ _ _ rfl rfl rfl rfl HL.out.rs (stL_is _ _).size (stL_is _ _).size (stL_is _ _).one ?_) | (with_reducible (show wpList _ _ _ (⟨_, .store _ (.tmp 7) (.tmp 46), _, _, _, _⟩ :: _) _ _); refine wlr_storeE (.tmp 7) (.tmp 46) _ _ _ _ _ _ _ _ _ rfl rfl rfl rfl (HL.out.re.apart (by omega) _) (one4 _ _ _ _) ?_))
      have Y2 := (HL.out.rs.stored (l' := stL r' pc') (stL_len _ _ _ _)).apart (b' := w.heap.size + 1 + 1) (by omega) [.int .i64 0, .int .i64 0, .int .u32 0, .int .u32 0]
      have Z2 := (HL.out.re.apart (b' := w.heap.size + 1) (by omega) (stL r' pc')).stored (l' := [.int .i64 0, .int .i64 0, .int .u32 0, .int .u32 0]) rfl
      refine bodyPost_ret (res_three Tryd.results17 _ rfl rfl rfl (run_load17 Tryd.underlying31 rfl (stL_infR _ _) Y2) (run_load17 Tryd.underlying32 rfl (by kernel_rfl) Z2)) rfl ⟨?_, below_setCells _ _ _ (below_setCells _ _ _ HL.out.bel (by omega)) (by omega)⟩
      rw [E.out]
      rfl
end Alu
end Go.Proofs.YtlfhcnpbgbnadaaDoor
