/-
  What alu's Run answers, at every state, code and count; the conditions: the table of operations lies as the program's text lays it, the code is of fewer than 2^40 bytes.
-/
import Derived.Test.YtlfhcnpbgbnadaaDoorAluStep
import Derived.Test.YtlfhcnpbgbnadaaDoorIsaBytes
namespace Go.Proofs.YtlfhcnpbgbnadaaDoor
open Go.RowKit Isa Nt
namespace Alu

/-- A slice of bytes that lies in the world. -/
structure CodeIn (w : World) (p : Option Addr) (len : Nat) (z : Nat → Int) : Prop where
  byte : ∀ j, j < len → Wd.B8 (z j)
  cell : 0 < len → ∃ b off, p = some ⟨b, off, none⟩ ∧ ∀ j, j < len → w.cell? ⟨b, off + j, none⟩ = some (.int .u8 (z j))
theorem CodeIn.kept {w w' : World} {p : Option Addr} {len : Nat} {z : Nat → Int} (h : CodeIn w p len z) (hb : Below w.heap.size w w') : CodeIn w' p len z :=
  ⟨h.byte, fun h0 => by
    obtain ⟨b, off, e, hc⟩ := h.cell h0
    exact ⟨b, off, e, fun j hj => (hb.cell (p := ⟨b, off + j, none⟩) (World.block_lt_of_cell? w _ (hc j hj))).trans (hc j hj)⟩⟩
/-- The word at a place, if there is one. -/
def gW (z : Nat → Int) (len : Nat) (pc : Int) : Option Int := if pc + 4 ≤ len then some (Wd.word4 (z pc.toNat) (z (pc.toNat + 1)) (z (pc.toNat + 2)) (z (pc.toNat + 3))) else none
/-- What Get answers. -/
def getV : Option Int → Value
  | some v => .tuple #[.int .u32 v, .bool true]
  | none => .tuple #[.int .u32 0, .bool false]
theorem gW_w {w : World} {p : Option Addr} {len : Nat} {z : Nat → Int} (hc : CodeIn w p len z) {pc v : Int} (hp : 0 ≤ pc) (h : gW z len pc = some v) : W32 v := by
  unfold gW at h
  split at h
  · rename_i h4
    have h0 := hc.byte pc.toNat (by omega)
    have h1 := hc.byte (pc.toNat + 1) (by omega)
    have h2 := hc.byte (pc.toNat + 2) (by omega)
    have h3 := hc.byte (pc.toNat + 3) (by omega)
    obtain rfl := Option.some.inj h
    unfold Wd.B8 at h0 h1 h2 h3
    unfold W32 Wd.word4
    omega
  · cases h
theorem get_any (p : Option Addr) (len cap : Nat) (z : Nat → Int) (pc : Int) (w : World) (hc : CodeIn w p len z) (hl : len < 1099511627776) (hp : 0 ≤ pc) :
    Calls Tryd.prog 29 #[.slice p len cap, .int .i64 pc] w fun e w' => e = .returned (getV (gW z len pc)) ∧ Below w.heap.size w w' := by
  unfold gW
  by_cases h : pc + 4 ≤ len
  · obtain ⟨b, off, rfl, hcell⟩ := hc.cell (by omega)
    rw [if_pos h]
    refine (Wd.get_yes b off len cap pc _ _ _ _ w hp h (by omega) (hc.byte _ (by omega)) (hc.byte _ (by omega)) (hc.byte _ (by omega)) (hc.byte _ (by omega)) (hcell _ (by omega)) (hcell _ (by omega)) (hcell _ (by omega)) (hcell _ (by omega))).mono ?_
    rintro e w' ⟨rfl, k, rfl⟩
    exact ⟨rfl, below_drewN (Below.refl _ _) _⟩
  · rw [if_neg h]
    refine (Wd.get_no p len cap pc w (by omega) (by omega)).mono ?_
    rintro e w' ⟨rfl, rfl⟩
    exact ⟨rfl, Below.refl _ _⟩
/-- What Run answers. -/
def runV (g : Int → Option Int) : Nat → (Nat → Int) → Int → Nat → Value
  | 0, r, pc, n => .tuple #[.agg (stL r pc).toArray, .agg #[.int .i64 0, .int .i64 0, .int .u32 0, .int .u32 0], .int .i64 n]
  | m + 1, r, pc, n => match g pc with
    | none => .tuple #[.agg (stL r pc).toArray, .agg #[.int .i64 12, .int .i64 0, .int .u32 0, .int .u32 0], .int .i64 n]
    | some v => if sK v = 0 then runV g m (sR r pc v) (sP r pc v) (n + 1) else .tuple #[.agg (stL (sR r pc v) (sP r pc v)).toArray, .agg #[.int .i64 (sK v), .int .i64 (sG v), .int .u32 (sA r v), .int .u32 (sV r v)], .int .i64 n]
/-- What the loop holds. -/
structure Loop (w wr : World) (m k : Nat) (r : Nat → Int) (pc : Int) (len : Nat) (z : Nat → Int) (V : Value) : Prop where
  st : Box wr w.heap.size (stL r pc)
  rs : Box wr (w.heap.size + 1) (stL (fun _ => 0) 0)
  re : Box wr (w.heap.size + 1 + 1) [.int .i64 0, .int .i64 0, .int .u32 0, .int .u32 0]
  bel : Below w.heap.size w wr
  regs : R32 r
  pcw : W32 pc
  le : k ≤ m
  val : runV (gW z len) (m - k) r pc k = V
theorem stL_len (r r' : Nat → Int) (p p' : Int) : (stL r p).length = (stL r' p').length := (stL_is r p).size.trans (stL_is r' p').size.symm
theorem stL_inf (r : Nat → Int) (p : Int) : (Tryd.prog.info? 25).map (·.size) = some (stL r p).length := by rw [(stL_is r p).size]; kernel_rfl
theorem zeroBox (w : World) : Box (w.alloc (.cells #[.int .u32 0, .int .u32 0, .int .u32 0, .int .u32 0, .int .u32 0, .int .u32 0, .int .u32 0, .int .u32 0, .int .u32 0, .int .u32 0, .int .u32 0, .int .u32 0, .int .u32 0, .int .u32 0, .int .u32 0, .int .u32 0, .int .u32 0] 25)) w.heap.size (stL (fun _ => 0) 0) := Box.new w (stL (fun _ => 0) 0) 25
theorem Loop.kept {w wr w' : World} {m k : Nat} {r : Nat → Int} {pc : Int} {len : Nat} {z : Nat → Int} {V : Value} (h : Loop w wr m k r pc len z V) (hb : Below wr.heap.size wr w') : Loop w w' m k r pc len z V :=
  ⟨h.st.kept hb, h.rs.kept hb, h.re.kept hb, h.bel.trans (hb.mono h.bel.size), h.regs, h.pcw, h.le, h.val⟩
set_option maxHeartbeats 4000000 in
set_option maxRecDepth 2000 in
theorem run_any (l : List Value) (r : Nat → Int) (pc : Int) (p : Option Addr) (len cap : Nat) (z : Nat → Int) (most : Int) (w : World) (hO : OpsIn w) (hl : IsSt l r pc) (hR : R32 r) (hp : W32 pc) (hc : CodeIn w p len z) (hlen : len < 1099511627776) (hm : most < 9223372036854775807) :
    Calls Tryd.prog 16 #[.agg l.toArray, .slice p len cap, .int .i64 most] w fun e w' => e = .returned (runV (gW z len) most.toNat r pc 0) ∧ Below w.heap.size w w' := by
  obtain rfl := hl.eq
  have S0 := step_boxes w (stL r pc)
  have L0 := Lib.hid (show Loop w _ most.toNat 0 r pc len z (runV (gW z len) most.toNat r pc 0) from ⟨S0.1, S0.2.1, S0.2.2.1, S0.2.2.2, hR, hp, Nat.zero_le _, rfl⟩)
  have HO := Lib.hid hO
  have HC := Lib.hid hc
  clear S0 hO hl hR hp hc
  generalize hV : runV (gW z len) most.toNat r pc 0 = V at *
  clear hV
  go_enter Tryd.func16, Tryd.ntmps16
  go_wp2
  go_loopw [9] (fun i wr => ∃ (k : Nat) (r' : Nat → Int) (pc' : Int), i = .int .i64 k ∧ Loop w wr most.toNat k r' pc' len z V) (fun i _ => most.toNat - (intOf i).toNat)
  case atStart => exact ⟨0, r, pc, rfl, L0.out⟩
  case round =>
    clear L0
    obtain ⟨k, r', pc', rfl, hL⟩ := hrel
    have HL := Lib.hid hL
    clear hL
    by_cases hk : (k : Int) < most
    · have q0 := HL.out.pcw.1
      have q1 := HL.out.pcw.2
      have c16 := HL.out.st.at 16 (stL_is _ _).pc
      go_wp2_with fail
      refine (get_any _ _ _ _ _ _ (HC.out.kept HL.out.bel) hlen q0).mono ?_
      rintro e w2 ⟨rfl, hb2⟩
      have L2 := Lib.hid (HL.out.kept hb2)
      cases hg : gW z len pc'
      · have E := Lib.hid (show V = .tuple #[.agg (stL r' pc').toArray, .agg #[.int .i64 12, .int .i64 0, .int .u32 0, .int .u32 0], .int .i64 k] by
          rw [← HL.out.val, show most.toNat - k = (most.toNat - k - 1) + 1 by omega]
          simp only [runV, hg])
        clear hb2 c16 HL
        simp only [getV]
        go_wp2_with (first | (with_reducible (show wpList _ _ _ (⟨_, .load _ (.tmp 3), _, _, _, _⟩ :: _) _ _); refine wl_load (.tmp 3) _ _ rfl rfl rfl L2.out.st (stL_is _ _).size ?_) | (with_reducible (show wpList _ _ _ (⟨_, .store _ (.tmp 6) (.tmp 27), _, _, _, _⟩ :: _) _ _); refine wl_store (.tmp 6) (.tmp 27) _ _ _ rfl rfl rfl rfl L2.out.rs (stL_is _ _).size (stL_is _ _).size (stL_is _ _).one ?_) | (with_reducible (show wpList _ _ _ (⟨_, .store _ (.tmp 7) (.tmp 28), _, _, _, _⟩ :: _) _ _); refine wl_storeE (.tmp 7) (.tmp 28) _ _ _ _ _ _ _ _ _ rfl rfl rfl rfl (L2.out.re.apart (by omega) _) (one4 _ _ _ _) ?_))
        have Y2 := (L2.out.rs.stored (l' := stL r' pc') (stL_len _ _ _ _)).apart (b' := w.heap.size + 1 + 1) (by omega) [.int .i64 12, .int .i64 0, .int .u32 0, .int .u32 0]
        have Z2 := (L2.out.re.apart (b' := w.heap.size + 1) (by omega) (stL r' pc')).stored (l' := [.int .i64 12, .int .i64 0, .int .u32 0, .int .u32 0]) rfl
        refine bodyPost_ret (res_three Tryd.results16 _ rfl rfl rfl (run_load17 Tryd.underlying25 rfl (stL_inf _ _) Y2) (run_load17 Tryd.underlying28 rfl (by kernel_rfl) Z2)) rfl ⟨?_, below_setCells _ _ _ (below_setCells _ _ _ L2.out.bel (by omega)) (by omega)⟩
        rw [E.out]
        rfl
      · rename_i v
        have hv := gW_w HC.out q0 hg
        have HK := Lib.hid HL.out.val
        clear hb2 c16 HL
        simp only [getV]
        go_wp2_with (with_reducible (show wpList _ _ _ (⟨_, .load _ (.tmp 3), _, _, _, _⟩ :: _) _ _); refine wl_load (.tmp 3) _ _ rfl rfl rfl L2.out.st (stL_is _ _).size ?_)
        refine (step_any _ _ _ _ _ (HO.out.kept L2.out.bel) (stL_is _ _) L2.out.regs hv).mono ?_
        rintro e w3 ⟨rfl, hb3⟩
        have L3 := Lib.hid (L2.out.kept hb3)
        clear hb3 L2
        have T : Box (w3.alloc (.cells #[.int .u32 0, .int .u32 0, .int .u32 0, .int .u32 0, .int .u32 0, .int .u32 0, .int .u32 0, .int .u32 0, .int .u32 0, .int .u32 0, .int .u32 0, .int .u32 0, .int .u32 0, .int .u32 0, .int .u32 0, .int .u32 0, .int .u32 0] 25)) w3.heap.size (stL (fun _ => 0) 0) := zeroBox w3
        have T2 := T.box (.cells #[.int .i64 0, .int .i64 0, .int .u32 0, .int .u32 0] 28)
        have U := Box.new (w3.alloc (.cells #[.int .u32 0, .int .u32 0, .int .u32 0, .int .u32 0, .int .u32 0, .int .u32 0, .int .u32 0, .int .u32 0, .int .u32 0, .int .u32 0, .int .u32 0, .int .u32 0, .int .u32 0, .int .u32 0, .int .u32 0, .int .u32 0, .int .u32 0] 25)) [.int .i64 0, .int .i64 0, .int .u32 0, .int .u32 0] 28
        rw [World.size_alloc] at U
        have UH := Lib.hid U
        have TH := Lib.hid T2
        have U4 := Lib.hid (U.apart (b' := w3.heap.size) (by omega) (stL (sR r' pc' v) (sP r' pc' v)))
        have T4 := Lib.hid (T2.stored (l' := (stL (sR r' pc' v) (sP r' pc' v))) (stL_len _ _ _ _))
        have T5 := Lib.hid (T4.out.apart (b' := w3.heap.size + 1) (by omega) [.int .i64 (sK v), .int .i64 (sG v), .int .u32 (sA r' v), .int .u32 (sV r' v)])
        have U5 := Lib.hid (U4.out.stored (l' := [.int .i64 (sK v), .int .i64 (sG v), .int .u32 (sA r' v), .int .u32 (sV r' v)]) rfl)
        have hb5 : Below w3.heap.size w3 ((((w3.alloc (.cells #[.int .u32 0, .int .u32 0, .int .u32 0, .int .u32 0, .int .u32 0, .int .u32 0, .int .u32 0, .int .u32 0, .int .u32 0, .int .u32 0, .int .u32 0, .int .u32 0, .int .u32 0, .int .u32 0, .int .u32 0, .int .u32 0, .int .u32 0] 25)).alloc (.cells #[.int .i64 0, .int .i64 0, .int .u32 0, .int .u32 0] 28)).setCells w3.heap.size 0 (stL (sR r' pc' v) (sP r' pc' v))).setCells (w3.heap.size + 1) 0 [.int .i64 (sK v), .int .i64 (sG v), .int .u32 (sA r' v), .int .u32 (sV r' v)]) := below_setCells _ _ _ (below_setCells _ _ _ (((Below.refl _ _).alloc (Nat.le_refl _) _).alloc (by simp) _) (Nat.le_refl _)) (by omega)
        have L5 := Lib.hid (L3.out.kept hb5)
        have lt3 := Lib.hid L3.out.re.lt
        have k0 := U5.out.at 0 rfl
        clear T T2 U hb5
        unfold stepV
        by_cases hs : sK v = 0
        · have d : (sK v != 0) = false := by simpa using hs
          have E := Lib.hid (show runV (gW z len) (most.toNat - (k + 1)) (sR r' pc' v) (sP r' pc' v) (k + 1) = V by
            rw [← HK.out, show most.toNat - k = (most.toNat - (k + 1)) + 1 by omega]
            simp only [runV, hg, if_pos hs])
          clear hs hg
          go_wp2_with (first | (with_reducible (show wpList _ _ _ (⟨_, .store _ (.tmp 12) (.tmp 34), _, _, _, _⟩ :: _) _ _); refine wl_store (.tmp 12) (.tmp 34) _ _ _ rfl rfl rfl rfl TH.out (stL_is _ _).size (stL_is _ _).size (stL_is _ _).one ?_) | (with_reducible (show wpList _ _ _ (⟨_, .store _ (.tmp 13) (.tmp 35), _, _, _, _⟩ :: _) _ _); refine wl_storeE (.tmp 13) (.tmp 35) _ _ _ _ _ _ _ _ _ rfl rfl rfl rfl U4.out (one4 _ _ _ _) ?_) | (with_reducible (show wpList _ _ _ (⟨_, .load _ (.tmp 12), _, _, _, _⟩ :: _) _ _); refine wl_load (.tmp 12) _ _ rfl rfl rfl T5.out (stL_is _ _).size ?_) | (with_reducible (show wpList _ _ _ (⟨_, .store _ (.tmp 3) (.tmp 42), _, _, _, _⟩ :: _) _ _); refine wl_store (.tmp 3) (.tmp 42) _ _ _ rfl rfl rfl rfl L5.out.st (stL_is _ _).size (stL_is _ _).size (stL_is _ _).one ?_))
          go_roundw
          case rel =>
            refine ⟨k + 1, sR r' pc' v, sP r' pc' v, by go_num, ?_⟩
            exact ⟨L5.out.st.stored (stL_len _ _ _ _), L5.out.rs.apart (by omega) _, L5.out.re.apart (by omega) _, below_setCells _ _ _ L5.out.bel (Nat.le_refl _), sR_w _ _ _ L5.out.regs, sP_w _ _ _ L5.out.regs L5.out.pcw, by omega, E.out⟩
          case measure => simp [intOf]; omega
        · have d : (sK v != 0) = true := by simpa using hs
          have E := Lib.hid (show V = .tuple #[.agg (stL (sR r' pc' v) (sP r' pc' v)).toArray, .agg #[.int .i64 (sK v), .int .i64 (sG v), .int .u32 (sA r' v), .int .u32 (sV r' v)], .int .i64 k] by
            rw [← HK.out, show most.toNat - k = (most.toNat - k - 1) + 1 by omega]
            simp only [runV, hg, if_neg hs])
          clear hs hg
          go_wp2_with (first | (with_reducible (show wpList _ _ _ (⟨_, .store _ (.tmp 12) (.tmp 34), _, _, _, _⟩ :: _) _ _); refine wl_store (.tmp 12) (.tmp 34) _ _ _ rfl rfl rfl rfl TH.out (stL_is _ _).size (stL_is _ _).size (stL_is _ _).one ?_) | (with_reducible (show wpList _ _ _ (⟨_, .store _ (.tmp 13) (.tmp 35), _, _, _, _⟩ :: _) _ _); refine wl_storeE (.tmp 13) (.tmp 35) _ _ _ _ _ _ _ _ _ rfl rfl rfl rfl U4.out (one4 _ _ _ _) ?_))
          clear k0
          generalize ((((w3.alloc (.cells #[.int .u32 0, .int .u32 0, .int .u32 0, .int .u32 0, .int .u32 0, .int .u32 0, .int .u32 0, .int .u32 0, .int .u32 0, .int .u32 0, .int .u32 0, .int .u32 0, .int .u32 0, .int .u32 0, .int .u32 0, .int .u32 0, .int .u32 0] 25)).alloc (.cells #[.int .i64 0, .int .i64 0, .int .u32 0, .int .u32 0] 28)).setCells w3.heap.size 0 (stL (sR r' pc' v) (sP r' pc' v))).setCells (w3.heap.size + 1) 0 [.int .i64 (sK v), .int .i64 (sG v), .int .u32 (sA r' v), .int .u32 (sV r' v)]) = w5 at *
          have hS : Box w5.drew w3.heap.size (stL (sR r' pc' v) (sP r' pc' v)) ∧ Box w5.drew (w3.heap.size + 1) [.int .i64 (sK v), .int .i64 (sG v), .int .u32 (sA r' v), .int .u32 (sV r' v)] := ⟨T5.out.drew, U5.out.drew⟩
          have LZ := lt3.out
          refine wp_region_noPanic ?_
          refine wp_region_held_drew (S := fun w' => Box w' w3.heap.size (stL (sR r' pc' v) (sP r' pc' v)) ∧ Box w' (w3.heap.size + 1) [.int .i64 (sK v), .int .i64 (sG v), .int .u32 (sA r' v), .int .u32 (sV r' v)]) (by kernel_rfl) hS (fun _ => ?_)
          refine wpAnyH_take (i := 0) (oi := ⟨some 39, .load 25 (.tmp 12), _, _, _, _⟩) rfl (by kernel_rfl) (by kernel_rfl) (by kernel_rfl) (fun _ _ _ h => h) (yieldsIf_load_mid (by rfl) _ _ rfl _ _ rfl _ _ (fun _ h => h.1.range) Tryd.underlying25 rfl (stL_inf _ _)) hS ?_
          refine wpAnyH_take (i := 1) (oi := ⟨some 40, .load 28 (.tmp 13), _, _, _, _⟩) rfl (by kernel_rfl) (by kernel_rfl) (by kernel_rfl) (fun _ _ _ h => h) (yieldsIf_load_mid (by rfl) _ _ rfl _ _ rfl _ _ (fun _ h => h.2.range) Tryd.underlying28 rfl (by kernel_rfl)) hS ?_
          refine wpAnyH_take (i := 2) (oi := ⟨some 41, .move (.tmp 9), _, _, _, _⟩) (v := .int .i64 k) rfl (by kernel_rfl) (by kernel_rfl) (by kernel_rfl) (fun _ _ _ h => h) (Or.inl ⟨by rfl, fun _ _ => rfl⟩) hS ?_
          simp only [Act.put, List.setIfInBounds_toArray, List.set_cons_zero, List.set_cons_succ]
          refine wpAnyH_ready (rs := [3]) (by kernel_rfl) (by simp) ?_
          refine AllReadyH.cons (o := ⟨none, .store 25 (.tmp 6) (.tmp 39), _, _, _, _⟩) rfl (fun K hK => ?_) AllReadyH.nil
          rw [if_pos (by rfl)]
          refine so_store (.tmp 6) (.tmp 39) (w.heap.size + 1) (stL (fun _ => 0) 0) (stL (sR r' pc' v) (sP r' pc' v)) rfl rfl rfl L5.out.rs.drew (stL_len _ _ _ _) (stL_inf _ _) (stL_is _ _).one ?_
          have hS9 : Box (w5.drew.setCells (w.heap.size + 1) 0 (stL (sR r' pc' v) (sP r' pc' v))) w3.heap.size (stL (sR r' pc' v) (sP r' pc' v)) ∧ Box (w5.drew.setCells (w.heap.size + 1) 0 (stL (sR r' pc' v) (sP r' pc' v))) (w3.heap.size + 1) [.int .i64 (sK v), .int .i64 (sG v), .int .u32 (sA r' v), .int .u32 (sV r' v)] := ⟨hS.1.apart (by omega) _, hS.2.apart (by omega) _⟩
          refine hK.out _ _ hS9 (fun _ => ?_)
          clear hK K hS
          have Y9 := Lib.hid (L5.out.rs.drew.stored (l' := (stL (sR r' pc' v) (sP r' pc' v))) (stL_len _ _ _ _))
          have Z9 := Lib.hid (L5.out.re.drew.apart (b' := w.heap.size + 1) (by omega) (stL (sR r' pc' v) (sP r' pc' v)))
          have B9 := Lib.hid (below_setCells (b := w.heap.size + 1) (stL (sR r' pc' v) (sP r' pc' v)) 0 _ L5.out.bel.drew (by omega))
          simp only [Act.put]
          generalize (w5.drew.setCells (w.heap.size + 1) 0 (stL (sR r' pc' v) (sP r' pc' v))) = w9 at *
          refine wpAnyH_ready (rs := [4]) (by kernel_rfl) (by simp) ?_
          refine AllReadyH.cons (o := ⟨none, .store 28 (.tmp 7) (.tmp 40), _, _, _, _⟩) rfl (fun K hK => ?_) AllReadyH.nil
          rw [if_pos (by rfl)]
          refine so_store (.tmp 7) (.tmp 40) (w.heap.size + 1 + 1) _ [.int .i64 (sK v), .int .i64 (sG v), .int .u32 (sA r' v), .int .u32 (sV r' v)] rfl rfl rfl Z9.out rfl (by kernel_rfl) (one4 _ _ _ _) ?_
          have hS10 : Box (w9.setCells (w.heap.size + 1 + 1) 0 [.int .i64 (sK v), .int .i64 (sG v), .int .u32 (sA r' v), .int .u32 (sV r' v)]) w3.heap.size (stL (sR r' pc' v) (sP r' pc' v)) ∧ Box (w9.setCells (w.heap.size + 1 + 1) 0 [.int .i64 (sK v), .int .i64 (sG v), .int .u32 (sA r' v), .int .u32 (sV r' v)]) (w3.heap.size + 1) [.int .i64 (sK v), .int .i64 (sG v), .int .u32 (sA r' v), .int .u32 (sV r' v)] := ⟨hS9.1.apart (by omega) _, hS9.2.apart (by omega) _⟩
          refine hK.out _ _ hS10 (fun _ => ?_)
          clear hK K hS9
          have Y10 := Lib.hid (Y9.out.apart (b' := w.heap.size + 1 + 1) (by omega) [.int .i64 (sK v), .int .i64 (sG v), .int .u32 (sA r' v), .int .u32 (sV r' v)])
          have Z10 := Lib.hid (Z9.out.stored (l' := [.int .i64 (sK v), .int .i64 (sG v), .int .u32 (sA r' v), .int .u32 (sV r' v)]) rfl)
          have B10 := Lib.hid (below_setCells (b := w.heap.size + 1 + 1) [.int .i64 (sK v), .int .i64 (sG v), .int .u32 (sA r' v), .int .u32 (sV r' v)] 0 _ B9.out (by omega))
          simp only [Act.put]
          generalize (w9.setCells (w.heap.size + 1 + 1) 0 [.int .i64 (sK v), .int .i64 (sG v), .int .u32 (sA r' v), .int .u32 (sV r' v)]) = w10 at *
          refine wpAnyH_ready (rs := [5]) (by kernel_rfl) (by simp) ?_
          refine AllReadyH.cons (o := ⟨some 8, .assign (.tmp 41), _, _, _, _⟩) rfl (fun K hK => ?_) AllReadyH.nil
          go_simp
          refine hK.out _ _ hS10 (fun _ => ?_)
          clear hK K
          refine wpAnyH_done (by kernel_rfl) ?_ _
          refine NoPanic.normal ?_
          go_wp2
          refine bodyPost_ret (res_three Tryd.results16 _ rfl rfl rfl (run_load17 Tryd.underlying25 rfl (stL_inf _ _) Y10.out) (run_load17 Tryd.underlying28 rfl (by kernel_rfl) Z10.out)) rfl ⟨?_, B10.out⟩
          rw [E.out]
          rfl
    · have d : decide ((k : Int) < most) = false := by simpa using hk
      have E := Lib.hid (show V = .tuple #[.agg (stL r' pc').toArray, .agg #[.int .i64 0, .int .i64 0, .int .u32 0, .int .u32 0], .int .i64 k] by
        rw [← HL.out.val, show most.toNat - k = 0 by omega]; rfl)
      clear hk
      go_wp2_with (first | (with_reducible (show wpList _ _ _ (⟨_, .load _ (.tmp 3), _, _, _, _⟩ :: _) _ _); refine wl_load (.tmp 3) _ _ rfl rfl rfl HL.out.st (stL_is _ _).size ?_) | (with_reducible (show wpList _ _ _ (⟨_, .store _ (.tmp 6) (.tmp 45), _, _, _, _⟩ :: _) _ _); refine wl_store (.tmp 6) (.tmp 45) _ _ _ rfl rfl rfl rfl HL.out.rs (stL_is _ _).size (stL_is _ _).size (stL_is _ _).one ?_) | (with_reducible (show wpList _ _ _ (⟨_, .store _ (.tmp 7) (.tmp 46), _, _, _, _⟩ :: _) _ _); refine wl_storeE (.tmp 7) (.tmp 46) _ _ _ _ _ _ _ _ _ rfl rfl rfl rfl (HL.out.re.apart (by omega) _) (one4 _ _ _ _) ?_))
      have Y2 := (HL.out.rs.stored (l' := stL r' pc') (stL_len _ _ _ _)).apart (b' := w.heap.size + 1 + 1) (by omega) [.int .i64 0, .int .i64 0, .int .u32 0, .int .u32 0]
      have Z2 := (HL.out.re.apart (b' := w.heap.size + 1) (by omega) (stL r' pc')).stored (l' := [.int .i64 0, .int .i64 0, .int .u32 0, .int .u32 0]) rfl
      refine bodyPost_ret (res_three Tryd.results16 _ rfl rfl rfl (run_load17 Tryd.underlying25 rfl (stL_inf _ _) Y2) (run_load17 Tryd.underlying28 rfl (by kernel_rfl) Z2)) rfl ⟨?_, below_setCells _ _ _ (below_setCells _ _ _ HL.out.bel (by omega)) (by omega)⟩
      rw [E.out]
      rfl
end Alu
end Go.Proofs.YtlfhcnpbgbnadaaDoor
