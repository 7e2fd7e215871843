/-
  What the document's own Step answers, of the operations 17, 18, 19, 20; no condition.
-/
import Derived.Test.YtlfhcnpbgbnadaaDoorAluRStep
import Derived.Deep.RegionHeld3
namespace Go.Proofs.YtlfhcnpbgbnadaaDoor
open Go.RowKit Isa Nt
namespace Alu

set_option maxHeartbeats 4000000 in
set_option maxRecDepth 10000 in
theorem rstep_B (r : Nat → Int) (pc v : Int) (op a b imm : Nat) (w : World) (hR : R32 r) (hv : W32 v) (hd : decV v = .tuple #[.agg #[.int .i64 op, .int .i64 a, .int .i64 b, .int .i64 imm], .bool true])
    (ho : op < 28) (ha : a < 16) (hb : b < 16) (hi : imm < 65536) (h3 : 3 ≤ op → op ≤ 10 → imm < 16) (hop : op = 17 ∨ op = 18 ∨ op = 19 ∨ op = 20) :
    Calls Tryd.prog 11 #[.agg (stL r pc).toArray, .int .u32 v] w fun e w' => e = .returned (.tuple #[.agg (stL (rNew r pc op a b imm) (nxt r pc op a b imm)).toArray, effV r op a b imm]) ∧ Below w.heap.size w w' := by
  have HV := Lib.hid hv
  have HD := Lib.hid hd
  have HR := Lib.hid hR
  have H3 := Lib.hid h3
  have S0 := Lib.hid (rstep_boxes w (stL r pc))
  have ia : (a : Int) < 16 := by omega
  have ib : (b : Int) < 16 := by omega
  clear hv hd hR h3
  go_enter Tryd.func11, Tryd.ntmps11
  go_wp2_with fail
  refine (rdecode_any v _ HV.out.1 HV.out.2).mono ?_
  rw [HD.out]
  rintro e w1 ⟨rfl, hb1⟩
  have X2 := Lib.hid ((S0.out.1.kept hb1).box (.cells #[.int .i64 op, .int .i64 a, .int .i64 b, .int .i64 imm] 59))
  have Y2 := Lib.hid ((S0.out.2.1.kept hb1).box (.cells #[.int .i64 op, .int .i64 a, .int .i64 b, .int .i64 imm] 59))
  have Z2 := Lib.hid ((S0.out.2.2.1.kept hb1).box (.cells #[.int .i64 op, .int .i64 a, .int .i64 b, .int .i64 imm] 59))
  have I2 := Lib.hid (Box.new w1 [.int .i64 op, .int .i64 a, .int .i64 b, .int .i64 imm] 59)
  have B1 := S0.out.2.2.2.trans (hb1.mono S0.out.2.2.2.size)
  have B2 := Lib.hid (B1.alloc B1.size (.cells #[.int .i64 op, .int .i64 a, .int .i64 b, .int .i64 imm] 59))
  have lz := Lib.hid (S0.out.2.2.1.kept hb1).lt
  clear hb1 B1 HD HV S0
  go_wp2_with fail
  refine (rsigned_any _ _ _ _ _).mono ?_
  rintro e w3 ⟨rfl, hb3⟩
  have X3 := Lib.hid (X2.out.kept hb3)
  have Y3 := Lib.hid (Y2.out.kept hb3)
  have Z3 := Lib.hid (Z2.out.kept hb3)
  have I3 := Lib.hid (I2.out.kept hb3)
  have B3 := Lib.hid (B2.out.trans (hb3.mono B2.out.size))
  clear hb3 X2 Y2 Z2 I2 B2
  have i1 := I3.out.at 1 rfl
  have i2 := I3.out.at 2 rfl
  have xa := X3.out.at a ((stL_is _ _).reg a ha)
  have xb := X3.out.at b ((stL_is _ _).reg b hb)
  go_wp2_with (first | (with_reducible (show wpList _ _ _ (⟨_, .load _ (.tmp 2), _, _, _, _⟩ :: _) _ _); refine wlr_load (.tmp 2) _ _ rfl rfl rfl X3.out (stL_is _ _).size ?_) | (with_reducible (show wpList _ _ _ (⟨_, .store _ (.tmp 11) (.tmp 35), _, _, _, _⟩ :: _) _ _); refine wlr_store (.tmp 11) (.tmp 35) _ _ (stL r pc) rfl rfl rfl rfl (zeroBoxR w3) (stL_is _ _).size (stL_is _ _).size (stL_is _ _).one ?_) | (with_reducible (show wpList _ _ _ (⟨some 36, _, _, _, _, _⟩ :: _) _ _); have N4 := Lib.hid ((zeroBoxR w3).stored (l' := stL r pc) (stL_len _ _ _ _)); have X4 := Lib.hid ((X3.out.box (.cells #[.int .u32 0, .int .u32 0, .int .u32 0, .int .u32 0, .int .u32 0, .int .u32 0, .int .u32 0, .int .u32 0, .int .u32 0, .int .u32 0, .int .u32 0, .int .u32 0, .int .u32 0, .int .u32 0, .int .u32 0, .int .u32 0, .int .u32 0] 31)).apart (Nat.ne_of_lt X3.out.lt) (stL r pc)); have Y4 := Lib.hid ((Y3.out.box (.cells #[.int .u32 0, .int .u32 0, .int .u32 0, .int .u32 0, .int .u32 0, .int .u32 0, .int .u32 0, .int .u32 0, .int .u32 0, .int .u32 0, .int .u32 0, .int .u32 0, .int .u32 0, .int .u32 0, .int .u32 0, .int .u32 0, .int .u32 0] 31)).apart (Nat.ne_of_lt Y3.out.lt) (stL r pc)); have Zq := Lib.hid ((Z3.out.box (.cells #[.int .u32 0, .int .u32 0, .int .u32 0, .int .u32 0, .int .u32 0, .int .u32 0, .int .u32 0, .int .u32 0, .int .u32 0, .int .u32 0, .int .u32 0, .int .u32 0, .int .u32 0, .int .u32 0, .int .u32 0, .int .u32 0, .int .u32 0] 31)).apart (Nat.ne_of_lt Z3.out.lt) (stL r pc)); have I4 := Lib.hid ((I3.out.box (.cells #[.int .u32 0, .int .u32 0, .int .u32 0, .int .u32 0, .int .u32 0, .int .u32 0, .int .u32 0, .int .u32 0, .int .u32 0, .int .u32 0, .int .u32 0, .int .u32 0, .int .u32 0, .int .u32 0, .int .u32 0, .int .u32 0, .int .u32 0] 31)).apart (Nat.ne_of_lt I3.out.lt) (stL r pc)); have B4 := Lib.hid (below_setCells (b := w3.heap.size) (stL r pc) 0 _ (B3.out.alloc B3.out.size (.cells #[.int .u32 0, .int .u32 0, .int .u32 0, .int .u32 0, .int .u32 0, .int .u32 0, .int .u32 0, .int .u32 0, .int .u32 0, .int .u32 0, .int .u32 0, .int .u32 0, .int .u32 0, .int .u32 0, .int .u32 0, .int .u32 0, .int .u32 0] 31)) B3.out.size); clear i1 i2 xa xb; generalize ((w3.alloc (.cells #[.int .u32 0, .int .u32 0, .int .u32 0, .int .u32 0, .int .u32 0, .int .u32 0, .int .u32 0, .int .u32 0, .int .u32 0, .int .u32 0, .int .u32 0, .int .u32 0, .int .u32 0, .int .u32 0, .int .u32 0, .int .u32 0, .int .u32 0] 31)).setCells w3.heap.size 0 (stL r pc)) = w4 at *; have x16 := X4.out.at 16 (stL_is _ _).pc; have n16 := N4.out.at 16 (stL_is _ _).pc; have f16 := N4.out.fz 16 (by rw [(stL_is _ _).size]; decide); go_step) | (with_reducible (show wpList _ _ _ (⟨some 42, _, _, _, _, _⟩ :: _) _ _); have N6 := Lib.hid ((N4.out.put 16 (by rw [(stL_is _ _).size]; decide) (.int .u32 ((pc + 4) % 4294967296))).box (.cells #[.int .i64 0, .int .i64 0, .int .u32 0, .int .u32 0] 32)); have X6 := Lib.hid ((X4.out.putApart (Nat.ne_of_lt X3.out.lt) 16 (.int .u32 ((pc + 4) % 4294967296))).box (.cells #[.int .i64 0, .int .i64 0, .int .u32 0, .int .u32 0] 32)); have Y6 := Lib.hid ((Y4.out.putApart (Nat.ne_of_lt Y3.out.lt) 16 (.int .u32 ((pc + 4) % 4294967296))).box (.cells #[.int .i64 0, .int .i64 0, .int .u32 0, .int .u32 0] 32)); have Z6 := Lib.hid ((Zq.out.putApart (Nat.ne_of_lt Z3.out.lt) 16 (.int .u32 ((pc + 4) % 4294967296))).box (.cells #[.int .i64 0, .int .i64 0, .int .u32 0, .int .u32 0] 32)); have I6 := Lib.hid ((I4.out.putApart (Nat.ne_of_lt I3.out.lt) 16 (.int .u32 ((pc + 4) % 4294967296))).box (.cells #[.int .i64 0, .int .i64 0, .int .u32 0, .int .u32 0] 32)); have E6 := Box.new (w4.setCell ⟨w3.heap.size, 16, none⟩ (.int .u32 ((pc + 4) % 4294967296))) [.int .i64 0, .int .i64 0, .int .u32 0, .int .u32 0] 32; rw [World.size_setCell] at E6; have E6H := Lib.hid E6; have B6' := B4.out.setCell (p := ⟨w3.heap.size, 16, none⟩) B3.out.size (.int .u32 ((pc + 4) % 4294967296)); have B6 := Lib.hid (B6'.alloc B6'.size (.cells #[.int .i64 0, .int .i64 0, .int .u32 0, .int .u32 0] 32)); have l3 := Lib.hid N4.out.lt; clear E6 B6' x16 n16 f16; generalize ((w4.setCell ⟨w3.heap.size, 16, none⟩ (.int .u32 ((pc + 4) % 4294967296))).alloc (.cells #[.int .i64 0, .int .i64 0, .int .u32 0, .int .u32 0] 32)) = w6 at *; refine Shut.out ?_))
  rw [IsSt.eq ((stL_is r pc).setPc ((pc + 4) % 4294967296))] at N6
  have i0 := I6.out.at 0 rfl
  have i1 := I6.out.at 1 rfl
  have i3 := I6.out.at 3 rfl
  have x16 := X6.out.at 16 (stL_is _ _).pc
  have na := N6.out.at a ((stL_is _ _).reg a ha)
  have fa := N6.out.fz a (by rw [(stL_is _ _).size]; omega)
  have n16 := N6.out.at 16 (stL_is _ _).pc
  have f16 := N6.out.fz 16 (by rw [(stL_is _ _).size]; decide)
  have em : (imm : Int) % 4294967296 = imm := by omega
  have ra0 := (HR.out a ha).1
  have ra1 := (HR.out a ha).2
  have LZ := Lib.hid Z3.out.lt
  clear X3 Y3 Z3 I3 B3 N4 X4 Y4 Zq I4 B4 lz
  show wpList _ _ _ _ _ _
  rcases hop with rfl | rfl | rfl | rfl
  · go_wp2_with fail
    refine (taken17 _ _ _).mono ?_
    rintro e w7 ⟨rfl, rfl⟩
    cases ht : (r a != r b)
    · go_wp2_with fail
      have N8 := N6
      rw [show stL r ((pc + 4) % 4294967296) = (stL (rNew r pc 17 a b imm) (nxt r pc 17 a b imm)) from none_eq (op := 17) rfl (show (pc + 4) % 4294967296 = nxt r pc 17 a b imm by show _ = if (r a != r b) = true then _ else _; rw [ht]; rfl)] at N8
      have E8 := Lib.hid (show Box w6 w4.heap.size [.int .i64 (eK 17), .int .i64 (eR 17 a), .int .u32 (eA r 17 b imm), .int .u32 (eV r 17 a imm)] from E6H.out)
      have Y8 := Y6
      have Z8 := Z6
      have B8 := B6
      clear N6 X6 I6 E6H Y6 Z6 B6
      generalize w6 = w8 at *
      have hS : Box w8.drew w3.heap.size (stL (rNew r pc 17 a b imm) (nxt r pc 17 a b imm)) ∧ Box w8.drew w4.heap.size [.int .i64 (eK 17), .int .i64 (eR 17 a), .int .u32 (eA r 17 b imm), .int .u32 (eV r 17 a imm)] := ⟨N8.out.drew, E8.out.drew⟩
      have lz := LZ.out
      have lt3 := l3.out
      clear i0 i1 i3 x16 na fa n16 f16
      refine wp_region_noPanic ?_
      refine wp_region_held_drew (S := fun w' => Box w' w3.heap.size (stL (rNew r pc 17 a b imm) (nxt r pc 17 a b imm)) ∧ Box w' w4.heap.size [.int .i64 (eK 17), .int .i64 (eR 17 a), .int .u32 (eA r 17 b imm), .int .u32 (eV r 17 a imm)]) (by kernel_rfl) hS (fun _ => ?_)
      refine wpAnyH_take (i := 0) (oi := ⟨some 231, .load 31 (.tmp 11), _, _, _, _⟩) rfl (by kernel_rfl) (by kernel_rfl) (by kernel_rfl) (fun _ _ _ h => h) (yieldsIf_load_mid (by rfl) _ _ rfl _ _ rfl _ _ (fun _ h => h.1.range) Tryd.underlying31 rfl (stL_infR _ _)) hS ?_
      refine wpAnyH_take (i := 1) (oi := ⟨some 232, .load 32 (.tmp 12), _, _, _, _⟩) rfl (by kernel_rfl) (by kernel_rfl) (by kernel_rfl) (fun _ _ _ h => h) (yieldsIf_load_mid (by rfl) _ _ rfl _ _ rfl _ _ (fun _ h => h.2.range) Tryd.underlying32 rfl (by kernel_rfl)) hS ?_
      simp only [Act.put, List.setIfInBounds_toArray, List.set_cons_zero, List.set_cons_succ]
      refine wpAnyH_ready (rs := [2]) (by kernel_rfl) (by simp) ?_
      refine AllReadyH.cons (o := ⟨none, .store 31 (.tmp 4) (.tmp 231), _, _, _, _⟩) rfl (fun K hK => ?_) AllReadyH.nil
      rw [if_pos (by rfl)]
      refine so_store (.tmp 4) (.tmp 231) (w.heap.size + 1) (stL (fun _ => 0) 0) (stL (rNew r pc 17 a b imm) (nxt r pc 17 a b imm)) rfl rfl rfl Y8.out.drew (stL_len _ _ _ _) (stL_infR _ _) (stL_is _ _).one ?_
      have hS9 : Box (w8.drew.setCells (w.heap.size + 1) 0 (stL (rNew r pc 17 a b imm) (nxt r pc 17 a b imm))) w3.heap.size (stL (rNew r pc 17 a b imm) (nxt r pc 17 a b imm)) ∧ Box (w8.drew.setCells (w.heap.size + 1) 0 (stL (rNew r pc 17 a b imm) (nxt r pc 17 a b imm))) w4.heap.size [.int .i64 (eK 17), .int .i64 (eR 17 a), .int .u32 (eA r 17 b imm), .int .u32 (eV r 17 a imm)] := ⟨hS.1.apart (by omega) _, hS.2.apart (by omega) _⟩
      refine hK.out _ _ hS9 (fun _ => ?_)
      clear hK K hS
      have Y9 := Lib.hid (Y8.out.drew.stored (l' := (stL (rNew r pc 17 a b imm) (nxt r pc 17 a b imm))) (stL_len _ _ _ _))
      have Z9 := Lib.hid (Z8.out.drew.apart (b' := w.heap.size + 1) (by omega) (stL (rNew r pc 17 a b imm) (nxt r pc 17 a b imm)))
      have B9 := Lib.hid (below_setCells (b := w.heap.size + 1) (stL (rNew r pc 17 a b imm) (nxt r pc 17 a b imm)) 0 _ B8.out.drew (by omega))
      simp only [Act.put]
      generalize (w8.drew.setCells (w.heap.size + 1) 0 (stL (rNew r pc 17 a b imm) (nxt r pc 17 a b imm))) = w9 at *
      refine wpAnyH_ready (rs := [3]) (by kernel_rfl) (by simp) ?_
      refine AllReadyH.cons (o := ⟨none, .store 32 (.tmp 5) (.tmp 232), _, _, _, _⟩) rfl (fun K hK => ?_) AllReadyH.nil
      rw [if_pos (by rfl)]
      refine so_store (.tmp 5) (.tmp 232) (w.heap.size + 1 + 1) _ [.int .i64 (eK 17), .int .i64 (eR 17 a), .int .u32 (eA r 17 b imm), .int .u32 (eV r 17 a imm)] rfl rfl rfl Z9.out rfl (by kernel_rfl) (one4 _ _ _ _) ?_
      have hS10 : Box (w9.setCells (w.heap.size + 1 + 1) 0 [.int .i64 (eK 17), .int .i64 (eR 17 a), .int .u32 (eA r 17 b imm), .int .u32 (eV r 17 a imm)]) w3.heap.size (stL (rNew r pc 17 a b imm) (nxt r pc 17 a b imm)) ∧ Box (w9.setCells (w.heap.size + 1 + 1) 0 [.int .i64 (eK 17), .int .i64 (eR 17 a), .int .u32 (eA r 17 b imm), .int .u32 (eV r 17 a imm)]) w4.heap.size [.int .i64 (eK 17), .int .i64 (eR 17 a), .int .u32 (eA r 17 b imm), .int .u32 (eV r 17 a imm)] := ⟨hS9.1.apart (by omega) _, hS9.2.apart (by omega) _⟩
      refine hK.out _ _ hS10 (fun _ => ?_)
      clear hK K hS9
      have Y10 := Lib.hid (Y9.out.apart (b' := w.heap.size + 1 + 1) (by omega) [.int .i64 (eK 17), .int .i64 (eR 17 a), .int .u32 (eA r 17 b imm), .int .u32 (eV r 17 a imm)])
      have Z10 := Lib.hid (Z9.out.stored (l' := [.int .i64 (eK 17), .int .i64 (eR 17 a), .int .u32 (eA r 17 b imm), .int .u32 (eV r 17 a imm)]) rfl)
      have B10 := Lib.hid (below_setCells (b := w.heap.size + 1 + 1) [.int .i64 (eK 17), .int .i64 (eR 17 a), .int .u32 (eA r 17 b imm), .int .u32 (eV r 17 a imm)] 0 _ B9.out (by omega))
      simp only [Act.put]
      generalize (w9.setCells (w.heap.size + 1 + 1) 0 [.int .i64 (eK 17), .int .i64 (eR 17 a), .int .u32 (eA r 17 b imm), .int .u32 (eV r 17 a imm)]) = w10 at *
      refine wpAnyH_done (by kernel_rfl) ?_ _
      refine NoPanic.normal ?_
      go_wp2
      refine bodyPost_ret (res_two Tryd.results11 _ rfl rfl (run_load17 Tryd.underlying31 rfl (stL_infR _ _) Y10.out) (run_load17 Tryd.underlying32 rfl (by kernel_rfl) Z10.out)) rfl ⟨rfl, B10.out⟩
    · go_wp2_with fail
      have N8 := Lib.hid (N6.out.put 16 (by rw [(stL_is _ _).size]; decide) (.int .u32 ((pc + 4 * (sgn imm % 4294967296)) % 4294967296)))
      rw [show (stL r ((pc + 4) % 4294967296)).set 16 (.int .u32 ((pc + 4 * (sgn imm % 4294967296)) % 4294967296)) = (stL (rNew r pc 17 a b imm) (nxt r pc 17 a b imm)) from pc_eq (op := 17) rfl (show ((pc + 4 * (sgn imm % 4294967296)) % 4294967296) = nxt r pc 17 a b imm by show _ = if (r a != r b) = true then _ else _; rw [ht, if_pos rfl]; unfold sw; omega)] at N8
      have E8 := Lib.hid (show Box (w6.setCell ⟨w3.heap.size, 16, none⟩ (.int .u32 ((pc + 4 * (sgn imm % 4294967296)) % 4294967296))) w4.heap.size [.int .i64 (eK 17), .int .i64 (eR 17 a), .int .u32 (eA r 17 b imm), .int .u32 (eV r 17 a imm)] from E6H.out.putApart (by have := l3.out; omega) 16 (.int .u32 ((pc + 4 * (sgn imm % 4294967296)) % 4294967296)))
      have Y8 := Lib.hid (Y6.out.putApart (b' := w3.heap.size) (by have := LZ.out; omega) 16 (.int .u32 ((pc + 4 * (sgn imm % 4294967296)) % 4294967296)))
      have Z8 := Lib.hid (Z6.out.putApart (b' := w3.heap.size) (by have := LZ.out; omega) 16 (.int .u32 ((pc + 4 * (sgn imm % 4294967296)) % 4294967296)))
      have B8 := Lib.hid (B6.out.setCell (p := ⟨w3.heap.size, 16, none⟩) (by show w.heap.size ≤ w3.heap.size; have := LZ.out; omega) (.int .u32 ((pc + 4 * (sgn imm % 4294967296)) % 4294967296)))
      clear N6 X6 I6 E6H Y6 Z6 B6
      generalize (w6.setCell ⟨w3.heap.size, 16, none⟩ (.int .u32 ((pc + 4 * (sgn imm % 4294967296)) % 4294967296))) = w8 at *
      have hS : Box w8.drew w3.heap.size (stL (rNew r pc 17 a b imm) (nxt r pc 17 a b imm)) ∧ Box w8.drew w4.heap.size [.int .i64 (eK 17), .int .i64 (eR 17 a), .int .u32 (eA r 17 b imm), .int .u32 (eV r 17 a imm)] := ⟨N8.out.drew, E8.out.drew⟩
      have lz := LZ.out
      have lt3 := l3.out
      clear i0 i1 i3 x16 na fa n16 f16
      refine wp_region_noPanic ?_
      refine wp_region_held_drew (S := fun w' => Box w' w3.heap.size (stL (rNew r pc 17 a b imm) (nxt r pc 17 a b imm)) ∧ Box w' w4.heap.size [.int .i64 (eK 17), .int .i64 (eR 17 a), .int .u32 (eA r 17 b imm), .int .u32 (eV r 17 a imm)]) (by kernel_rfl) hS (fun _ => ?_)
      refine wpAnyH_take (i := 0) (oi := ⟨some 231, .load 31 (.tmp 11), _, _, _, _⟩) rfl (by kernel_rfl) (by kernel_rfl) (by kernel_rfl) (fun _ _ _ h => h) (yieldsIf_load_mid (by rfl) _ _ rfl _ _ rfl _ _ (fun _ h => h.1.range) Tryd.underlying31 rfl (stL_infR _ _)) hS ?_
      refine wpAnyH_take (i := 1) (oi := ⟨some 232, .load 32 (.tmp 12), _, _, _, _⟩) rfl (by kernel_rfl) (by kernel_rfl) (by kernel_rfl) (fun _ _ _ h => h) (yieldsIf_load_mid (by rfl) _ _ rfl _ _ rfl _ _ (fun _ h => h.2.range) Tryd.underlying32 rfl (by kernel_rfl)) hS ?_
      simp only [Act.put, List.setIfInBounds_toArray, List.set_cons_zero, List.set_cons_succ]
      refine wpAnyH_ready (rs := [2]) (by kernel_rfl) (by simp) ?_
      refine AllReadyH.cons (o := ⟨none, .store 31 (.tmp 4) (.tmp 231), _, _, _, _⟩) rfl (fun K hK => ?_) AllReadyH.nil
      rw [if_pos (by rfl)]
      refine so_store (.tmp 4) (.tmp 231) (w.heap.size + 1) (stL (fun _ => 0) 0) (stL (rNew r pc 17 a b imm) (nxt r pc 17 a b imm)) rfl rfl rfl Y8.out.drew (stL_len _ _ _ _) (stL_infR _ _) (stL_is _ _).one ?_
      have hS9 : Box (w8.drew.setCells (w.heap.size + 1) 0 (stL (rNew r pc 17 a b imm) (nxt r pc 17 a b imm))) w3.heap.size (stL (rNew r pc 17 a b imm) (nxt r pc 17 a b imm)) ∧ Box (w8.drew.setCells (w.heap.size + 1) 0 (stL (rNew r pc 17 a b imm) (nxt r pc 17 a b imm))) w4.heap.size [.int .i64 (eK 17), .int .i64 (eR 17 a), .int .u32 (eA r 17 b imm), .int .u32 (eV r 17 a imm)] := ⟨hS.1.apart (by omega) _, hS.2.apart (by omega) _⟩
      refine hK.out _ _ hS9 (fun _ => ?_)
      clear hK K hS
      have Y9 := Lib.hid (Y8.out.drew.stored (l' := (stL (rNew r pc 17 a b imm) (nxt r pc 17 a b imm))) (stL_len _ _ _ _))
      have Z9 := Lib.hid (Z8.out.drew.apart (b' := w.heap.size + 1) (by omega) (stL (rNew r pc 17 a b imm) (nxt r pc 17 a b imm)))
      have B9 := Lib.hid (below_setCells (b := w.heap.size + 1) (stL (rNew r pc 17 a b imm) (nxt r pc 17 a b imm)) 0 _ B8.out.drew (by omega))
      simp only [Act.put]
      generalize (w8.drew.setCells (w.heap.size + 1) 0 (stL (rNew r pc 17 a b imm) (nxt r pc 17 a b imm))) = w9 at *
      refine wpAnyH_ready (rs := [3]) (by kernel_rfl) (by simp) ?_
      refine AllReadyH.cons (o := ⟨none, .store 32 (.tmp 5) (.tmp 232), _, _, _, _⟩) rfl (fun K hK => ?_) AllReadyH.nil
      rw [if_pos (by rfl)]
      refine so_store (.tmp 5) (.tmp 232) (w.heap.size + 1 + 1) _ [.int .i64 (eK 17), .int .i64 (eR 17 a), .int .u32 (eA r 17 b imm), .int .u32 (eV r 17 a imm)] rfl rfl rfl Z9.out rfl (by kernel_rfl) (one4 _ _ _ _) ?_
      have hS10 : Box (w9.setCells (w.heap.size + 1 + 1) 0 [.int .i64 (eK 17), .int .i64 (eR 17 a), .int .u32 (eA r 17 b imm), .int .u32 (eV r 17 a imm)]) w3.heap.size (stL (rNew r pc 17 a b imm) (nxt r pc 17 a b imm)) ∧ Box (w9.setCells (w.heap.size + 1 + 1) 0 [.int .i64 (eK 17), .int .i64 (eR 17 a), .int .u32 (eA r 17 b imm), .int .u32 (eV r 17 a imm)]) w4.heap.size [.int .i64 (eK 17), .int .i64 (eR 17 a), .int .u32 (eA r 17 b imm), .int .u32 (eV r 17 a imm)] := ⟨hS9.1.apart (by omega) _, hS9.2.apart (by omega) _⟩
      refine hK.out _ _ hS10 (fun _ => ?_)
      clear hK K hS9
      have Y10 := Lib.hid (Y9.out.apart (b' := w.heap.size + 1 + 1) (by omega) [.int .i64 (eK 17), .int .i64 (eR 17 a), .int .u32 (eA r 17 b imm), .int .u32 (eV r 17 a imm)])
      have Z10 := Lib.hid (Z9.out.stored (l' := [.int .i64 (eK 17), .int .i64 (eR 17 a), .int .u32 (eA r 17 b imm), .int .u32 (eV r 17 a imm)]) rfl)
      have B10 := Lib.hid (below_setCells (b := w.heap.size + 1 + 1) [.int .i64 (eK 17), .int .i64 (eR 17 a), .int .u32 (eA r 17 b imm), .int .u32 (eV r 17 a imm)] 0 _ B9.out (by omega))
      simp only [Act.put]
      generalize (w9.setCells (w.heap.size + 1 + 1) 0 [.int .i64 (eK 17), .int .i64 (eR 17 a), .int .u32 (eA r 17 b imm), .int .u32 (eV r 17 a imm)]) = w10 at *
      refine wpAnyH_done (by kernel_rfl) ?_ _
      refine NoPanic.normal ?_
      go_wp2
      refine bodyPost_ret (res_two Tryd.results11 _ rfl rfl (run_load17 Tryd.underlying31 rfl (stL_infR _ _) Y10.out) (run_load17 Tryd.underlying32 rfl (by kernel_rfl) Z10.out)) rfl ⟨rfl, B10.out⟩
  · go_wp2_with fail
    refine (taken18 _ _ _).mono ?_
    rintro e w7 ⟨rfl, rfl⟩
    cases ht : (decide (r a < r b))
    · go_wp2_with fail
      have N8 := N6
      rw [show stL r ((pc + 4) % 4294967296) = (stL (rNew r pc 18 a b imm) (nxt r pc 18 a b imm)) from none_eq (op := 18) rfl (show (pc + 4) % 4294967296 = nxt r pc 18 a b imm by show _ = if (decide (r a < r b)) = true then _ else _; rw [ht]; rfl)] at N8
      have E8 := Lib.hid (show Box w6 w4.heap.size [.int .i64 (eK 18), .int .i64 (eR 18 a), .int .u32 (eA r 18 b imm), .int .u32 (eV r 18 a imm)] from E6H.out)
      have Y8 := Y6
      have Z8 := Z6
      have B8 := B6
      clear N6 X6 I6 E6H Y6 Z6 B6
      generalize w6 = w8 at *
      have hS : Box w8.drew w3.heap.size (stL (rNew r pc 18 a b imm) (nxt r pc 18 a b imm)) ∧ Box w8.drew w4.heap.size [.int .i64 (eK 18), .int .i64 (eR 18 a), .int .u32 (eA r 18 b imm), .int .u32 (eV r 18 a imm)] := ⟨N8.out.drew, E8.out.drew⟩
      have lz := LZ.out
      have lt3 := l3.out
      clear i0 i1 i3 x16 na fa n16 f16
      refine wp_region_noPanic ?_
      refine wp_region_held_drew (S := fun w' => Box w' w3.heap.size (stL (rNew r pc 18 a b imm) (nxt r pc 18 a b imm)) ∧ Box w' w4.heap.size [.int .i64 (eK 18), .int .i64 (eR 18 a), .int .u32 (eA r 18 b imm), .int .u32 (eV r 18 a imm)]) (by kernel_rfl) hS (fun _ => ?_)
      refine wpAnyH_take (i := 0) (oi := ⟨some 231, .load 31 (.tmp 11), _, _, _, _⟩) rfl (by kernel_rfl) (by kernel_rfl) (by kernel_rfl) (fun _ _ _ h => h) (yieldsIf_load_mid (by rfl) _ _ rfl _ _ rfl _ _ (fun _ h => h.1.range) Tryd.underlying31 rfl (stL_infR _ _)) hS ?_
      refine wpAnyH_take (i := 1) (oi := ⟨some 232, .load 32 (.tmp 12), _, _, _, _⟩) rfl (by kernel_rfl) (by kernel_rfl) (by kernel_rfl) (fun _ _ _ h => h) (yieldsIf_load_mid (by rfl) _ _ rfl _ _ rfl _ _ (fun _ h => h.2.range) Tryd.underlying32 rfl (by kernel_rfl)) hS ?_
      simp only [Act.put, List.setIfInBounds_toArray, List.set_cons_zero, List.set_cons_succ]
      refine wpAnyH_ready (rs := [2]) (by kernel_rfl) (by simp) ?_
      refine AllReadyH.cons (o := ⟨none, .store 31 (.tmp 4) (.tmp 231), _, _, _, _⟩) rfl (fun K hK => ?_) AllReadyH.nil
      rw [if_pos (by rfl)]
      refine so_store (.tmp 4) (.tmp 231) (w.heap.size + 1) (stL (fun _ => 0) 0) (stL (rNew r pc 18 a b imm) (nxt r pc 18 a b imm)) rfl rfl rfl Y8.out.drew (stL_len _ _ _ _) (stL_infR _ _) (stL_is _ _).one ?_
      have hS9 : Box (w8.drew.setCells (w.heap.size + 1) 0 (stL (rNew r pc 18 a b imm) (nxt r pc 18 a b imm))) w3.heap.size (stL (rNew r pc 18 a b imm) (nxt r pc 18 a b imm)) ∧ Box (w8.drew.setCells (w.heap.size + 1) 0 (stL (rNew r pc 18 a b imm) (nxt r pc 18 a b imm))) w4.heap.size [.int .i64 (eK 18), .int .i64 (eR 18 a), .int .u32 (eA r 18 b imm), .int .u32 (eV r 18 a imm)] := ⟨hS.1.apart (by omega) _, hS.2.apart (by omega) _⟩
      refine hK.out _ _ hS9 (fun _ => ?_)
      clear hK K hS
      have Y9 := Lib.hid (Y8.out.drew.stored (l' := (stL (rNew r pc 18 a b imm) (nxt r pc 18 a b imm))) (stL_len _ _ _ _))
      have Z9 := Lib.hid (Z8.out.drew.apart (b' := w.heap.size + 1) (by omega) (stL (rNew r pc 18 a b imm) (nxt r pc 18 a b imm)))
      have B9 := Lib.hid (below_setCells (b := w.heap.size + 1) (stL (rNew r pc 18 a b imm) (nxt r pc 18 a b imm)) 0 _ B8.out.drew (by omega))
      simp only [Act.put]
      generalize (w8.drew.setCells (w.heap.size + 1) 0 (stL (rNew r pc 18 a b imm) (nxt r pc 18 a b imm))) = w9 at *
      refine wpAnyH_ready (rs := [3]) (by kernel_rfl) (by simp) ?_
      refine AllReadyH.cons (o := ⟨none, .store 32 (.tmp 5) (.tmp 232), _, _, _, _⟩) rfl (fun K hK => ?_) AllReadyH.nil
      rw [if_pos (by rfl)]
      refine so_store (.tmp 5) (.tmp 232) (w.heap.size + 1 + 1) _ [.int .i64 (eK 18), .int .i64 (eR 18 a), .int .u32 (eA r 18 b imm), .int .u32 (eV r 18 a imm)] rfl rfl rfl Z9.out rfl (by kernel_rfl) (one4 _ _ _ _) ?_
      have hS10 : Box (w9.setCells (w.heap.size + 1 + 1) 0 [.int .i64 (eK 18), .int .i64 (eR 18 a), .int .u32 (eA r 18 b imm), .int .u32 (eV r 18 a imm)]) w3.heap.size (stL (rNew r pc 18 a b imm) (nxt r pc 18 a b imm)) ∧ Box (w9.setCells (w.heap.size + 1 + 1) 0 [.int .i64 (eK 18), .int .i64 (eR 18 a), .int .u32 (eA r 18 b imm), .int .u32 (eV r 18 a imm)]) w4.heap.size [.int .i64 (eK 18), .int .i64 (eR 18 a), .int .u32 (eA r 18 b imm), .int .u32 (eV r 18 a imm)] := ⟨hS9.1.apart (by omega) _, hS9.2.apart (by omega) _⟩
      refine hK.out _ _ hS10 (fun _ => ?_)
      clear hK K hS9
      have Y10 := Lib.hid (Y9.out.apart (b' := w.heap.size + 1 + 1) (by omega) [.int .i64 (eK 18), .int .i64 (eR 18 a), .int .u32 (eA r 18 b imm), .int .u32 (eV r 18 a imm)])
      have Z10 := Lib.hid (Z9.out.stored (l' := [.int .i64 (eK 18), .int .i64 (eR 18 a), .int .u32 (eA r 18 b imm), .int .u32 (eV r 18 a imm)]) rfl)
      have B10 := Lib.hid (below_setCells (b := w.heap.size + 1 + 1) [.int .i64 (eK 18), .int .i64 (eR 18 a), .int .u32 (eA r 18 b imm), .int .u32 (eV r 18 a imm)] 0 _ B9.out (by omega))
      simp only [Act.put]
      generalize (w9.setCells (w.heap.size + 1 + 1) 0 [.int .i64 (eK 18), .int .i64 (eR 18 a), .int .u32 (eA r 18 b imm), .int .u32 (eV r 18 a imm)]) = w10 at *
      refine wpAnyH_done (by kernel_rfl) ?_ _
      refine NoPanic.normal ?_
      go_wp2
      refine bodyPost_ret (res_two Tryd.results11 _ rfl rfl (run_load17 Tryd.underlying31 rfl (stL_infR _ _) Y10.out) (run_load17 Tryd.underlying32 rfl (by kernel_rfl) Z10.out)) rfl ⟨rfl, B10.out⟩
    · go_wp2_with fail
      have N8 := Lib.hid (N6.out.put 16 (by rw [(stL_is _ _).size]; decide) (.int .u32 ((pc + 4 * (sgn imm % 4294967296)) % 4294967296)))
      rw [show (stL r ((pc + 4) % 4294967296)).set 16 (.int .u32 ((pc + 4 * (sgn imm % 4294967296)) % 4294967296)) = (stL (rNew r pc 18 a b imm) (nxt r pc 18 a b imm)) from pc_eq (op := 18) rfl (show ((pc + 4 * (sgn imm % 4294967296)) % 4294967296) = nxt r pc 18 a b imm by show _ = if (decide (r a < r b)) = true then _ else _; rw [ht, if_pos rfl]; unfold sw; omega)] at N8
      have E8 := Lib.hid (show Box (w6.setCell ⟨w3.heap.size, 16, none⟩ (.int .u32 ((pc + 4 * (sgn imm % 4294967296)) % 4294967296))) w4.heap.size [.int .i64 (eK 18), .int .i64 (eR 18 a), .int .u32 (eA r 18 b imm), .int .u32 (eV r 18 a imm)] from E6H.out.putApart (by have := l3.out; omega) 16 (.int .u32 ((pc + 4 * (sgn imm % 4294967296)) % 4294967296)))
      have Y8 := Lib.hid (Y6.out.putApart (b' := w3.heap.size) (by have := LZ.out; omega) 16 (.int .u32 ((pc + 4 * (sgn imm % 4294967296)) % 4294967296)))
      have Z8 := Lib.hid (Z6.out.putApart (b' := w3.heap.size) (by have := LZ.out; omega) 16 (.int .u32 ((pc + 4 * (sgn imm % 4294967296)) % 4294967296)))
      have B8 := Lib.hid (B6.out.setCell (p := ⟨w3.heap.size, 16, none⟩) (by show w.heap.size ≤ w3.heap.size; have := LZ.out; omega) (.int .u32 ((pc + 4 * (sgn imm % 4294967296)) % 4294967296)))
      clear N6 X6 I6 E6H Y6 Z6 B6
      generalize (w6.setCell ⟨w3.heap.size, 16, none⟩ (.int .u32 ((pc + 4 * (sgn imm % 4294967296)) % 4294967296))) = w8 at *
      have hS : Box w8.drew w3.heap.size (stL (rNew r pc 18 a b imm) (nxt r pc 18 a b imm)) ∧ Box w8.drew w4.heap.size [.int .i64 (eK 18), .int .i64 (eR 18 a), .int .u32 (eA r 18 b imm), .int .u32 (eV r 18 a imm)] := ⟨N8.out.drew, E8.out.drew⟩
      have lz := LZ.out
      have lt3 := l3.out
      clear i0 i1 i3 x16 na fa n16 f16
      refine wp_region_noPanic ?_
      refine wp_region_held_drew (S := fun w' => Box w' w3.heap.size (stL (rNew r pc 18 a b imm) (nxt r pc 18 a b imm)) ∧ Box w' w4.heap.size [.int .i64 (eK 18), .int .i64 (eR 18 a), .int .u32 (eA r 18 b imm), .int .u32 (eV r 18 a imm)]) (by kernel_rfl) hS (fun _ => ?_)
      refine wpAnyH_take (i := 0) (oi := ⟨some 231, .load 31 (.tmp 11), _, _, _, _⟩) rfl (by kernel_rfl) (by kernel_rfl) (by kernel_rfl) (fun _ _ _ h => h) (yieldsIf_load_mid (by rfl) _ _ rfl _ _ rfl _ _ (fun _ h => h.1.range) Tryd.underlying31 rfl (stL_infR _ _)) hS ?_
      refine wpAnyH_take (i := 1) (oi := ⟨some 232, .load 32 (.tmp 12), _, _, _, _⟩) rfl (by kernel_rfl) (by kernel_rfl) (by kernel_rfl) (fun _ _ _ h => h) (yieldsIf_load_mid (by rfl) _ _ rfl _ _ rfl _ _ (fun _ h => h.2.range) Tryd.underlying32 rfl (by kernel_rfl)) hS ?_
      simp only [Act.put, List.setIfInBounds_toArray, List.set_cons_zero, List.set_cons_succ]
      refine wpAnyH_ready (rs := [2]) (by kernel_rfl) (by simp) ?_
      refine AllReadyH.cons (o := ⟨none, .store 31 (.tmp 4) (.tmp 231), _, _, _, _⟩) rfl (fun K hK => ?_) AllReadyH.nil
      rw [if_pos (by rfl)]
      refine so_store (.tmp 4) (.tmp 231) (w.heap.size + 1) (stL (fun _ => 0) 0) (stL (rNew r pc 18 a b imm) (nxt r pc 18 a b imm)) rfl rfl rfl Y8.out.drew (stL_len _ _ _ _) (stL_infR _ _) (stL_is _ _).one ?_
      have hS9 : Box (w8.drew.setCells (w.heap.size + 1) 0 (stL (rNew r pc 18 a b imm) (nxt r pc 18 a b imm))) w3.heap.size (stL (rNew r pc 18 a b imm) (nxt r pc 18 a b imm)) ∧ Box (w8.drew.setCells (w.heap.size + 1) 0 (stL (rNew r pc 18 a b imm) (nxt r pc 18 a b imm))) w4.heap.size [.int .i64 (eK 18), .int .i64 (eR 18 a), .int .u32 (eA r 18 b imm), .int .u32 (eV r 18 a imm)] := ⟨hS.1.apart (by omega) _, hS.2.apart (by omega) _⟩
      refine hK.out _ _ hS9 (fun _ => ?_)
      clear hK K hS
      have Y9 := Lib.hid (Y8.out.drew.stored (l' := (stL (rNew r pc 18 a b imm) (nxt r pc 18 a b imm))) (stL_len _ _ _ _))
      have Z9 := Lib.hid (Z8.out.drew.apart (b' := w.heap.size + 1) (by omega) (stL (rNew r pc 18 a b imm) (nxt r pc 18 a b imm)))
      have B9 := Lib.hid (below_setCells (b := w.heap.size + 1) (stL (rNew r pc 18 a b imm) (nxt r pc 18 a b imm)) 0 _ B8.out.drew (by omega))
      simp only [Act.put]
      generalize (w8.drew.setCells (w.heap.size + 1) 0 (stL (rNew r pc 18 a b imm) (nxt r pc 18 a b imm))) = w9 at *
      refine wpAnyH_ready (rs := [3]) (by kernel_rfl) (by simp) ?_
      refine AllReadyH.cons (o := ⟨none, .store 32 (.tmp 5) (.tmp 232), _, _, _, _⟩) rfl (fun K hK => ?_) AllReadyH.nil
      rw [if_pos (by rfl)]
      refine so_store (.tmp 5) (.tmp 232) (w.heap.size + 1 + 1) _ [.int .i64 (eK 18), .int .i64 (eR 18 a), .int .u32 (eA r 18 b imm), .int .u32 (eV r 18 a imm)] rfl rfl rfl Z9.out rfl (by kernel_rfl) (one4 _ _ _ _) ?_
      have hS10 : Box (w9.setCells (w.heap.size + 1 + 1) 0 [.int .i64 (eK 18), .int .i64 (eR 18 a), .int .u32 (eA r 18 b imm), .int .u32 (eV r 18 a imm)]) w3.heap.size (stL (rNew r pc 18 a b imm) (nxt r pc 18 a b imm)) ∧ Box (w9.setCells (w.heap.size + 1 + 1) 0 [.int .i64 (eK 18), .int .i64 (eR 18 a), .int .u32 (eA r 18 b imm), .int .u32 (eV r 18 a imm)]) w4.heap.size [.int .i64 (eK 18), .int .i64 (eR 18 a), .int .u32 (eA r 18 b imm), .int .u32 (eV r 18 a imm)] := ⟨hS9.1.apart (by omega) _, hS9.2.apart (by omega) _⟩
      refine hK.out _ _ hS10 (fun _ => ?_)
      clear hK K hS9
      have Y10 := Lib.hid (Y9.out.apart (b' := w.heap.size + 1 + 1) (by omega) [.int .i64 (eK 18), .int .i64 (eR 18 a), .int .u32 (eA r 18 b imm), .int .u32 (eV r 18 a imm)])
      have Z10 := Lib.hid (Z9.out.stored (l' := [.int .i64 (eK 18), .int .i64 (eR 18 a), .int .u32 (eA r 18 b imm), .int .u32 (eV r 18 a imm)]) rfl)
      have B10 := Lib.hid (below_setCells (b := w.heap.size + 1 + 1) [.int .i64 (eK 18), .int .i64 (eR 18 a), .int .u32 (eA r 18 b imm), .int .u32 (eV r 18 a imm)] 0 _ B9.out (by omega))
      simp only [Act.put]
      generalize (w9.setCells (w.heap.size + 1 + 1) 0 [.int .i64 (eK 18), .int .i64 (eR 18 a), .int .u32 (eA r 18 b imm), .int .u32 (eV r 18 a imm)]) = w10 at *
      refine wpAnyH_done (by kernel_rfl) ?_ _
      refine NoPanic.normal ?_
      go_wp2
      refine bodyPost_ret (res_two Tryd.results11 _ rfl rfl (run_load17 Tryd.underlying31 rfl (stL_infR _ _) Y10.out) (run_load17 Tryd.underlying32 rfl (by kernel_rfl) Z10.out)) rfl ⟨rfl, B10.out⟩
  · go_wp2_with fail
    have N8 := Lib.hid ((N6.out.put a (by rw [(stL_is _ _).size]; omega) (.int .u32 ((pc + 4) % 4294967296))).put 16 (by rw [List.length_set, (stL_is _ _).size]; decide) (.int .u32 ((pc + 4 * (sgn imm % 4294967296)) % 4294967296)))
    rw [show ((stL r ((pc + 4) % 4294967296)).set a (.int .u32 ((pc + 4) % 4294967296))).set 16 (.int .u32 ((pc + 4 * (sgn imm % 4294967296)) % 4294967296)) = (stL (rNew r pc 19 a b imm) (nxt r pc 19 a b imm)) from jal_eq (op := 19) ha rfl rfl (show ((pc + 4 * (sgn imm % 4294967296)) % 4294967296) = (pc + 4 * sw imm % 4294967296) % 4294967296 by unfold sw; omega)] at N8
    have E8 := Lib.hid (show Box ((w6.setCell ⟨w3.heap.size, a, none⟩ (.int .u32 ((pc + 4) % 4294967296))).setCell ⟨w3.heap.size, 16, none⟩ (.int .u32 ((pc + 4 * (sgn imm % 4294967296)) % 4294967296))) w4.heap.size [.int .i64 (eK 19), .int .i64 (eR 19 a), .int .u32 (eA r 19 b imm), .int .u32 (eV r 19 a imm)] from (E6H.out.putApart (by have := l3.out; omega) a (.int .u32 ((pc + 4) % 4294967296))).putApart (by have := l3.out; omega) 16 (.int .u32 ((pc + 4 * (sgn imm % 4294967296)) % 4294967296)))
    have Y8 := Lib.hid ((Y6.out.putApart (b' := w3.heap.size) (by have := LZ.out; omega) a (.int .u32 ((pc + 4) % 4294967296))).putApart (b' := w3.heap.size) (by have := LZ.out; omega) 16 (.int .u32 ((pc + 4 * (sgn imm % 4294967296)) % 4294967296)))
    have Z8 := Lib.hid ((Z6.out.putApart (b' := w3.heap.size) (by have := LZ.out; omega) a (.int .u32 ((pc + 4) % 4294967296))).putApart (b' := w3.heap.size) (by have := LZ.out; omega) 16 (.int .u32 ((pc + 4 * (sgn imm % 4294967296)) % 4294967296)))
    have B8 := Lib.hid ((B6.out.setCell (p := ⟨w3.heap.size, a, none⟩) (by show w.heap.size ≤ w3.heap.size; have := LZ.out; omega) (.int .u32 ((pc + 4) % 4294967296))).setCell (p := ⟨w3.heap.size, 16, none⟩) (by show w.heap.size ≤ w3.heap.size; have := LZ.out; omega) (.int .u32 ((pc + 4 * (sgn imm % 4294967296)) % 4294967296)))
    clear N6 X6 I6 E6H Y6 Z6 B6
    generalize ((w6.setCell ⟨w3.heap.size, a, none⟩ (.int .u32 ((pc + 4) % 4294967296))).setCell ⟨w3.heap.size, 16, none⟩ (.int .u32 ((pc + 4 * (sgn imm % 4294967296)) % 4294967296))) = w8 at *
    have hS : Box w8.drew w3.heap.size (stL (rNew r pc 19 a b imm) (nxt r pc 19 a b imm)) ∧ Box w8.drew w4.heap.size [.int .i64 (eK 19), .int .i64 (eR 19 a), .int .u32 (eA r 19 b imm), .int .u32 (eV r 19 a imm)] := ⟨N8.out.drew, E8.out.drew⟩
    have lz := LZ.out
    have lt3 := l3.out
    clear i0 i1 i3 x16 na fa n16 f16
    refine wp_region_noPanic ?_
    refine wp_region_held_drew (S := fun w' => Box w' w3.heap.size (stL (rNew r pc 19 a b imm) (nxt r pc 19 a b imm)) ∧ Box w' w4.heap.size [.int .i64 (eK 19), .int .i64 (eR 19 a), .int .u32 (eA r 19 b imm), .int .u32 (eV r 19 a imm)]) (by kernel_rfl) hS (fun _ => ?_)
    refine wpAnyH_take (i := 0) (oi := ⟨some 231, .load 31 (.tmp 11), _, _, _, _⟩) rfl (by kernel_rfl) (by kernel_rfl) (by kernel_rfl) (fun _ _ _ h => h) (yieldsIf_load_mid (by rfl) _ _ rfl _ _ rfl _ _ (fun _ h => h.1.range) Tryd.underlying31 rfl (stL_infR _ _)) hS ?_
    refine wpAnyH_take (i := 1) (oi := ⟨some 232, .load 32 (.tmp 12), _, _, _, _⟩) rfl (by kernel_rfl) (by kernel_rfl) (by kernel_rfl) (fun _ _ _ h => h) (yieldsIf_load_mid (by rfl) _ _ rfl _ _ rfl _ _ (fun _ h => h.2.range) Tryd.underlying32 rfl (by kernel_rfl)) hS ?_
    simp only [Act.put, List.setIfInBounds_toArray, List.set_cons_zero, List.set_cons_succ]
    refine wpAnyH_ready (rs := [2]) (by kernel_rfl) (by simp) ?_
    refine AllReadyH.cons (o := ⟨none, .store 31 (.tmp 4) (.tmp 231), _, _, _, _⟩) rfl (fun K hK => ?_) AllReadyH.nil
    rw [if_pos (by rfl)]
    refine so_store (.tmp 4) (.tmp 231) (w.heap.size + 1) (stL (fun _ => 0) 0) (stL (rNew r pc 19 a b imm) (nxt r pc 19 a b imm)) rfl rfl rfl Y8.out.drew (stL_len _ _ _ _) (stL_infR _ _) (stL_is _ _).one ?_
    have hS9 : Box (w8.drew.setCells (w.heap.size + 1) 0 (stL (rNew r pc 19 a b imm) (nxt r pc 19 a b imm))) w3.heap.size (stL (rNew r pc 19 a b imm) (nxt r pc 19 a b imm)) ∧ Box (w8.drew.setCells (w.heap.size + 1) 0 (stL (rNew r pc 19 a b imm) (nxt r pc 19 a b imm))) w4.heap.size [.int .i64 (eK 19), .int .i64 (eR 19 a), .int .u32 (eA r 19 b imm), .int .u32 (eV r 19 a imm)] := ⟨hS.1.apart (by omega) _, hS.2.apart (by omega) _⟩
    refine hK.out _ _ hS9 (fun _ => ?_)
    clear hK K hS
    have Y9 := Lib.hid (Y8.out.drew.stored (l' := (stL (rNew r pc 19 a b imm) (nxt r pc 19 a b imm))) (stL_len _ _ _ _))
    have Z9 := Lib.hid (Z8.out.drew.apart (b' := w.heap.size + 1) (by omega) (stL (rNew r pc 19 a b imm) (nxt r pc 19 a b imm)))
    have B9 := Lib.hid (below_setCells (b := w.heap.size + 1) (stL (rNew r pc 19 a b imm) (nxt r pc 19 a b imm)) 0 _ B8.out.drew (by omega))
    simp only [Act.put]
    generalize (w8.drew.setCells (w.heap.size + 1) 0 (stL (rNew r pc 19 a b imm) (nxt r pc 19 a b imm))) = w9 at *
    refine wpAnyH_ready (rs := [3]) (by kernel_rfl) (by simp) ?_
    refine AllReadyH.cons (o := ⟨none, .store 32 (.tmp 5) (.tmp 232), _, _, _, _⟩) rfl (fun K hK => ?_) AllReadyH.nil
    rw [if_pos (by rfl)]
    refine so_store (.tmp 5) (.tmp 232) (w.heap.size + 1 + 1) _ [.int .i64 (eK 19), .int .i64 (eR 19 a), .int .u32 (eA r 19 b imm), .int .u32 (eV r 19 a imm)] rfl rfl rfl Z9.out rfl (by kernel_rfl) (one4 _ _ _ _) ?_
    have hS10 : Box (w9.setCells (w.heap.size + 1 + 1) 0 [.int .i64 (eK 19), .int .i64 (eR 19 a), .int .u32 (eA r 19 b imm), .int .u32 (eV r 19 a imm)]) w3.heap.size (stL (rNew r pc 19 a b imm) (nxt r pc 19 a b imm)) ∧ Box (w9.setCells (w.heap.size + 1 + 1) 0 [.int .i64 (eK 19), .int .i64 (eR 19 a), .int .u32 (eA r 19 b imm), .int .u32 (eV r 19 a imm)]) w4.heap.size [.int .i64 (eK 19), .int .i64 (eR 19 a), .int .u32 (eA r 19 b imm), .int .u32 (eV r 19 a imm)] := ⟨hS9.1.apart (by omega) _, hS9.2.apart (by omega) _⟩
    refine hK.out _ _ hS10 (fun _ => ?_)
    clear hK K hS9
    have Y10 := Lib.hid (Y9.out.apart (b' := w.heap.size + 1 + 1) (by omega) [.int .i64 (eK 19), .int .i64 (eR 19 a), .int .u32 (eA r 19 b imm), .int .u32 (eV r 19 a imm)])
    have Z10 := Lib.hid (Z9.out.stored (l' := [.int .i64 (eK 19), .int .i64 (eR 19 a), .int .u32 (eA r 19 b imm), .int .u32 (eV r 19 a imm)]) rfl)
    have B10 := Lib.hid (below_setCells (b := w.heap.size + 1 + 1) [.int .i64 (eK 19), .int .i64 (eR 19 a), .int .u32 (eA r 19 b imm), .int .u32 (eV r 19 a imm)] 0 _ B9.out (by omega))
    simp only [Act.put]
    generalize (w9.setCells (w.heap.size + 1 + 1) 0 [.int .i64 (eK 19), .int .i64 (eR 19 a), .int .u32 (eA r 19 b imm), .int .u32 (eV r 19 a imm)]) = w10 at *
    refine wpAnyH_done (by kernel_rfl) ?_ _
    refine NoPanic.normal ?_
    go_wp2
    refine bodyPost_ret (res_two Tryd.results11 _ rfl rfl (run_load17 Tryd.underlying31 rfl (stL_infR _ _) Y10.out) (run_load17 Tryd.underlying32 rfl (by kernel_rfl) Z10.out)) rfl ⟨rfl, B10.out⟩
  · go_wp2_with fail
    have N8 := Lib.hid (N6.out.put 16 (by rw [(stL_is _ _).size]; decide) (.int .u32 (r a)))
    rw [show (stL r ((pc + 4) % 4294967296)).set 16 (.int .u32 (r a)) = (stL (rNew r pc 20 a b imm) (nxt r pc 20 a b imm)) from pc_eq (op := 20) rfl (rfl)] at N8
    have E8 := Lib.hid (show Box (w6.setCell ⟨w3.heap.size, 16, none⟩ (.int .u32 (r a))) w4.heap.size [.int .i64 (eK 20), .int .i64 (eR 20 a), .int .u32 (eA r 20 b imm), .int .u32 (eV r 20 a imm)] from E6H.out.putApart (by have := l3.out; omega) 16 (.int .u32 (r a)))
    have Y8 := Lib.hid (Y6.out.putApart (b' := w3.heap.size) (by have := LZ.out; omega) 16 (.int .u32 (r a)))
    have Z8 := Lib.hid (Z6.out.putApart (b' := w3.heap.size) (by have := LZ.out; omega) 16 (.int .u32 (r a)))
    have B8 := Lib.hid (B6.out.setCell (p := ⟨w3.heap.size, 16, none⟩) (by show w.heap.size ≤ w3.heap.size; have := LZ.out; omega) (.int .u32 (r a)))
    clear N6 X6 I6 E6H Y6 Z6 B6
    generalize (w6.setCell ⟨w3.heap.size, 16, none⟩ (.int .u32 (r a))) = w8 at *
    have hS : Box w8.drew w3.heap.size (stL (rNew r pc 20 a b imm) (nxt r pc 20 a b imm)) ∧ Box w8.drew w4.heap.size [.int .i64 (eK 20), .int .i64 (eR 20 a), .int .u32 (eA r 20 b imm), .int .u32 (eV r 20 a imm)] := ⟨N8.out.drew, E8.out.drew⟩
    have lz := LZ.out
    have lt3 := l3.out
    clear i0 i1 i3 x16 na fa n16 f16
    refine wp_region_noPanic ?_
    refine wp_region_held_drew (S := fun w' => Box w' w3.heap.size (stL (rNew r pc 20 a b imm) (nxt r pc 20 a b imm)) ∧ Box w' w4.heap.size [.int .i64 (eK 20), .int .i64 (eR 20 a), .int .u32 (eA r 20 b imm), .int .u32 (eV r 20 a imm)]) (by kernel_rfl) hS (fun _ => ?_)
    refine wpAnyH_take (i := 0) (oi := ⟨some 231, .load 31 (.tmp 11), _, _, _, _⟩) rfl (by kernel_rfl) (by kernel_rfl) (by kernel_rfl) (fun _ _ _ h => h) (yieldsIf_load_mid (by rfl) _ _ rfl _ _ rfl _ _ (fun _ h => h.1.range) Tryd.underlying31 rfl (stL_infR _ _)) hS ?_
    refine wpAnyH_take (i := 1) (oi := ⟨some 232, .load 32 (.tmp 12), _, _, _, _⟩) rfl (by kernel_rfl) (by kernel_rfl) (by kernel_rfl) (fun _ _ _ h => h) (yieldsIf_load_mid (by rfl) _ _ rfl _ _ rfl _ _ (fun _ h => h.2.range) Tryd.underlying32 rfl (by kernel_rfl)) hS ?_
    simp only [Act.put, List.setIfInBounds_toArray, List.set_cons_zero, List.set_cons_succ]
    refine wpAnyH_ready (rs := [2]) (by kernel_rfl) (by simp) ?_
    refine AllReadyH.cons (o := ⟨none, .store 31 (.tmp 4) (.tmp 231), _, _, _, _⟩) rfl (fun K hK => ?_) AllReadyH.nil
    rw [if_pos (by rfl)]
    refine so_store (.tmp 4) (.tmp 231) (w.heap.size + 1) (stL (fun _ => 0) 0) (stL (rNew r pc 20 a b imm) (nxt r pc 20 a b imm)) rfl rfl rfl Y8.out.drew (stL_len _ _ _ _) (stL_infR _ _) (stL_is _ _).one ?_
    have hS9 : Box (w8.drew.setCells (w.heap.size + 1) 0 (stL (rNew r pc 20 a b imm) (nxt r pc 20 a b imm))) w3.heap.size (stL (rNew r pc 20 a b imm) (nxt r pc 20 a b imm)) ∧ Box (w8.drew.setCells (w.heap.size + 1) 0 (stL (rNew r pc 20 a b imm) (nxt r pc 20 a b imm))) w4.heap.size [.int .i64 (eK 20), .int .i64 (eR 20 a), .int .u32 (eA r 20 b imm), .int .u32 (eV r 20 a imm)] := ⟨hS.1.apart (by omega) _, hS.2.apart (by omega) _⟩
    refine hK.out _ _ hS9 (fun _ => ?_)
    clear hK K hS
    have Y9 := Lib.hid (Y8.out.drew.stored (l' := (stL (rNew r pc 20 a b imm) (nxt r pc 20 a b imm))) (stL_len _ _ _ _))
    have Z9 := Lib.hid (Z8.out.drew.apart (b' := w.heap.size + 1) (by omega) (stL (rNew r pc 20 a b imm) (nxt r pc 20 a b imm)))
    have B9 := Lib.hid (below_setCells (b := w.heap.size + 1) (stL (rNew r pc 20 a b imm) (nxt r pc 20 a b imm)) 0 _ B8.out.drew (by omega))
    simp only [Act.put]
    generalize (w8.drew.setCells (w.heap.size + 1) 0 (stL (rNew r pc 20 a b imm) (nxt r pc 20 a b imm))) = w9 at *
    refine wpAnyH_ready (rs := [3]) (by kernel_rfl) (by simp) ?_
    refine AllReadyH.cons (o := ⟨none, .store 32 (.tmp 5) (.tmp 232), _, _, _, _⟩) rfl (fun K hK => ?_) AllReadyH.nil
    rw [if_pos (by rfl)]
    refine so_store (.tmp 5) (.tmp 232) (w.heap.size + 1 + 1) _ [.int .i64 (eK 20), .int .i64 (eR 20 a), .int .u32 (eA r 20 b imm), .int .u32 (eV r 20 a imm)] rfl rfl rfl Z9.out rfl (by kernel_rfl) (one4 _ _ _ _) ?_
    have hS10 : Box (w9.setCells (w.heap.size + 1 + 1) 0 [.int .i64 (eK 20), .int .i64 (eR 20 a), .int .u32 (eA r 20 b imm), .int .u32 (eV r 20 a imm)]) w3.heap.size (stL (rNew r pc 20 a b imm) (nxt r pc 20 a b imm)) ∧ Box (w9.setCells (w.heap.size + 1 + 1) 0 [.int .i64 (eK 20), .int .i64 (eR 20 a), .int .u32 (eA r 20 b imm), .int .u32 (eV r 20 a imm)]) w4.heap.size [.int .i64 (eK 20), .int .i64 (eR 20 a), .int .u32 (eA r 20 b imm), .int .u32 (eV r 20 a imm)] := ⟨hS9.1.apart (by omega) _, hS9.2.apart (by omega) _⟩
    refine hK.out _ _ hS10 (fun _ => ?_)
    clear hK K hS9
    have Y10 := Lib.hid (Y9.out.apart (b' := w.heap.size + 1 + 1) (by omega) [.int .i64 (eK 20), .int .i64 (eR 20 a), .int .u32 (eA r 20 b imm), .int .u32 (eV r 20 a imm)])
    have Z10 := Lib.hid (Z9.out.stored (l' := [.int .i64 (eK 20), .int .i64 (eR 20 a), .int .u32 (eA r 20 b imm), .int .u32 (eV r 20 a imm)]) rfl)
    have B10 := Lib.hid (below_setCells (b := w.heap.size + 1 + 1) [.int .i64 (eK 20), .int .i64 (eR 20 a), .int .u32 (eA r 20 b imm), .int .u32 (eV r 20 a imm)] 0 _ B9.out (by omega))
    simp only [Act.put]
    generalize (w9.setCells (w.heap.size + 1 + 1) 0 [.int .i64 (eK 20), .int .i64 (eR 20 a), .int .u32 (eA r 20 b imm), .int .u32 (eV r 20 a imm)]) = w10 at *
    refine wpAnyH_done (by kernel_rfl) ?_ _
    refine NoPanic.normal ?_
    go_wp2
    refine bodyPost_ret (res_two Tryd.results11 _ rfl rfl (run_load17 Tryd.underlying31 rfl (stL_infR _ _) Y10.out) (run_load17 Tryd.underlying32 rfl (by kernel_rfl) Z10.out)) rfl ⟨rfl, B10.out⟩
end Alu
end Go.Proofs.YtlfhcnpbgbnadaaDoor
