/-
  AluCalls: for every state and number, a jump by jal and back by jr comes to the instruction behind it. The condition is the card's: the package-level tables lie as the program's text lays them.
-/
import Derived.Test.YtlfhcnpbgbnadaaDoorAluAlive
import Derived.Test.YtlfhcnpbgbnadaaDoorAluEq
import Derived.Test.YtlfhcnpbgbnadaaDoorAluOpen
import Derived.Test.YtlfhcnpbgbnadaaDoorTie
import Derived.ChangeOld
import Derived.ChangeMaps5
namespace Go.Proofs.YtlfhcnpbgbnadaaDoor.aluCalls
open Go.ChangeShapes Go.WideShapes Go.ChangeAt Go.RowKit Isa Alu

/-- The registers behind a call, and its place. -/
def rC (r : Nat → Int) (pc : Int) : Nat → Int := fun j => if j = 14 then (pc + 4) % 4294967296 else r j
def pJ (pc : Int) (n : Nat) : Int := (pc + 4 * n) % 4294967296
theorem right_jal (n : Nat) (h : n ≤ 30000) : right 19 14 0 n = true := by
  rw [right_iff]
  refine ⟨by decide, by decide, by decide, by omega, ?_⟩
  rw [show mimm (opI (19 : Int).toNat) = 65535 from rfl]; omega
theorem right_jr : right 20 14 0 0 = true := by decide
theorem jal_nums (n : Nat) (h : n ≤ 30000) : isI (enc 19 14 0 n) = true ∧ oN (enc 19 14 0 n) = 19 ∧ aN (enc 19 14 0 n) = 14 ∧ bN (enc 19 14 0 n) = 0 ∧ iN (enc 19 14 0 n) = n := by
  obtain ⟨e1, e2, e3, e4⟩ := d_enc (right_jal n h)
  unfold isI oN aN bN iN
  rw [e1, e2, e3, e4]
  exact ⟨right_jal n h, rfl, rfl, rfl, by simp⟩
theorem step_jal (r : Nat → Int) (pc : Int) (n : Nat) (w : World) (hE : Env w) (hR : R32 r) (hn : n ≤ 30000) :
    Calls Tryd.prog 10 #[.agg (stL r pc).toArray, .int .u32 (enc 19 14 0 n)] w fun e w' => e = .returned (.tuple #[.agg (stL (rC r pc) (pJ pc n)).toArray, .agg #[.int .i64 0, .int .i64 0, .int .u32 0, .int .u32 0]]) ∧ Below w.heap.size w w' := by
  obtain ⟨h1, h2, h3, h4, h5⟩ := jal_nums n hn
  have hw : W32 (enc 19 14 0 n) := by unfold W32 enc; omega
  refine (step_any _ r pc _ w hE.1 (stL_is _ _) hR hw).mono ?_
  rintro e w' ⟨rfl, hb⟩
  refine ⟨?_, hb⟩
  have eR : sR r pc (enc 19 14 0 n) = rC r pc := by
    unfold sR
    rw [if_pos h1, h2, h3, h4, h5]
    funext j
    unfold rNew rC
    rw [show puts 19 = true from rfl]
    by_cases e : j = 14
    · rw [if_pos ⟨rfl, e⟩, if_pos e]; rfl
    · rw [if_neg (fun x => e x.2), if_neg e]
  have eP : sP r pc (enc 19 14 0 n) = pJ pc n := by
    unfold sP
    rw [if_pos h1, h2, h3, h4, h5]
    show (pc + 4 * sw n % 4294967296) % 4294967296 = pJ pc n
    unfold sw sgn pJ
    rw [if_neg (by omega)]
    omega
  unfold stepV sK sG sA sV
  rw [if_pos h1, if_pos h1, if_pos h1, if_pos h1, h2, eR, eP]
  rfl
theorem jr_nums : isI (enc 20 14 0 0) = true ∧ oN (enc 20 14 0 0) = 20 ∧ aN (enc 20 14 0 0) = 14 ∧ bN (enc 20 14 0 0) = 0 ∧ iN (enc 20 14 0 0) = 0 := by decide
theorem step_jr (r : Nat → Int) (pc p : Int) (w : World) (hE : Env w) (hR : R32 (rC r pc)) :
    Calls Tryd.prog 10 #[.agg (stL (rC r pc) p).toArray, .int .u32 (enc 20 14 0 0)] w fun e w' => e = .returned (.tuple #[.agg (stL (rC r pc) ((pc + 4) % 4294967296)).toArray, .agg #[.int .i64 0, .int .i64 0, .int .u32 0, .int .u32 0]]) ∧ Below w.heap.size w w' := by
  obtain ⟨h1, h2, h3, h4, h5⟩ := jr_nums
  refine (step_any _ (rC r pc) p _ w hE.1 (stL_is _ _) hR ⟨by decide, by decide⟩).mono ?_
  rintro e w' ⟨rfl, hb⟩
  refine ⟨?_, hb⟩
  have eR : sR (rC r pc) p (enc 20 14 0 0) = rC r pc := by
    unfold sR
    rw [if_pos h1, h2, h3, h4, h5]
    funext j
    unfold rNew
    rw [show puts 20 = false from rfl, if_neg (by simp)]
  have eP : sP (rC r pc) p (enc 20 14 0 0) = (pc + 4) % 4294967296 := by
    unfold sP
    rw [if_pos h1, h2, h3, h4, h5]
    rfl
  unfold stepV sK sG sA sV
  rw [if_pos h1, if_pos h1, if_pos h1, if_pos h1, h2, eR, eP]
  rfl
theorem rC_w (r : Nat → Int) (pc : Int) (hR : R32 r) : R32 (rC r pc) := fun j hj => by
  unfold rC
  split
  · unfold W32; omega
  · exact hR j hj
theorem walk_out (r : Nat → Int) (pc x : Int) (w : World) (hE : Env w) (h : x < 1 ∨ 30000 < x) :
    Calls Tryd.prog 8 #[.agg (stL r pc).toArray, .int .i64 x] w fun e w' => e = .returned (.bool true) ∧ Below w.heap.size w w' := by
  have HE := Lib.hid hE
  clear hE
  have B0 := Lib.hid (((Below.refl _ _).alloc (Nat.le_refl _) _) : Below w.heap.size w (w.alloc (.cells (stL r pc).toArray 25)))
  by_cases h1 : x < 1
  · have d : decide (x < 1) = true := by simpa using h1
    go_enter Tryd.func8, Tryd.ntmps8
    go_wp2_with fail
    refine (alive_any _ (HE.out.box _)).mono ?_
    rintro e w1 ⟨rfl, hb⟩
    go_wp2
    go_ret
    exact ⟨rfl, B0.out.trans (hb.mono B0.out.size)⟩
  · have d : decide (x < 1) = false := by simpa using h1
    have h2 : 30000 < x := by omega
    have d2 : decide (30000 < x) = true := by simpa using h2
    clear h
    go_enter Tryd.func8, Tryd.ntmps8
    go_wp2_with fail
    refine (alive_any _ (HE.out.box _)).mono ?_
    rintro e w1 ⟨rfl, hb⟩
    go_wp2
    go_ret
    exact ⟨rfl, B0.out.trans (hb.mono B0.out.size)⟩
theorem want_eq (r : Nat → Int) (pc : Int) : ((stL r pc).set 14 (.int .u32 ((pc + 4) % 4294967296))).set 16 (.int .u32 ((pc + 4) % 4294967296)) = (stL (rC r pc) ((pc + 4) % 4294967296)) := by
  refine IsSt.eq (((stL_is r pc).setReg 14 (by decide) ((pc + 4) % 4294967296)).setPc ((pc + 4) % 4294967296))
set_option maxHeartbeats 4000000 in
theorem walk_in (r : Nat → Int) (pc : Int) (n : Nat) (w : World) (hE : Env w) (hR : R32 r) (h1 : 1 ≤ n) (h2 : n ≤ 30000) :
    Calls Tryd.prog 8 #[.agg (stL r pc).toArray, .int .i64 n] w fun e w' => e = .returned (.bool true) ∧ Below w.heap.size w w' := by
  have HE := Lib.hid hE
  have HR := Lib.hid hR
  clear hE hR
  have d : decide ((n : Int) < 1) = false := by simp; omega
  have d2 : decide (30000 < (n : Int)) = false := by simp; omega
  have B0 := Lib.hid (((Below.refl _ _).alloc (Nat.le_refl _) _) : Below w.heap.size w (w.alloc (.cells (stL r pc).toArray 25)))
  go_enter Tryd.func8, Tryd.ntmps8
  go_wp2_with fail
  refine (alive_any _ (HE.out.box _)).mono ?_
  rintro e w1 ⟨rfl, hb⟩
  have X1 := Lib.hid ((Box.new w (stL r pc) 25).kept hb)
  have B1 := Lib.hid (B0.out.trans (hb.mono B0.out.size))
  clear hb
  go_wp2_with fail
  refine (encode_yes 19 14 0 n _ (HE.out.kept B1.out).1 (right_jal n h2)).mono ?_
  rintro e w2 ⟨rfl, hb⟩
  have X2 := Lib.hid (X1.out.kept hb)
  have B2 := Lib.hid (B1.out.trans (hb.mono B1.out.size))
  clear hb X1 B1
  go_wp2_with fail
  refine (encode_yes 20 14 0 0 _ (HE.out.kept B2.out).1 right_jr).mono ?_
  rintro e w3 ⟨rfl, hb⟩
  have X3 := Lib.hid (X2.out.kept hb)
  have B3 := Lib.hid (B2.out.trans (hb.mono B2.out.size))
  clear hb X2 B2
  go_wp2_with (first | (with_reducible (show wpList _ _ _ (⟨_, .load _ (.tmp 2), _, _, _, _⟩ :: _) _ _); refine wl_load (.tmp 2) _ _ rfl rfl rfl X3.out (stL_is _ _).size ?_))
  refine (step_jal r pc n w3 (HE.out.kept B3.out) HR.out h2).mono ?_
  rintro e w4 ⟨rfl, hb⟩
  have X4 := Lib.hid (X3.out.kept hb)
  have B4 := Lib.hid (B3.out.trans (hb.mono B3.out.size))
  have S4 := Lib.hid (two_boxes w4 (stL (rC r pc) (pJ pc n)) (stL_is _ _).size (.int .i64 0) (.int .i64 0) (.int .u32 0) (.int .u32 0))
  clear hb X3 B3
  have X5 := Lib.hid (X4.out.kept S4.out.2.2.2.2)
  have B5 := Lib.hid (B4.out.trans (S4.out.2.2.2.2.mono B4.out.size))
  have T5 := Lib.hid S4.out.2.2.1
  have E5 := Lib.hid S4.out.2.2.2.1
  go_wp2_with (first | (with_reducible (show wpList _ _ _ (⟨_, .store _ (.tmp 9) (.tmp 37), _, _, _, _⟩ :: _) _ _); refine wl_store (.tmp 9) (.tmp 37) _ _ (stL (rC r pc) (pJ pc n)) rfl rfl rfl rfl S4.out.1 (stL_is _ _).size (stL_is _ _).size (stL_is _ _).one ?_) | (with_reducible (show wpList _ _ _ (⟨_, .store _ (.tmp 10) (.tmp 38), _, _, _, _⟩ :: _) _ _); refine wl_storeE (.tmp 10) (.tmp 38) _ _ _ _ _ _ _ _ _ rfl rfl rfl rfl S4.out.2.1 (one4 _ _ _ _) ?_) | (with_reducible (show wpList _ _ _ (⟨_, .load _ (.tmp 9), _, _, _, _⟩ :: _) _ _); refine wl_load (.tmp 9) _ _ rfl rfl rfl T5.out (stL_is _ _).size ?_))
  clear S4 X4 B4
  generalize (((w4.alloc (.cells #[.int .u32 0, .int .u32 0, .int .u32 0, .int .u32 0, .int .u32 0, .int .u32 0, .int .u32 0, .int .u32 0, .int .u32 0, .int .u32 0, .int .u32 0, .int .u32 0, .int .u32 0, .int .u32 0, .int .u32 0, .int .u32 0, .int .u32 0] 25) |>.alloc (.cells #[.int .i64 0, .int .i64 0, .int .u32 0, .int .u32 0] 28)).setCells w4.heap.size 0 (stL (rC r pc) (pJ pc n))).setCells (w4.heap.size + 1) 0 [.int .i64 0, .int .i64 0, .int .u32 0, .int .u32 0]) = w5 at *
  refine (step_jr r pc _ w5 (HE.out.kept B5.out) (rC_w r pc HR.out)).mono ?_
  rintro e w6 ⟨rfl, hb⟩
  have X6 := Lib.hid (X5.out.kept hb)
  have T6 := Lib.hid (T5.out.kept hb)
  have E6 := Lib.hid (E5.out.kept hb)
  have B6 := Lib.hid (B5.out.trans (hb.mono B5.out.size))
  clear hb X5 B5 T5 E5
  have S6 := Lib.hid (two_boxes w6 (stL (rC r pc) ((pc + 4) % 4294967296)) (stL_is _ _).size (.int .i64 0) (.int .i64 0) (.int .u32 0) (.int .u32 0))
  have X7 := Lib.hid (X6.out.kept S6.out.2.2.2.2)
  have T7 := Lib.hid (T6.out.kept S6.out.2.2.2.2)
  have E7 := Lib.hid (E6.out.kept S6.out.2.2.2.2)
  have B7 := Lib.hid (B6.out.trans (S6.out.2.2.2.2.mono B6.out.size))
  have U7 := Lib.hid S6.out.2.2.1
  have F7 := Lib.hid S6.out.2.2.2.1
  have hq := eqSt (rC r pc) ((pc + 4) % 4294967296)
  have hx4 : (n : Int) % 4294967296 = n := by omega
  clear X6 T6 E6 B6
  simp only []
  go_wp2_with (first | (with_reducible (show wpList _ _ _ (⟨_, .store _ (.tmp 11) (.tmp 43), _, _, _, _⟩ :: _) _ _); refine wl_store (.tmp 11) (.tmp 43) _ _ (stL (rC r pc) ((pc + 4) % 4294967296)) rfl rfl rfl rfl S6.out.1 (stL_is _ _).size (stL_is _ _).size (stL_is _ _).one ?_) | (with_reducible (show wpList _ _ _ (⟨_, .store _ (.tmp 12) (.tmp 44), _, _, _, _⟩ :: _) _ _); refine wl_storeE (.tmp 12) (.tmp 44) _ _ _ _ _ _ _ _ _ rfl rfl rfl rfl S6.out.2.1 (one4 _ _ _ _) ?_) | (with_reducible (show wpList _ _ _ (⟨_, .load _ (.tmp 2), _, _, _, _⟩ :: _) _ _); clear S6; generalize (((w6.alloc (.cells #[.int .u32 0, .int .u32 0, .int .u32 0, .int .u32 0, .int .u32 0, .int .u32 0, .int .u32 0, .int .u32 0, .int .u32 0, .int .u32 0, .int .u32 0, .int .u32 0, .int .u32 0, .int .u32 0, .int .u32 0, .int .u32 0, .int .u32 0] 25) |>.alloc (.cells #[.int .i64 0, .int .i64 0, .int .u32 0, .int .u32 0] 28)).setCells w6.heap.size 0 (stL (rC r pc) ((pc + 4) % 4294967296))).setCells (w6.heap.size + 1) 0 [.int .i64 0, .int .i64 0, .int .u32 0, .int .u32 0]) = w7 at *; refine wl_load (.tmp 2) _ _ rfl rfl rfl X7.out (stL_is _ _).size ?_) | (with_reducible (show wpList _ _ _ (⟨_, .store _ (.tmp 13) (.tmp 45), _, _, _, _⟩ :: _) _ _); refine wl_store (.tmp 13) (.tmp 45) _ _ (stL r pc) rfl rfl rfl rfl (zeroBox w7) (stL_is _ _).size (stL_is _ _).size (stL_is _ _).one ?_) | (with_reducible (show wpList _ _ _ (⟨some 46, _, _, _, _, _⟩ :: _) _ _); have N8 := Lib.hid ((zeroBox w7).stored (l' := stL r pc) (stL_len _ _ _ _)); have X8 := Lib.hid ((X7.out.box (.cells #[.int .u32 0, .int .u32 0, .int .u32 0, .int .u32 0, .int .u32 0, .int .u32 0, .int .u32 0, .int .u32 0, .int .u32 0, .int .u32 0, .int .u32 0, .int .u32 0, .int .u32 0, .int .u32 0, .int .u32 0, .int .u32 0, .int .u32 0] 25)).apart (Nat.ne_of_lt X7.out.lt) (stL r pc)); have T8 := Lib.hid ((T7.out.box (.cells #[.int .u32 0, .int .u32 0, .int .u32 0, .int .u32 0, .int .u32 0, .int .u32 0, .int .u32 0, .int .u32 0, .int .u32 0, .int .u32 0, .int .u32 0, .int .u32 0, .int .u32 0, .int .u32 0, .int .u32 0, .int .u32 0, .int .u32 0] 25)).apart (Nat.ne_of_lt T7.out.lt) (stL r pc)); have E8 := Lib.hid ((E7.out.box (.cells #[.int .u32 0, .int .u32 0, .int .u32 0, .int .u32 0, .int .u32 0, .int .u32 0, .int .u32 0, .int .u32 0, .int .u32 0, .int .u32 0, .int .u32 0, .int .u32 0, .int .u32 0, .int .u32 0, .int .u32 0, .int .u32 0, .int .u32 0] 25)).apart (Nat.ne_of_lt E7.out.lt) (stL r pc)); have U8 := Lib.hid ((U7.out.box (.cells #[.int .u32 0, .int .u32 0, .int .u32 0, .int .u32 0, .int .u32 0, .int .u32 0, .int .u32 0, .int .u32 0, .int .u32 0, .int .u32 0, .int .u32 0, .int .u32 0, .int .u32 0, .int .u32 0, .int .u32 0, .int .u32 0, .int .u32 0] 25)).apart (Nat.ne_of_lt U7.out.lt) (stL r pc)); have F8 := Lib.hid ((F7.out.box (.cells #[.int .u32 0, .int .u32 0, .int .u32 0, .int .u32 0, .int .u32 0, .int .u32 0, .int .u32 0, .int .u32 0, .int .u32 0, .int .u32 0, .int .u32 0, .int .u32 0, .int .u32 0, .int .u32 0, .int .u32 0, .int .u32 0, .int .u32 0] 25)).apart (Nat.ne_of_lt F7.out.lt) (stL r pc)); have B8 := Lib.hid (below_setCells (b := w7.heap.size) (stL r pc) 0 _ (B7.out.alloc B7.out.size (.cells #[.int .u32 0, .int .u32 0, .int .u32 0, .int .u32 0, .int .u32 0, .int .u32 0, .int .u32 0, .int .u32 0, .int .u32 0, .int .u32 0, .int .u32 0, .int .u32 0, .int .u32 0, .int .u32 0, .int .u32 0, .int .u32 0, .int .u32 0] 25)) B7.out.size); generalize ((w7.alloc (.cells #[.int .u32 0, .int .u32 0, .int .u32 0, .int .u32 0, .int .u32 0, .int .u32 0, .int .u32 0, .int .u32 0, .int .u32 0, .int .u32 0, .int .u32 0, .int .u32 0, .int .u32 0, .int .u32 0, .int .u32 0, .int .u32 0, .int .u32 0] 25)).setCells w7.heap.size 0 (stL r pc)) = w8 at *; have x16 := X8.out.at 16 (stL_is _ _).pc; have n14 := N8.out.at 14 ((stL_is _ _).reg 14 (by decide)); have f14 := N8.out.fz 14 (by rw [(stL_is _ _).size]; decide); have n16 := N8.out.at 16 (stL_is _ _).pc; have f16 := N8.out.fz 16 (by rw [(stL_is _ _).size]; decide); go_step) | (with_reducible (show wpList _ _ _ (⟨some 60, _, _, _, _, _⟩ :: _) _ _); have N10 := Lib.hid ((N8.out.put 14 (by rw [(stL_is _ _).size]; decide) (.int .u32 ((pc + 4) % 4294967296))).put 16 (by rw [List.length_set, (stL_is _ _).size]; decide) (.int .u32 ((pc + 4) % 4294967296))); have X10 := Lib.hid ((X8.out.putApart (Nat.ne_of_lt X7.out.lt) 14 (.int .u32 ((pc + 4) % 4294967296))).putApart (Nat.ne_of_lt X7.out.lt) 16 (.int .u32 ((pc + 4) % 4294967296))); have T10 := Lib.hid ((T8.out.putApart (Nat.ne_of_lt T7.out.lt) 14 (.int .u32 ((pc + 4) % 4294967296))).putApart (Nat.ne_of_lt T7.out.lt) 16 (.int .u32 ((pc + 4) % 4294967296))); have E10 := Lib.hid ((E8.out.putApart (Nat.ne_of_lt E7.out.lt) 14 (.int .u32 ((pc + 4) % 4294967296))).putApart (Nat.ne_of_lt E7.out.lt) 16 (.int .u32 ((pc + 4) % 4294967296))); have U10 := Lib.hid ((U8.out.putApart (Nat.ne_of_lt U7.out.lt) 14 (.int .u32 ((pc + 4) % 4294967296))).putApart (Nat.ne_of_lt U7.out.lt) 16 (.int .u32 ((pc + 4) % 4294967296))); have F10 := Lib.hid ((F8.out.putApart (Nat.ne_of_lt F7.out.lt) 14 (.int .u32 ((pc + 4) % 4294967296))).putApart (Nat.ne_of_lt F7.out.lt) 16 (.int .u32 ((pc + 4) % 4294967296))); have B10 := Lib.hid ((B8.out.setCell (p := ⟨w7.heap.size, 14, none⟩) B7.out.size (.int .u32 ((pc + 4) % 4294967296))).setCell (p := ⟨w7.heap.size, 16, none⟩) B7.out.size (.int .u32 ((pc + 4) % 4294967296))); clear x16 n14 f14 n16 f16; rw [want_eq] at N10; generalize ((w8.setCell ⟨w7.heap.size, 14, none⟩ (.int .u32 ((pc + 4) % 4294967296))).setCell ⟨w7.heap.size, 16, none⟩ (.int .u32 ((pc + 4) % 4294967296))) = w10 at *; have x16 := X10.out.at 16 (stL_is _ _).pc; have t16 := T10.out.at 16 (stL_is _ _).pc; have e0 := E10.out.at 0 rfl; have g0 := F10.out.at 0 rfl; go_step) | (with_reducible (show wpList _ _ _ (⟨_, .load _ (.tmp 11), _, _, _, _⟩ :: _) _ _); refine wg_load (.tmp 11) _ _ Tryd.underlying25 rfl (stL_inf _ _) (by kernel_rfl) rfl rfl U10.out ?_) | (with_reducible (show wpList _ _ _ (⟨_, .load _ (.tmp 13), _, _, _, _⟩ :: _) _ _); refine wg_load (.tmp 13) _ _ Tryd.underlying25 rfl (stL_inf _ _) (by kernel_rfl) rfl rfl N10.out ?_))
  go_ret
  refine ⟨congrArg (fun b => Ending.returned (Value.bool b)) (?_ : (pJ pc n == (pc + 4 * (n : Int)) % 4294967296) = true), B10.out⟩
  rw [beq_iff_eq]
  rfl
theorem walk (r : Nat → Int) (pc x : Int) (w : World) (hE : Env w) (hR : R32 r) :
    Calls Tryd.prog 8 #[.agg (stL r pc).toArray, .int .i64 x] w fun e w' => e = .returned (.bool true) ∧ Below w.heap.size w w' := by
  by_cases h : x < 1 ∨ 30000 < x
  · exact walk_out r pc x w hE h
  · obtain ⟨n, rfl⟩ := Int.eq_ofNat_of_zero_le (show 0 ≤ x by omega)
    exact walk_in r pc n w hE hR (by omega) (by omega)

set_option maxRecDepth 100000 in
theorem lifted (os : Os) (started : os.Started) (H : Type) (enc : TypeId × Value → H) :
    ReturnsInHanded {} Tryd.checked os 8 .any (fun w args => (Rows.aluCallsSpec.pre enc Tryd.prog Tryd.f8 [] false w args ∧ laidMetH Tryd.prog laidL w) ∧ sizedMet enc Tryd.prog Tryd.f8 (OpenSpec.ofChange Rows.aluCallsSpec) false w args)
      (Rows.aluCallsSpec.post enc Tryd.prog Tryd.f8 false true false false) := by
  refine returnsInHanded_of_change_and (C := Tryd.checked) (X := fun w _ => laidMetH Tryd.prog laidL w) (fun _ _ _ hh h => h.of_heap hh) own started (by kernel_rfl) Tryd.func8
    (ChangeSpec.witness_shaped (enc := enc) (C := Tryd.checked) (os := os) (X := fun w _ => laidMetH Tryd.prog laidL w) false (World.doorLaid Tryd.prog 4000 os) #[.agg #[.int .u32 0, .int .u32 0, .int .u32 0, .int .u32 0, .int .u32 0, .int .u32 0, .int .u32 0, .int .u32 0, .int .u32 0, .int .u32 0, .int .u32 0, .int .u32 0, .int .u32 0, .int .u32 0, .int .u32 0, .int .u32 0, .int .u32 0], .int .i64 0] 8 rfl (World.shaped_of_RefB (by kernel_rfl) (by kernel_rfl)) (by kernel_rfl) (by kernel_rfl) (by kernel_rfl) (door_met os _)) ?_
  intro W base args ds gs before hval0 hW _ _ hL _
  have hval : ∀ (j : Nat) t v, Tryd.f8.params[j]? = some t → args[j]? = some v → Value.okWide Tryd.prog W .any base t v := hval0
  have hW' := hW
  obtain ⟨p, q, hA0, hV, rfl, hfz, hnd⟩ := hW
  have hA : DataW.TrodAll enc Tryd.prog W 0 (fun _ => true) true Tryd.f8.params.toList args.toList ds p := hA0
  rw [Tryd.params8] at hA hval
  obtain ⟨v0, vs0, d0, ds0, p0, q0, hargs, rfl, rfl, h0, r0⟩ := trodAll_cons hA
  obtain ⟨v1, vs1, d1, ds1, p1, q1, rfl, rfl, rfl, h1, r1⟩ := trodAll_cons r0
  obtain ⟨rfl, rfl, rfl⟩ := trodAll_nil r1
  obtain rfl : args = #[v0, v1] := by cases args; simp_all
  obtain ⟨rfl, rfl⟩ := trodVars_none hV
  obtain ⟨rg0, pc0, rfl, rfl, hR0, hP0, sh0⟩ := st_open (hval 0 25 v0 rfl rfl) h0
  obtain ⟨x1, rfl, rfl, rfl, w1⟩ := open_int Tryd.underlying3 (hval 1 3 v1 rfl rfl) h1
  have hE := env_of hL
  clear hA0 hval0
  simp only [List.append_nil] at hW'
  refine (walk rg0 pc0 x1 W hE hR0).mono fun e W' ⟨he, bel⟩ => ?_
  subst he
  exact ⟨_, rfl, _, _, _, [], [], [], hW', trodAll_mk1 (shut_bool Tryd.underlying4 _), (trodAll_cons_mk (sh0 _ _) (trodAll_cons_mk (shut_int Tryd.underlying3 w1) trodAll_mk0)), rfl, bel.frame _, fun h => by cases h⟩

theorem over : Rows.AluCallsSaid :=
  OpenClaim.holds_of_wide 8 Tryd.f8 rfl rfl rfl rfl rfl rfl rfl ⟨rfl, rfl, rfl, rfl, rfl⟩ rfl rfl rfl rfl rfl (by kernel_rfl) Tryd.func8 (by kernel_rfl)
    (of_decide_eq_true (by kernel_rfl)) (by unfold Func.isWrapper; first | (rw [if_pos (by decide +kernel)]; kernel_rfl) | (rw [if_neg (by decide +kernel)]; exact ⟨rfl, rfl⟩))
    (fun os started H enc _ => lifted os started H enc)
end Go.Proofs.YtlfhcnpbgbnadaaDoor.aluCalls
namespace Go.Proofs.YtlfhcnpbgbnadaaDoor
open Go
/-- The statement. -/
theorem aluCalls_holds : Rows.AluCallsCardSaid :=
  Claim7.holds_tied_plain_at .later [] [.data, .data, .data, .sentinel, .sentinel, .data] true _ true
    aluCalls.over (fun _ h => by cases h) (by kernel_rfl) (fun _ h => by cases h) aluCalls_row_tie rfl ⟨rfl, rfl⟩ (by kernel_rfl) rfl
    (fun f fn hf hfn => by
      obtain rfl : f = 8 := Option.some.inj ((show Tryd.prog.funcNamed "warder/warderlaw03.AluCalls" = some 8 by kernel_rfl).symm.trans hf) |>.symm
      obtain rfl : fn = Tryd.f8 := (Option.some.inj (Tryd.func8.symm.trans hfn)).symm
      exact ⟨by kernel_rfl, fun j t ht => by
        rw [Tryd.params8] at ht
        have hm : t ∈ [25, 3] := by simpa using Array.mem_of_getElem? ht
        have hall : ([25, 3].all fun u => !Tryd.prog.wantsStandIn u) = true := by kernel_rfl
        exact (show Tryd.prog.wantsStandIn t = false by simpa using List.all_eq_true.1 hall t hm)⟩)
    (by kernel_rfl)
#print axioms aluCalls_holds
end Go.Proofs.YtlfhcnpbgbnadaaDoor
