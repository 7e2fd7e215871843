/-
  What isa.Show answers, at every row of at most a million bytes; the conditions: the tables that the program's text lays lie so.
-/
import Derived.Test.YtebnjhecopmekaaDoorIsaBuilder
import Derived.Test.YtebnjhecopmekaaDoorIsaBytes
import Derived.Test.YtebnjhecopmekaaDoorIsaAsm0
namespace Go.Proofs.YtebnjhecopmekaaDoor
open Go.RowKit Go.Shelf Isa

theorem Bld.kept {B b : Nat} {l : List UInt8} {w w' : World} (h : Bld B b l w) (hb : Below w.heap.size w w') : Bld B b l w' := by
  have k : ∀ {p}, Lib.BuilderAtF 76 5 B b p (Lib.byteCells l) w → Lib.BuilderAtF 76 5 B b p (Lib.byteCells l) w' := by
    rintro p ⟨hB, v, hbk, hown, hne⟩
    exact ⟨hB, v, (hb.block b (heap_lt hbk)).trans hbk, hown.kept (grown_of hb) (Classical.em _), hne⟩
  rcases h with h | h
  · exact .inl (k h)
  · exact .inr (k h)
/-- Is it an instruction's word? -/
def decR (v : Int) : Bool := right (dOp v) (dA v) (dB v) (dI v)
/-- The line of a word. -/
def decLn (v : Int) : List UInt8 := lineL (dOp v) (dA v) (dB v) (dI v) ++ [10]
/-- A word's four bytes, as a number. -/
def wAt (z : Nat → Int) (k : Nat) : Int := Wd.word4 (z (4 * k)) (z (4 * k + 1)) (z (4 * k + 2)) (z (4 * k + 3))
/-- The first words' lines. -/
def showTo (z : Nat → Int) : Nat → List UInt8
  | 0 => []
  | k + 1 => showTo z k ++ decLn (wAt z k)
theorem lineL_len {op a b imm : Int} (h : right op a b imm = true) : (lineL op a b imm).length ≤ 80 := by
  obtain ⟨⟨g0, h0⟩, ⟨g1, h1⟩, ⟨g2, h2⟩, ⟨g3, h3⟩⟩ := right_bounds h
  have sb := sgn_bounds imm
  have k0 := (opN_len op.toNat (by omega)).1
  have k1 := regL_size a (by omega) (by omega)
  have k2 := regL_size b (by omega) (by omega)
  have k3 := regL_size imm (by omega) (by omega)
  have k4 := numL_size imm (by omega) (by omega)
  have k5 := numL_size (sgn imm) (by omega) (by omega)
  rw [bs_size] at k1 k2 k3 k4 k5
  have e1 : (if opA op.toNat then regL a else []).length ≤ 23 := by
    split
    · omega
    · simp
  have e2 : (if opB op.toNat then regL b else []).length ≤ 23 := by
    split
    · omega
    · simp
  have e3 : (immL (opI op.toNat) imm).length ≤ 23 := by
    unfold immL
    split
    · omega
    · split
      · omega
      · split
        · omega
        · simp
  simp only [lineL, List.length_append]
  omega
theorem showTo_len (z : Nat → Int) (k : Nat) (h : ∀ j, j < k → decR (wAt z j) = true) : (showTo z k).length ≤ 81 * k := by
  induction k with
  | zero => simp [showTo]
  | succ k ih =>
    have h1 := ih (fun j hj => h j (by omega))
    have h2 := lineL_len (h k (by omega))
    simp only [showTo, decLn, List.length_append, List.length_singleton]
    omega
theorem word4_bounds {z0 z1 z2 z3 : Int} (k0 : Wd.B8 z0) (k1 : Wd.B8 z1) (k2 : Wd.B8 z2) (k3 : Wd.B8 z3) : 0 ≤ Wd.word4 z0 z1 z2 z3 ∧ Wd.word4 z0 z1 z2 z3 < 4294967296 := by
  obtain ⟨a0, b0⟩ := k0; obtain ⟨a1, b1⟩ := k1; obtain ⟨a2, b2⟩ := k2; obtain ⟨a3, b3⟩ := k3
  unfold Wd.word4; omega
/-- The row of bytes lies in the world. -/
def RowAt (w : World) (b off len : Nat) (z : Nat → Int) : Prop := b < w.heap.size ∧ (∀ j, j < len → Wd.B8 (z j)) ∧ ∀ j, j < len → w.cell? ⟨b, off + j, none⟩ = some (.int .u8 (z j))
theorem RowAt.kept {w w' : World} {b off len : Nat} {z : Nat → Int} (h : RowAt w b off len z) (hb : Below w.heap.size w w') : RowAt w' b off len z :=
  ⟨Nat.lt_of_lt_of_le h.1 hb.size, h.2.1, fun j hj => keep hb (h.2.2 j hj)⟩
theorem show_odd (a : Option Addr) (len cap : Nat) (w : World) (h : ¬ len % 4 = 0) (hl : len ≤ 1000000) :
    Calls Tryd.prog 21 #[.slice a len cap] w fun e w' => e = .returned (.tuple #[.string (bs []), .bool false]) ∧ w = w' := by
  have h1 : ((len : Int) % 4 == 0) = false := by simp; omega
  have h2 : ((len : Int) % 4 != 0) = true := by simp; omega
  go_enter Tryd.func21, Tryd.ntmps21
  go_wp2
  go_ret2
  exact ⟨rfl, rfl⟩
theorem show_nil (a : Option Addr) (cap : Nat) (w : World) :
    Calls Tryd.prog 21 #[.slice a 0 cap] w fun e w' => e = .returned (.tuple #[.string (bs []), .bool true]) ∧ Below w.heap.size w w' := by
  go_enter Tryd.func21, Tryd.ntmps21
  go_wp2
  go_loop [5] (fun i => i = .int .i64 0) (fun _ => 0)
  case atStart => rfl
  case round =>
    subst hrel
    go_wp2_with fail
    refine (Tryd.Builder_String_any_k w.heap.size w.heap.size [] _ (Lib.IsBuilderF.of (Lib.fresh_isBuilder _ _ w)) (by simp)).mono ?_
    rintro e w1 ⟨rfl, _, hb, _⟩
    go_wp2
    go_ret2
    exact ⟨rfl, ((Below.refl _ _).alloc (Nat.le_refl _) _).trans hb⟩
theorem get4 (b off len cap k : Nat) (z : Nat → Int) (w : World) (hrow : RowAt w b off len z) (hk : 4 * k + 4 ≤ len) (hl : len ≤ 1000000) :
    Calls Tryd.prog 39 #[.slice (some ⟨b, off, none⟩) len cap, .int .i64 (4 * (k : Int))] w fun e w' => e = .returned (.tuple #[.int .u32 (wAt z k), .bool true]) ∧ ∃ n, w' = w.drewN n := by
  have e0 : (4 * (k : Int)).toNat = 4 * k := by omega
  obtain ⟨_, hz, hc⟩ := hrow
  refine Wd.get_yes b off len cap (4 * (k : Int)) (z (4 * k)) (z (4 * k + 1)) (z (4 * k + 2)) (z (4 * k + 3)) w (by omega) (by omega) (by omega) (hz _ (by omega)) (hz _ (by omega)) (hz _ (by omega)) (hz _ (by omega)) ?_ ?_ ?_ ?_
  · rw [e0]; exact hc _ (by omega)
  · rw [e0]; exact hc _ (by omega)
  · rw [e0]; exact hc _ (by omega)
  · rw [e0]; exact hc _ (by omega)
theorem decV_yes {v : Int} (h : decR v = true) : decV v = .tuple #[.agg #[.int .i64 (dOp v), .int .i64 (dA v), .int .i64 (dB v), .int .i64 (dI v)], .bool true] := if_pos h
theorem decV_no {v : Int} (h : decR v = false) : decV v = .tuple #[.agg #[.int .i64 0, .int .i64 0, .int .i64 0, .int .i64 0], .bool false] := if_neg (by unfold decR at h; rw [h]; simp)
theorem lineV_yes {v : Int} (h : decR v = true) : lineV (dOp v) (dA v) (dB v) (dI v) = lineL (dOp v) (dA v) (dB v) (dI v) := if_pos h
theorem writeNl (B b : Nat) (l : List UInt8) (w : World) (h : Bld B b l w) (hlen : l.length + 1 ≤ 140737488355328) (hBw : B ≤ w.heap.size) :
    Calls Tryd.prog 41 #[.pointer (some ⟨b, 0, none⟩), .int .u8 10] w fun e w' => e = .returned .nilIface ∧ Bld B b (l ++ [10]) w' ∧ Below B w w' ∧ Lib.OthersKept 5 (some b) w w' := writeByte_any B b l 10 w h hlen hBw
set_option maxHeartbeats 4000000 in
theorem show_row (b off len cap : Nat) (z : Nat → Int) (w : World) (hE : Env w) (hrow : RowAt w b off len z) (h4 : len % 4 = 0) (hl : len ≤ 1000000) :
    Calls Tryd.prog 21 #[.slice (some ⟨b, off, none⟩) len cap] w fun e w' => ((((∀ j, j < len / 4 → decR (wAt z j) = true) ∧ e = .returned (.tuple #[.string (bs (showTo z (len / 4))), .bool true]))) ∨ ((∃ j, j < len / 4 ∧ decR (wAt z j) = false) ∧ e = .returned (.tuple #[.string (bs []), .bool false]))) ∧ Below w.heap.size w w' := by
  have h1 : ((len : Int) % 4 == 0) = true := by simp; omega
  have h2 : ((len : Int) % 4 != 0) = false := by simp; omega
  have HE := Lib.hid hE
  have HR := Lib.hid hrow
  clear hE hrow
  go_enter Tryd.func21, Tryd.ntmps21
  go_wp2
  go_loopw [5] (fun i wr => ∃ k : Nat, k ≤ len / 4 ∧ i = .int .i64 (4 * k : Nat) ∧ Hid (∀ j, j < k → decR (wAt z j) = true) ∧ Hid (Bld w.heap.size w.heap.size (showTo z k) wr) ∧ Hid (Below w.heap.size w wr)) (fun i _ => len - (intOf i).toNat)
  case atStart => exact ⟨0, by omega, rfl, Lib.hid (fun j hj => by omega), Lib.hid (Lib.IsBuilderF.of (Lib.fresh_isBuilder _ _ w)), Lib.hid ((Below.refl _ _).alloc (Nat.le_refl _) _)⟩
  case round =>
    obtain ⟨k, hk, rfl, hgood, hbld, hbel⟩ := hrel
    by_cases hlt : k < len / 4
    · have d1 : decide (4 * (k : Int) < len) = true := by simp; omega
      have HRW := Lib.hid (HR.out.kept (hbel.out.mono (Nat.le_refl _)))
      have hwb := word4_bounds (HRW.out.2.1 (4 * k) (by omega)) (HRW.out.2.1 (4 * k + 1) (by omega)) (HRW.out.2.1 (4 * k + 2) (by omega)) (HRW.out.2.1 (4 * k + 3) (by omega))
      have hw0 : 0 ≤ wAt z k := hwb.1
      have hw1 : wAt z k < 4294967296 := hwb.2
      have hsl := showTo_len z k hgood.out
      clear hwb
      cases hd : decR (wAt z k)
      · have HV := Lib.hid (decV_no hd)
        have HD := Lib.hid hd
        clear hd
        go_wp2_with fail
        refine (get4 _ _ _ _ k z _ HRW.out (by omega) hl).mono ?_
        rintro e w1 ⟨rfl, kk, rfl⟩
        go_wp2_with fail
        refine (decode_any _ _ ((HE.out.kept hbel.out).drewN _).1 hw0 hw1).mono ?_
        rintro e w2 ⟨rfl, hb⟩
        rw [HV.out]
        have HB := Lib.hid ((below_drewN hbel.out kk).trans (hb.mono (below_drewN hbel.out kk).size))
        clear hb
        go_wp2
        go_ret2
        exact ⟨.inr ⟨⟨k, hlt, HD.out⟩, rfl⟩, HB.out.alloc HB.out.size _⟩
      · have HV := Lib.hid (decV_yes hd)
        have HL := Lib.hid (lineV_yes hd)
        have HD := Lib.hid hd
        have hll := lineL_len hd
        have HS := Lib.hid (show showTo z (k + 1) = showTo z k ++ lineL (dOp (wAt z k)) (dA (wAt z k)) (dB (wAt z k)) (dI (wAt z k)) ++ [10] by simp [showTo, decLn])
        clear hd
        go_wp2_with fail
        refine (get4 _ _ _ _ k z _ HRW.out (by omega) hl).mono ?_
        rintro e w1 ⟨rfl, kk, rfl⟩
        go_wp2_with fail
        refine (decode_any _ _ ((HE.out.kept hbel.out).drewN _).1 hw0 hw1).mono ?_
        rintro e w2 ⟨rfl, hb⟩
        rw [HV.out]
        have HB := Lib.hid ((below_drewN hbel.out kk).trans (hb.mono (below_drewN hbel.out kk).size))
        have HK := Lib.hid ((hbld.out.kept (below_drewN (Below.refl _ _) kk)).kept hb)
        clear hb
        go_wp2_with fail
        refine (line_any _ _ _ _ _ ((HE.out.kept HB.out).box _)).mono ?_
        rintro e w3 ⟨rfl, hb⟩
        rw [HL.out]
        have HB2 := Lib.hid ((HB.out.alloc HB.out.size _).trans (hb.mono (HB.out.alloc HB.out.size _).size))
        have HK2 := Lib.hid ((HK.out.kept ((Below.refl _ _).alloc (Nat.le_refl _) _)).kept hb)
        clear hb
        go_wp2_with fail
        refine (writeString_any _ _ _ _ _ HK2.out (by omega) HB2.out.size).mono ?_
        rintro e w4 ⟨rfl, hk4, hb4, _⟩
        have HB4 := Lib.hid (HB2.out.trans hb4)
        have HK4 := Lib.hid hk4
        clear hk4 hb4
        go_wp2_with fail
        refine (writeNl _ _ _ _ HK4.out (by simp; omega) HB4.out.size).mono ?_
        rintro e w5 ⟨rfl, hk5, hb5, _⟩
        have HB5 := Lib.hid (HB4.out.trans hb5)
        have HK5 := Lib.hid hk5
        clear hk5 hb5
        go_wp2
        go_roundw
        case rel =>
          exact ⟨k + 1, by omega, by go_num, Lib.hid (fun j hj => by
            by_cases e : j = k
            · subst e; exact HD.out
            · exact hgood.out j (by omega)), Lib.hid (by rw [HS.out]; exact HK5.out), HB5⟩
        case measure => simp [intOf]; omega
    · have d1 : decide (4 * (k : Int) < len) = false := by simp; omega
      have e : k = len / 4 := by omega
      subst e
      go_wp2_with fail
      refine (Tryd.Builder_String_any_k _ _ _ _ hbld.out hbel.out.size).mono ?_
      rintro e w1 ⟨rfl, _, hb, _⟩
      go_wp2
      go_ret2
      exact ⟨.inl ⟨hgood.out, rfl⟩, hbel.out.trans hb⟩
end Go.Proofs.YtebnjhecopmekaaDoor
