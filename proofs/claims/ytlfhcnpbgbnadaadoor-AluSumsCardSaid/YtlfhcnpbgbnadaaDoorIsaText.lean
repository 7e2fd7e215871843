/-
  What isa's regText, numberText and Line answer, at every argument; the conditions: the tables that the program's text lays lie so.
-/
import Derived.Test.YtlfhcnpbgbnadaaDoorIsaCode
import Derived.Test.YtlfhcnpbgbnadaaDoorShelf
import Derived.Lib.SmallJoins
import Derived.Lib.AppendIntMem
import Derived.Lib.ItoaLen
namespace Go.Proofs.YtlfhcnpbgbnadaaDoor
open Go.RowKit Isa Nt

/-- Bytes as a Go string. -/
def bs (l : List UInt8) : ByteArray := ⟨l.toArray⟩
theorem bs_append (a b : List UInt8) : bs a ++ bs b = bs (a ++ b) := by
  apply ByteArray.ext
  simp [bs]
theorem bs_size (l : List UInt8) : (bs l).size = l.length := by simp [bs, ByteArray.size]
theorem bs_toList (l : List UInt8) : (bs l).data.toList = l := rfl
theorem bs_self (s : ByteArray) : bs s.data.toList = s := by cases s; rfl
theorem bs_inj {a b : List UInt8} : bs a = bs b ↔ a = b := ⟨fun h => by have := congrArg (fun s : ByteArray => s.data.toList) h; simpa [bs] using this, fun h => by rw [h]⟩
theorem keep {w w' : World} (hb : Below w.heap.size w w') {p : Addr} {v : Value} (h : w.cell? p = some v) : w'.cell? p = some v :=
  (hb.cell (p := p) (World.block_lt_of_cell? _ _ h)).trans h
/-- What the package-level variables hold. -/
def ErrAt (w : World) (g : Nat) : Prop := ∃ ev, w.cell? ⟨g, 0, none⟩ = some ev ∧ (ev = .nilIface ∨ ∃ te pe, ev = .iface te pe)
def Env (w : World) : Prop := OpsIn w ∧ Lib.TabIs Tryd.prog w "internal/strconv.uint64pow10" .u64 Lib.pow10Tab ∧ ErrAt w 2 ∧ ErrAt w 3
theorem gPow : Tryd.prog.globalNamed "internal/strconv.uint64pow10" = some 4 := by kernel_rfl
theorem ErrAt.kept {w w' : World} {g : Nat} (h : ErrAt w g) (hb : Below w.heap.size w w') : ErrAt w' g := by
  obtain ⟨ev, h1, h2⟩ := h
  exact ⟨ev, keep hb h1, h2⟩
theorem Env.kept {w w' : World} (h : Env w) (hb : Below w.heap.size w w') : Env w' :=
  ⟨h.1.kept hb, Go.Joins.tab_stays gPow h.2.1 hb (Nat.le_refl _), h.2.2.1.kept hb, h.2.2.2.kept hb⟩
theorem Env.box {w : World} (h : Env w) (o : Obj) : Env (w.alloc o) := h.kept ((Below.refl _ _).alloc (Nat.le_refl _) _)
theorem Env.drewN {w : World} (h : Env w) (k : Nat) : Env (w.drewN k) := h.kept (below_drewN (Below.refl _ _) k)

theorem itoa_any (n : Int) (w : World) (hE : Env w) (h0 : -9223372036854775808 ≤ n) (h1 : n ≤ 9223372036854775807) :
    Calls Tryd.prog 70 #[.int .i64 n] w fun e w' => e = .returned (.string (bs (Lib.itoa n))) ∧ Below w.heap.size w w' := by
  refine (Tryd.strconv_Itoa n h0 h1 w hE.2.1).mono ?_
  rintro e w' ⟨rfl, k, os, rfl⟩
  exact ⟨rfl, Lib.below_grow _ _ (Nat.le_refl _) _ _⟩
def regL (n : Int) : List UInt8 := 32 :: 114 :: Lib.itoa n
def numL (n : Int) : List UInt8 := 32 :: Lib.itoa n
theorem ret_str {a b : ByteArray} (h : a = b) : Ending.returned (.string a) = .returned (.string b) := by rw [h]
theorem regText_any (n : Int) (w : World) (hE : Env w) (h0 : -9223372036854775808 ≤ n) (h1 : n ≤ 9223372036854775807) :
    Calls Tryd.prog 65 #[.int .i64 n] w fun e w' => e = .returned (.string (bs (regL n))) ∧ Below w.heap.size w w' := by
  have HE := Lib.hid hE
  clear hE
  go_enter Tryd.func65, Tryd.ntmps65
  have hs : (bs (Lib.itoa n)).size ≤ 21 := by rw [bs_size]; exact Lib.itoa_length_le n h0 h1
  go_wp2_with (go_at_call 70; refine (itoa_any _ _ HE.out h0 h1).mono ?_; rintro e w' ⟨rfl, hb⟩)
  go_ret
  exact ⟨ret_str (bs_append [32, 114] _), hb⟩
theorem numberText_any (n : Int) (w : World) (hE : Env w) (h0 : -9223372036854775808 ≤ n) (h1 : n ≤ 9223372036854775807) :
    Calls Tryd.prog 66 #[.int .i64 n] w fun e w' => e = .returned (.string (bs (numL n))) ∧ Below w.heap.size w w' := by
  have HE := Lib.hid hE
  clear hE
  go_enter Tryd.func66, Tryd.ntmps66
  have hs : (bs (Lib.itoa n)).size ≤ 21 := by rw [bs_size]; exact Lib.itoa_length_le n h0 h1
  go_wp2_with (go_at_call 70; refine (itoa_any _ _ HE.out h0 h1).mono ?_; rintro e w' ⟨rfl, hb⟩)
  go_ret
  exact ⟨ret_str (bs_append [32] _), hb⟩
def immL (i : Nat) (imm : Int) : List UInt8 := if i = 1 then numL imm else if i = 2 then regL imm else if i = 3 then numL (sgn imm) else []
/-- An instruction's text. -/
def lineL (op a b imm : Int) : List UInt8 := opN op.toNat ++ (if opA op.toNat then regL a else []) ++ (if opB op.toNat then regL b else []) ++ immL (opI op.toNat) imm
theorem line_no (op a b imm : Int) (w : World) (hE : Env w) (h : right op a b imm = false) :
    Calls Tryd.prog 58 #[.agg #[.int .i64 op, .int .i64 a, .int .i64 b, .int .i64 imm]] w fun e w' => e = .returned (.string (bs [])) ∧ Below w.heap.size w w' := by
  have HE := Lib.hid hE
  clear hE
  go_enter Tryd.func58, Tryd.ntmps58
  go_wp2_with (go_at_call 33; refine (hasW_any _ _ _ _ _ (HE.out.1.box _)).mono ?_; rintro e w' ⟨rfl, hb⟩)
  go_ret
  exact ⟨rfl, ((Below.refl _ _).alloc (Nat.le_refl _) _).trans (hb.mono (by simp))⟩
theorem combos (k : Nat) (h : k < 28) : (opA k = false ∧ opB k = false ∧ (opI k = 0 ∨ opI k = 1)) ∨ (opA k = true ∧ opB k = false ∧ (opI k = 0 ∨ opI k = 1 ∨ opI k = 3)) ∨ (opA k = true ∧ opB k = true ∧ (opI k = 2 ∨ opI k = 3)) := by
  have : k ∈ List.range 28 := by simpa using h
  revert this; revert k; decide
theorem regL_size (n : Int) (h0 : -9223372036854775808 ≤ n) (h1 : n ≤ 9223372036854775807) : (bs (regL n)).size ≤ 23 := by
  rw [bs_size]; have := Lib.itoa_length_le n h0 h1; simp [regL]; omega
theorem numL_size (n : Int) (h0 : -9223372036854775808 ≤ n) (h1 : n ≤ 9223372036854775807) : (bs (numL n)).size ≤ 22 := by
  rw [bs_size]; have := Lib.itoa_length_le n h0 h1; simp [numL]; omega
theorem opN_len (k : Nat) (h : k < 28) : (opN k).length ≤ 4 ∧ 2 ≤ (opN k).length := by
  have : k ∈ List.range 28 := by simpa using h
  revert this; revert k; decide
theorem opS_size (k : Nat) (h : k < 28) : (opS k).size ≤ 4 := (opN_len k h).1
set_option maxHeartbeats 2000000 in
theorem line_ff0 (k : Nat) (a b imm : Int) (w : World) (hk : k < 28) (hE : Env w) (h : right k a b imm = true) (hA : opA k = false) (hB : opB k = false) (hI : opI k = 0) :
    Calls Tryd.prog 58 #[.agg #[.int .i64 k, .int .i64 a, .int .i64 b, .int .i64 imm]] w fun e w' => e = .returned (.string (bs (lineL k a b imm))) ∧ Below w.heap.size w w' := by
  have hL := Lib.hid (show lineL k a b imm = opN k by simp [lineL, immL, hA, hB, hI])
  obtain ⟨⟨g0, h0⟩, ⟨g1, h1⟩, ⟨g2, h2⟩, ⟨g3, h3⟩⟩ := right_bounds h
  have hs0 := opS_size k hk
  have hs1 := regL_size a (by omega) (by omega)
  have hs2 := regL_size b (by omega) (by omega)
  have hs3 := regL_size imm (by omega) (by omega)
  have hs4 := numL_size imm (by omega) (by omega)
  have sb := sgn_bounds imm
  have hs5 := numL_size (sgn imm) (by omega) (by omega)
  have HE := Lib.hid hE
  clear hE
  go_enter Tryd.func58, Tryd.ntmps58
  go_wp2_with fail
  refine (hasW_any _ _ _ _ _ (HE.out.1.box _)).mono ?_
  rintro e w1 ⟨rfl, hb⟩
  have HE1 := Lib.hid ((HE.out.box _).kept hb)
  have z1 : w1.cell? ⟨w.heap.size, 0, none⟩ = some (.int .i64 k) := keep hb (by simp)
  have z2 : w1.cell? ⟨w.heap.size, 1, none⟩ = some (.int .i64 a) := keep hb (by simp)
  have z3 : w1.cell? ⟨w.heap.size, 2, none⟩ = some (.int .i64 b) := keep hb (by simp)
  have z4 : w1.cell? ⟨w.heap.size, 3, none⟩ = some (.int .i64 imm) := keep hb (by simp)
  obtain ⟨c0, c1, c2, c3⟩ := HE1.out.1 k hk
  rw [hA] at c1
  rw [hB] at c2
  rw [hI] at c3
  have hz : 0 < w1.heap.size := World.block_lt_of_cell? _ _ c0
  have hz2 : w.heap.size < w1.heap.size := World.block_lt_of_cell? _ _ z1
  have HB := Lib.hid ((((Below.refl _ _).alloc (Nat.le_refl _) _).trans (hb.mono (by simp)) : Below w.heap.size w w1).alloc (by omega) (.cells #[.string (opS k), .bool false, .bool false, .int .i64 0] 88))
  clear hb hA hB hI
  go_wp2
  go_ret
  refine ⟨ret_str ?_, HB.out⟩
  rw [hL.out]
  show bs (opN k) = _
  rfl
set_option maxHeartbeats 2000000 in
theorem line_ff1 (k : Nat) (a b imm : Int) (w : World) (hk : k < 28) (hE : Env w) (h : right k a b imm = true) (hA : opA k = false) (hB : opB k = false) (hI : opI k = 1) :
    Calls Tryd.prog 58 #[.agg #[.int .i64 k, .int .i64 a, .int .i64 b, .int .i64 imm]] w fun e w' => e = .returned (.string (bs (lineL k a b imm))) ∧ Below w.heap.size w w' := by
  have hL := Lib.hid (show lineL k a b imm = opN k ++ numL imm by simp [lineL, immL, hA, hB, hI])
  obtain ⟨⟨g0, h0⟩, ⟨g1, h1⟩, ⟨g2, h2⟩, ⟨g3, h3⟩⟩ := right_bounds h
  have hs0 := opS_size k hk
  have hs1 := regL_size a (by omega) (by omega)
  have hs2 := regL_size b (by omega) (by omega)
  have hs3 := regL_size imm (by omega) (by omega)
  have hs4 := numL_size imm (by omega) (by omega)
  have sb := sgn_bounds imm
  have hs5 := numL_size (sgn imm) (by omega) (by omega)
  have HE := Lib.hid hE
  clear hE
  go_enter Tryd.func58, Tryd.ntmps58
  go_wp2_with fail
  refine (hasW_any _ _ _ _ _ (HE.out.1.box _)).mono ?_
  rintro e w1 ⟨rfl, hb⟩
  have HE1 := Lib.hid ((HE.out.box _).kept hb)
  have z1 : w1.cell? ⟨w.heap.size, 0, none⟩ = some (.int .i64 k) := keep hb (by simp)
  have z2 : w1.cell? ⟨w.heap.size, 1, none⟩ = some (.int .i64 a) := keep hb (by simp)
  have z3 : w1.cell? ⟨w.heap.size, 2, none⟩ = some (.int .i64 b) := keep hb (by simp)
  have z4 : w1.cell? ⟨w.heap.size, 3, none⟩ = some (.int .i64 imm) := keep hb (by simp)
  obtain ⟨c0, c1, c2, c3⟩ := HE1.out.1 k hk
  rw [hA] at c1
  rw [hB] at c2
  rw [hI] at c3
  have hz : 0 < w1.heap.size := World.block_lt_of_cell? _ _ c0
  have hz2 : w.heap.size < w1.heap.size := World.block_lt_of_cell? _ _ z1
  have HB := Lib.hid ((((Below.refl _ _).alloc (Nat.le_refl _) _).trans (hb.mono (by simp)) : Below w.heap.size w w1).alloc (by omega) (.cells #[.string (opS k), .bool false, .bool false, .int .i64 1] 88))
  clear hb hA hB hI
  go_wp2_with fail
  refine (numberText_any _ _ (HE1.out.box _) (by omega) (by omega)).mono ?_
  rintro e w2 ⟨rfl, hb⟩
  have HE2 := Lib.hid ((HE1.out.box _).kept hb)
  have HB2 := Lib.hid (HB.out.trans (hb.mono (by simp; omega)))
  have x1 : w2.cell? ⟨w.heap.size, 0, none⟩ = some (.int .i64 k) := keep hb ((World.cell?_alloc_lt _ _ _ hz2).trans z1)
  have x2 : w2.cell? ⟨w.heap.size, 1, none⟩ = some (.int .i64 a) := keep hb ((World.cell?_alloc_lt _ _ _ hz2).trans z2)
  have x3 : w2.cell? ⟨w.heap.size, 2, none⟩ = some (.int .i64 b) := keep hb ((World.cell?_alloc_lt _ _ _ hz2).trans z3)
  have x4 : w2.cell? ⟨w.heap.size, 3, none⟩ = some (.int .i64 imm) := keep hb ((World.cell?_alloc_lt _ _ _ hz2).trans z4)
  have y2 : w2.cell? ⟨w1.heap.size, 2, none⟩ = some (.bool false) := keep hb (by simp)
  have y3 : w2.cell? ⟨w1.heap.size, 3, none⟩ = some (.int .i64 1) := keep hb (by simp)
  have hz2 : w1.heap.size < w2.heap.size := World.block_lt_of_cell? _ _ y2
  clear hb c0 c1 c2 c3 z1 z2 z3 z4
  go_wp2
  go_ret
  refine ⟨ret_str ?_, HB2.out⟩
  rw [hL.out]
  show bs (opN k) ++ bs (numL imm) = _
  rw [bs_append]
set_option maxHeartbeats 2000000 in
theorem line_tf0 (k : Nat) (a b imm : Int) (w : World) (hk : k < 28) (hE : Env w) (h : right k a b imm = true) (hA : opA k = true) (hB : opB k = false) (hI : opI k = 0) :
    Calls Tryd.prog 58 #[.agg #[.int .i64 k, .int .i64 a, .int .i64 b, .int .i64 imm]] w fun e w' => e = .returned (.string (bs (lineL k a b imm))) ∧ Below w.heap.size w w' := by
  have hL := Lib.hid (show lineL k a b imm = opN k ++ regL a by simp [lineL, immL, hA, hB, hI])
  obtain ⟨⟨g0, h0⟩, ⟨g1, h1⟩, ⟨g2, h2⟩, ⟨g3, h3⟩⟩ := right_bounds h
  have hs0 := opS_size k hk
  have hs1 := regL_size a (by omega) (by omega)
  have hs2 := regL_size b (by omega) (by omega)
  have hs3 := regL_size imm (by omega) (by omega)
  have hs4 := numL_size imm (by omega) (by omega)
  have sb := sgn_bounds imm
  have hs5 := numL_size (sgn imm) (by omega) (by omega)
  have HE := Lib.hid hE
  clear hE
  go_enter Tryd.func58, Tryd.ntmps58
  go_wp2_with fail
  refine (hasW_any _ _ _ _ _ (HE.out.1.box _)).mono ?_
  rintro e w1 ⟨rfl, hb⟩
  have HE1 := Lib.hid ((HE.out.box _).kept hb)
  have z1 : w1.cell? ⟨w.heap.size, 0, none⟩ = some (.int .i64 k) := keep hb (by simp)
  have z2 : w1.cell? ⟨w.heap.size, 1, none⟩ = some (.int .i64 a) := keep hb (by simp)
  have z3 : w1.cell? ⟨w.heap.size, 2, none⟩ = some (.int .i64 b) := keep hb (by simp)
  have z4 : w1.cell? ⟨w.heap.size, 3, none⟩ = some (.int .i64 imm) := keep hb (by simp)
  obtain ⟨c0, c1, c2, c3⟩ := HE1.out.1 k hk
  rw [hA] at c1
  rw [hB] at c2
  rw [hI] at c3
  have hz : 0 < w1.heap.size := World.block_lt_of_cell? _ _ c0
  have hz2 : w.heap.size < w1.heap.size := World.block_lt_of_cell? _ _ z1
  have HB := Lib.hid ((((Below.refl _ _).alloc (Nat.le_refl _) _).trans (hb.mono (by simp)) : Below w.heap.size w w1).alloc (by omega) (.cells #[.string (opS k), .bool true, .bool false, .int .i64 0] 88))
  clear hb hA hB hI
  go_wp2_with fail
  refine (regText_any _ _ (HE1.out.box _) (by omega) (by omega)).mono ?_
  rintro e w2 ⟨rfl, hb⟩
  have HE2 := Lib.hid ((HE1.out.box _).kept hb)
  have HB2 := Lib.hid (HB.out.trans (hb.mono (by simp; omega)))
  have x1 : w2.cell? ⟨w.heap.size, 0, none⟩ = some (.int .i64 k) := keep hb ((World.cell?_alloc_lt _ _ _ hz2).trans z1)
  have x2 : w2.cell? ⟨w.heap.size, 1, none⟩ = some (.int .i64 a) := keep hb ((World.cell?_alloc_lt _ _ _ hz2).trans z2)
  have x3 : w2.cell? ⟨w.heap.size, 2, none⟩ = some (.int .i64 b) := keep hb ((World.cell?_alloc_lt _ _ _ hz2).trans z3)
  have x4 : w2.cell? ⟨w.heap.size, 3, none⟩ = some (.int .i64 imm) := keep hb ((World.cell?_alloc_lt _ _ _ hz2).trans z4)
  have y2 : w2.cell? ⟨w1.heap.size, 2, none⟩ = some (.bool false) := keep hb (by simp)
  have y3 : w2.cell? ⟨w1.heap.size, 3, none⟩ = some (.int .i64 0) := keep hb (by simp)
  have hz2 : w1.heap.size < w2.heap.size := World.block_lt_of_cell? _ _ y2
  clear hb c0 c1 c2 c3 z1 z2 z3 z4
  go_wp2
  go_ret
  refine ⟨ret_str ?_, HB2.out⟩
  rw [hL.out]
  show bs (opN k) ++ bs (regL a) = _
  rw [bs_append]
set_option maxHeartbeats 2000000 in
theorem line_tf1 (k : Nat) (a b imm : Int) (w : World) (hk : k < 28) (hE : Env w) (h : right k a b imm = true) (hA : opA k = true) (hB : opB k = false) (hI : opI k = 1) :
    Calls Tryd.prog 58 #[.agg #[.int .i64 k, .int .i64 a, .int .i64 b, .int .i64 imm]] w fun e w' => e = .returned (.string (bs (lineL k a b imm))) ∧ Below w.heap.size w w' := by
  have hL := Lib.hid (show lineL k a b imm = opN k ++ regL a ++ numL imm by simp [lineL, immL, hA, hB, hI])
  obtain ⟨⟨g0, h0⟩, ⟨g1, h1⟩, ⟨g2, h2⟩, ⟨g3, h3⟩⟩ := right_bounds h
  have hs0 := opS_size k hk
  have hs1 := regL_size a (by omega) (by omega)
  have hs2 := regL_size b (by omega) (by omega)
  have hs3 := regL_size imm (by omega) (by omega)
  have hs4 := numL_size imm (by omega) (by omega)
  have sb := sgn_bounds imm
  have hs5 := numL_size (sgn imm) (by omega) (by omega)
  have HE := Lib.hid hE
  clear hE
  go_enter Tryd.func58, Tryd.ntmps58
  go_wp2_with fail
  refine (hasW_any _ _ _ _ _ (HE.out.1.box _)).mono ?_
  rintro e w1 ⟨rfl, hb⟩
  have HE1 := Lib.hid ((HE.out.box _).kept hb)
  have z1 : w1.cell? ⟨w.heap.size, 0, none⟩ = some (.int .i64 k) := keep hb (by simp)
  have z2 : w1.cell? ⟨w.heap.size, 1, none⟩ = some (.int .i64 a) := keep hb (by simp)
  have z3 : w1.cell? ⟨w.heap.size, 2, none⟩ = some (.int .i64 b) := keep hb (by simp)
  have z4 : w1.cell? ⟨w.heap.size, 3, none⟩ = some (.int .i64 imm) := keep hb (by simp)
  obtain ⟨c0, c1, c2, c3⟩ := HE1.out.1 k hk
  rw [hA] at c1
  rw [hB] at c2
  rw [hI] at c3
  have hz : 0 < w1.heap.size := World.block_lt_of_cell? _ _ c0
  have hz2 : w.heap.size < w1.heap.size := World.block_lt_of_cell? _ _ z1
  have HB := Lib.hid ((((Below.refl _ _).alloc (Nat.le_refl _) _).trans (hb.mono (by simp)) : Below w.heap.size w w1).alloc (by omega) (.cells #[.string (opS k), .bool true, .bool false, .int .i64 1] 88))
  clear hb hA hB hI
  go_wp2_with fail
  refine (regText_any _ _ (HE1.out.box _) (by omega) (by omega)).mono ?_
  rintro e w2 ⟨rfl, hb⟩
  have HE2 := Lib.hid ((HE1.out.box _).kept hb)
  have HB2 := Lib.hid (HB.out.trans (hb.mono (by simp; omega)))
  have x1 : w2.cell? ⟨w.heap.size, 0, none⟩ = some (.int .i64 k) := keep hb ((World.cell?_alloc_lt _ _ _ hz2).trans z1)
  have x2 : w2.cell? ⟨w.heap.size, 1, none⟩ = some (.int .i64 a) := keep hb ((World.cell?_alloc_lt _ _ _ hz2).trans z2)
  have x3 : w2.cell? ⟨w.heap.size, 2, none⟩ = some (.int .i64 b) := keep hb ((World.cell?_alloc_lt _ _ _ hz2).trans z3)
  have x4 : w2.cell? ⟨w.heap.size, 3, none⟩ = some (.int .i64 imm) := keep hb ((World.cell?_alloc_lt _ _ _ hz2).trans z4)
  have y2 : w2.cell? ⟨w1.heap.size, 2, none⟩ = some (.bool false) := keep hb (by simp)
  have y3 : w2.cell? ⟨w1.heap.size, 3, none⟩ = some (.int .i64 1) := keep hb (by simp)
  have hz2 : w1.heap.size < w2.heap.size := World.block_lt_of_cell? _ _ y2
  clear hb c0 c1 c2 c3 z1 z2 z3 z4
  go_wp2_with fail
  refine (numberText_any _ _ HE2.out (by omega) (by omega)).mono ?_
  rintro e w3 ⟨rfl, hb⟩
  have HE3 := Lib.hid (HE2.out.kept hb)
  have HB3 := Lib.hid (HB2.out.trans (hb.mono (by omega)))
  replace x1 := keep hb x1
  replace x2 := keep hb x2
  replace x3 := keep hb x3
  replace x4 := keep hb x4
  replace y2 := keep hb y2
  replace y3 := keep hb y3
  have hz3 : w1.heap.size < w3.heap.size := World.block_lt_of_cell? _ _ y2
  clear hb
  go_wp2
  go_ret
  refine ⟨ret_str ?_, HB3.out⟩
  rw [hL.out]
  show bs (opN k) ++ bs (regL a) ++ bs (numL imm) = _
  rw [bs_append, bs_append]
set_option maxHeartbeats 2000000 in
theorem line_tf3 (k : Nat) (a b imm : Int) (w : World) (hk : k < 28) (hE : Env w) (h : right k a b imm = true) (hA : opA k = true) (hB : opB k = false) (hI : opI k = 3) :
    Calls Tryd.prog 58 #[.agg #[.int .i64 k, .int .i64 a, .int .i64 b, .int .i64 imm]] w fun e w' => e = .returned (.string (bs (lineL k a b imm))) ∧ Below w.heap.size w w' := by
  have hL := Lib.hid (show lineL k a b imm = opN k ++ regL a ++ numL (sgn imm) by simp [lineL, immL, hA, hB, hI])
  obtain ⟨⟨g0, h0⟩, ⟨g1, h1⟩, ⟨g2, h2⟩, ⟨g3, h3⟩⟩ := right_bounds h
  have hs0 := opS_size k hk
  have hs1 := regL_size a (by omega) (by omega)
  have hs2 := regL_size b (by omega) (by omega)
  have hs3 := regL_size imm (by omega) (by omega)
  have hs4 := numL_size imm (by omega) (by omega)
  have sb := sgn_bounds imm
  have hs5 := numL_size (sgn imm) (by omega) (by omega)
  have HE := Lib.hid hE
  clear hE
  go_enter Tryd.func58, Tryd.ntmps58
  go_wp2_with fail
  refine (hasW_any _ _ _ _ _ (HE.out.1.box _)).mono ?_
  rintro e w1 ⟨rfl, hb⟩
  have HE1 := Lib.hid ((HE.out.box _).kept hb)
  have z1 : w1.cell? ⟨w.heap.size, 0, none⟩ = some (.int .i64 k) := keep hb (by simp)
  have z2 : w1.cell? ⟨w.heap.size, 1, none⟩ = some (.int .i64 a) := keep hb (by simp)
  have z3 : w1.cell? ⟨w.heap.size, 2, none⟩ = some (.int .i64 b) := keep hb (by simp)
  have z4 : w1.cell? ⟨w.heap.size, 3, none⟩ = some (.int .i64 imm) := keep hb (by simp)
  obtain ⟨c0, c1, c2, c3⟩ := HE1.out.1 k hk
  rw [hA] at c1
  rw [hB] at c2
  rw [hI] at c3
  have hz : 0 < w1.heap.size := World.block_lt_of_cell? _ _ c0
  have hz2 : w.heap.size < w1.heap.size := World.block_lt_of_cell? _ _ z1
  have HB := Lib.hid ((((Below.refl _ _).alloc (Nat.le_refl _) _).trans (hb.mono (by simp)) : Below w.heap.size w w1).alloc (by omega) (.cells #[.string (opS k), .bool true, .bool false, .int .i64 3] 88))
  clear hb hA hB hI
  go_wp2_with fail
  refine (regText_any _ _ (HE1.out.box _) (by omega) (by omega)).mono ?_
  rintro e w2 ⟨rfl, hb⟩
  have HE2 := Lib.hid ((HE1.out.box _).kept hb)
  have HB2 := Lib.hid (HB.out.trans (hb.mono (by simp; omega)))
  have x1 : w2.cell? ⟨w.heap.size, 0, none⟩ = some (.int .i64 k) := keep hb ((World.cell?_alloc_lt _ _ _ hz2).trans z1)
  have x2 : w2.cell? ⟨w.heap.size, 1, none⟩ = some (.int .i64 a) := keep hb ((World.cell?_alloc_lt _ _ _ hz2).trans z2)
  have x3 : w2.cell? ⟨w.heap.size, 2, none⟩ = some (.int .i64 b) := keep hb ((World.cell?_alloc_lt _ _ _ hz2).trans z3)
  have x4 : w2.cell? ⟨w.heap.size, 3, none⟩ = some (.int .i64 imm) := keep hb ((World.cell?_alloc_lt _ _ _ hz2).trans z4)
  have y2 : w2.cell? ⟨w1.heap.size, 2, none⟩ = some (.bool false) := keep hb (by simp)
  have y3 : w2.cell? ⟨w1.heap.size, 3, none⟩ = some (.int .i64 3) := keep hb (by simp)
  have hz2 : w1.heap.size < w2.heap.size := World.block_lt_of_cell? _ _ y2
  clear hb c0 c1 c2 c3 z1 z2 z3 z4
  go_wp2_with fail
  refine (signed_any _ _ _ _ _).mono ?_
  rintro e w3 ⟨rfl, hb⟩
  have HE3 := Lib.hid (HE2.out.kept hb)
  have HB3 := Lib.hid (HB2.out.trans (hb.mono (by omega)))
  replace x1 := keep hb x1
  replace x2 := keep hb x2
  replace x3 := keep hb x3
  replace x4 := keep hb x4
  replace y2 := keep hb y2
  replace y3 := keep hb y3
  have hz3 : w1.heap.size < w3.heap.size := World.block_lt_of_cell? _ _ y2
  clear hb
  go_wp2_with fail
  refine (numberText_any _ _ HE3.out (by omega) (by omega)).mono ?_
  rintro e w4 ⟨rfl, hb⟩
  have HE4 := Lib.hid (HE3.out.kept hb)
  have HB4 := Lib.hid (HB3.out.trans (hb.mono (by omega)))
  replace x1 := keep hb x1
  replace x2 := keep hb x2
  replace x3 := keep hb x3
  replace x4 := keep hb x4
  replace y2 := keep hb y2
  replace y3 := keep hb y3
  have hz4 : w1.heap.size < w4.heap.size := World.block_lt_of_cell? _ _ y2
  clear hb
  go_wp2
  go_ret
  refine ⟨ret_str ?_, HB4.out⟩
  rw [hL.out]
  show bs (opN k) ++ bs (regL a) ++ bs (numL (sgn imm)) = _
  rw [bs_append, bs_append]
set_option maxHeartbeats 2000000 in
theorem line_tt2 (k : Nat) (a b imm : Int) (w : World) (hk : k < 28) (hE : Env w) (h : right k a b imm = true) (hA : opA k = true) (hB : opB k = true) (hI : opI k = 2) :
    Calls Tryd.prog 58 #[.agg #[.int .i64 k, .int .i64 a, .int .i64 b, .int .i64 imm]] w fun e w' => e = .returned (.string (bs (lineL k a b imm))) ∧ Below w.heap.size w w' := by
  have hL := Lib.hid (show lineL k a b imm = opN k ++ regL a ++ regL b ++ regL imm by simp [lineL, immL, hA, hB, hI])
  obtain ⟨⟨g0, h0⟩, ⟨g1, h1⟩, ⟨g2, h2⟩, ⟨g3, h3⟩⟩ := right_bounds h
  have hs0 := opS_size k hk
  have hs1 := regL_size a (by omega) (by omega)
  have hs2 := regL_size b (by omega) (by omega)
  have hs3 := regL_size imm (by omega) (by omega)
  have hs4 := numL_size imm (by omega) (by omega)
  have sb := sgn_bounds imm
  have hs5 := numL_size (sgn imm) (by omega) (by omega)
  have HE := Lib.hid hE
  clear hE
  go_enter Tryd.func58, Tryd.ntmps58
  go_wp2_with fail
  refine (hasW_any _ _ _ _ _ (HE.out.1.box _)).mono ?_
  rintro e w1 ⟨rfl, hb⟩
  have HE1 := Lib.hid ((HE.out.box _).kept hb)
  have z1 : w1.cell? ⟨w.heap.size, 0, none⟩ = some (.int .i64 k) := keep hb (by simp)
  have z2 : w1.cell? ⟨w.heap.size, 1, none⟩ = some (.int .i64 a) := keep hb (by simp)
  have z3 : w1.cell? ⟨w.heap.size, 2, none⟩ = some (.int .i64 b) := keep hb (by simp)
  have z4 : w1.cell? ⟨w.heap.size, 3, none⟩ = some (.int .i64 imm) := keep hb (by simp)
  obtain ⟨c0, c1, c2, c3⟩ := HE1.out.1 k hk
  rw [hA] at c1
  rw [hB] at c2
  rw [hI] at c3
  have hz : 0 < w1.heap.size := World.block_lt_of_cell? _ _ c0
  have hz2 : w.heap.size < w1.heap.size := World.block_lt_of_cell? _ _ z1
  have HB := Lib.hid ((((Below.refl _ _).alloc (Nat.le_refl _) _).trans (hb.mono (by simp)) : Below w.heap.size w w1).alloc (by omega) (.cells #[.string (opS k), .bool true, .bool true, .int .i64 2] 88))
  clear hb hA hB hI
  go_wp2_with fail
  refine (regText_any _ _ (HE1.out.box _) (by omega) (by omega)).mono ?_
  rintro e w2 ⟨rfl, hb⟩
  have HE2 := Lib.hid ((HE1.out.box _).kept hb)
  have HB2 := Lib.hid (HB.out.trans (hb.mono (by simp; omega)))
  have x1 : w2.cell? ⟨w.heap.size, 0, none⟩ = some (.int .i64 k) := keep hb ((World.cell?_alloc_lt _ _ _ hz2).trans z1)
  have x2 : w2.cell? ⟨w.heap.size, 1, none⟩ = some (.int .i64 a) := keep hb ((World.cell?_alloc_lt _ _ _ hz2).trans z2)
  have x3 : w2.cell? ⟨w.heap.size, 2, none⟩ = some (.int .i64 b) := keep hb ((World.cell?_alloc_lt _ _ _ hz2).trans z3)
  have x4 : w2.cell? ⟨w.heap.size, 3, none⟩ = some (.int .i64 imm) := keep hb ((World.cell?_alloc_lt _ _ _ hz2).trans z4)
  have y2 : w2.cell? ⟨w1.heap.size, 2, none⟩ = some (.bool true) := keep hb (by simp)
  have y3 : w2.cell? ⟨w1.heap.size, 3, none⟩ = some (.int .i64 2) := keep hb (by simp)
  have hz2 : w1.heap.size < w2.heap.size := World.block_lt_of_cell? _ _ y2
  clear hb c0 c1 c2 c3 z1 z2 z3 z4
  go_wp2_with fail
  refine (regText_any _ _ HE2.out (by omega) (by omega)).mono ?_
  rintro e w3 ⟨rfl, hb⟩
  have HE3 := Lib.hid (HE2.out.kept hb)
  have HB3 := Lib.hid (HB2.out.trans (hb.mono (by omega)))
  replace x1 := keep hb x1
  replace x2 := keep hb x2
  replace x3 := keep hb x3
  replace x4 := keep hb x4
  replace y2 := keep hb y2
  replace y3 := keep hb y3
  have hz3 : w1.heap.size < w3.heap.size := World.block_lt_of_cell? _ _ y2
  clear hb
  go_wp2_with fail
  refine (regText_any _ _ HE3.out (by omega) (by omega)).mono ?_
  rintro e w4 ⟨rfl, hb⟩
  have HE4 := Lib.hid (HE3.out.kept hb)
  have HB4 := Lib.hid (HB3.out.trans (hb.mono (by omega)))
  replace x1 := keep hb x1
  replace x2 := keep hb x2
  replace x3 := keep hb x3
  replace x4 := keep hb x4
  replace y2 := keep hb y2
  replace y3 := keep hb y3
  have hz4 : w1.heap.size < w4.heap.size := World.block_lt_of_cell? _ _ y2
  clear hb
  go_wp2
  go_ret
  refine ⟨ret_str ?_, HB4.out⟩
  rw [hL.out]
  show bs (opN k) ++ bs (regL a) ++ bs (regL b) ++ bs (regL imm) = _
  rw [bs_append, bs_append, bs_append]
set_option maxHeartbeats 2000000 in
theorem line_tt3 (k : Nat) (a b imm : Int) (w : World) (hk : k < 28) (hE : Env w) (h : right k a b imm = true) (hA : opA k = true) (hB : opB k = true) (hI : opI k = 3) :
    Calls Tryd.prog 58 #[.agg #[.int .i64 k, .int .i64 a, .int .i64 b, .int .i64 imm]] w fun e w' => e = .returned (.string (bs (lineL k a b imm))) ∧ Below w.heap.size w w' := by
  have hL := Lib.hid (show lineL k a b imm = opN k ++ regL a ++ regL b ++ numL (sgn imm) by simp [lineL, immL, hA, hB, hI])
  obtain ⟨⟨g0, h0⟩, ⟨g1, h1⟩, ⟨g2, h2⟩, ⟨g3, h3⟩⟩ := right_bounds h
  have hs0 := opS_size k hk
  have hs1 := regL_size a (by omega) (by omega)
  have hs2 := regL_size b (by omega) (by omega)
  have hs3 := regL_size imm (by omega) (by omega)
  have hs4 := numL_size imm (by omega) (by omega)
  have sb := sgn_bounds imm
  have hs5 := numL_size (sgn imm) (by omega) (by omega)
  have HE := Lib.hid hE
  clear hE
  go_enter Tryd.func58, Tryd.ntmps58
  go_wp2_with fail
  refine (hasW_any _ _ _ _ _ (HE.out.1.box _)).mono ?_
  rintro e w1 ⟨rfl, hb⟩
  have HE1 := Lib.hid ((HE.out.box _).kept hb)
  have z1 : w1.cell? ⟨w.heap.size, 0, none⟩ = some (.int .i64 k) := keep hb (by simp)
  have z2 : w1.cell? ⟨w.heap.size, 1, none⟩ = some (.int .i64 a) := keep hb (by simp)
  have z3 : w1.cell? ⟨w.heap.size, 2, none⟩ = some (.int .i64 b) := keep hb (by simp)
  have z4 : w1.cell? ⟨w.heap.size, 3, none⟩ = some (.int .i64 imm) := keep hb (by simp)
  obtain ⟨c0, c1, c2, c3⟩ := HE1.out.1 k hk
  rw [hA] at c1
  rw [hB] at c2
  rw [hI] at c3
  have hz : 0 < w1.heap.size := World.block_lt_of_cell? _ _ c0
  have hz2 : w.heap.size < w1.heap.size := World.block_lt_of_cell? _ _ z1
  have HB := Lib.hid ((((Below.refl _ _).alloc (Nat.le_refl _) _).trans (hb.mono (by simp)) : Below w.heap.size w w1).alloc (by omega) (.cells #[.string (opS k), .bool true, .bool true, .int .i64 3] 88))
  clear hb hA hB hI
  go_wp2_with fail
  refine (regText_any _ _ (HE1.out.box _) (by omega) (by omega)).mono ?_
  rintro e w2 ⟨rfl, hb⟩
  have HE2 := Lib.hid ((HE1.out.box _).kept hb)
  have HB2 := Lib.hid (HB.out.trans (hb.mono (by simp; omega)))
  have x1 : w2.cell? ⟨w.heap.size, 0, none⟩ = some (.int .i64 k) := keep hb ((World.cell?_alloc_lt _ _ _ hz2).trans z1)
  have x2 : w2.cell? ⟨w.heap.size, 1, none⟩ = some (.int .i64 a) := keep hb ((World.cell?_alloc_lt _ _ _ hz2).trans z2)
  have x3 : w2.cell? ⟨w.heap.size, 2, none⟩ = some (.int .i64 b) := keep hb ((World.cell?_alloc_lt _ _ _ hz2).trans z3)
  have x4 : w2.cell? ⟨w.heap.size, 3, none⟩ = some (.int .i64 imm) := keep hb ((World.cell?_alloc_lt _ _ _ hz2).trans z4)
  have y2 : w2.cell? ⟨w1.heap.size, 2, none⟩ = some (.bool true) := keep hb (by simp)
  have y3 : w2.cell? ⟨w1.heap.size, 3, none⟩ = some (.int .i64 3) := keep hb (by simp)
  have hz2 : w1.heap.size < w2.heap.size := World.block_lt_of_cell? _ _ y2
  clear hb c0 c1 c2 c3 z1 z2 z3 z4
  go_wp2_with fail
  refine (regText_any _ _ HE2.out (by omega) (by omega)).mono ?_
  rintro e w3 ⟨rfl, hb⟩
  have HE3 := Lib.hid (HE2.out.kept hb)
  have HB3 := Lib.hid (HB2.out.trans (hb.mono (by omega)))
  replace x1 := keep hb x1
  replace x2 := keep hb x2
  replace x3 := keep hb x3
  replace x4 := keep hb x4
  replace y2 := keep hb y2
  replace y3 := keep hb y3
  have hz3 : w1.heap.size < w3.heap.size := World.block_lt_of_cell? _ _ y2
  clear hb
  go_wp2_with fail
  refine (signed_any _ _ _ _ _).mono ?_
  rintro e w4 ⟨rfl, hb⟩
  have HE4 := Lib.hid (HE3.out.kept hb)
  have HB4 := Lib.hid (HB3.out.trans (hb.mono (by omega)))
  replace x1 := keep hb x1
  replace x2 := keep hb x2
  replace x3 := keep hb x3
  replace x4 := keep hb x4
  replace y2 := keep hb y2
  replace y3 := keep hb y3
  have hz4 : w1.heap.size < w4.heap.size := World.block_lt_of_cell? _ _ y2
  clear hb
  go_wp2_with fail
  refine (numberText_any _ _ HE4.out (by omega) (by omega)).mono ?_
  rintro e w5 ⟨rfl, hb⟩
  have HE5 := Lib.hid (HE4.out.kept hb)
  have HB5 := Lib.hid (HB4.out.trans (hb.mono (by omega)))
  replace x1 := keep hb x1
  replace x2 := keep hb x2
  replace x3 := keep hb x3
  replace x4 := keep hb x4
  replace y2 := keep hb y2
  replace y3 := keep hb y3
  have hz5 : w1.heap.size < w5.heap.size := World.block_lt_of_cell? _ _ y2
  clear hb
  go_wp2
  go_ret
  refine ⟨ret_str ?_, HB5.out⟩
  rw [hL.out]
  show bs (opN k) ++ bs (regL a) ++ bs (regL b) ++ bs (numL (sgn imm)) = _
  rw [bs_append, bs_append, bs_append]
theorem line_yes (op a b imm : Int) (w : World) (hE : Env w) (h : right op a b imm = true) :
    Calls Tryd.prog 58 #[.agg #[.int .i64 op, .int .i64 a, .int .i64 b, .int .i64 imm]] w fun e w' => e = .returned (.string (bs (lineL op a b imm))) ∧ Below w.heap.size w w' := by
  obtain ⟨⟨g0, h0⟩, _⟩ := right_bounds h
  obtain ⟨k, rfl⟩ := Int.eq_ofNat_of_zero_le g0
  have hk : k < 28 := by omega
  rcases combos k hk with ⟨hA, hB, hI | hI⟩ | ⟨hA, hB, hI | hI | hI⟩ | ⟨hA, hB, hI | hI⟩
  · exact line_ff0 k a b imm w hk hE h hA hB hI
  · exact line_ff1 k a b imm w hk hE h hA hB hI
  · exact line_tf0 k a b imm w hk hE h hA hB hI
  · exact line_tf1 k a b imm w hk hE h hA hB hI
  · exact line_tf3 k a b imm w hk hE h hA hB hI
  · exact line_tt2 k a b imm w hk hE h hA hB hI
  · exact line_tt3 k a b imm w hk hE h hA hB hI
/-- What Line answers. -/
def lineV (op a b imm : Int) : List UInt8 := if right op a b imm = true then lineL op a b imm else []
theorem line_any (op a b imm : Int) (w : World) (hE : Env w) :
    Calls Tryd.prog 58 #[.agg #[.int .i64 op, .int .i64 a, .int .i64 b, .int .i64 imm]] w fun e w' => e = .returned (.string (bs (lineV op a b imm))) ∧ Below w.heap.size w w' := by
  unfold lineV
  cases h : right op a b imm
  · exact line_no op a b imm w hE h
  · exact line_yes op a b imm w hE h
end Go.Proofs.YtlfhcnpbgbnadaaDoor
