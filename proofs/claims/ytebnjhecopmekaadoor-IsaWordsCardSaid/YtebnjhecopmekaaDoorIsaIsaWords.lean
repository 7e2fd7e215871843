/-
  PROVED HERE: whatever the instruction x and the word w are, warderlaw02.IsaWords answers true (Encode, Decode, Line and Signed of package isa answer what the document's own answer; what has a word comes back from it, and from its text), and each argument reads behind the call as it read before. Conditions: none; the package-level variables start as the program's text lays them (the card ties them to that text).
-/
import Derived.Test.YtebnjhecopmekaaDoorIsaAlive
import Derived.Test.YtebnjhecopmekaaDoorIsaRLine
import Derived.Test.YtebnjhecopmekaaDoorIsaLaid
import Derived.Test.YtebnjhecopmekaaDoorIsaOpen
import Derived.Test.YtebnjhecopmekaaDoorTie
import Derived.ChangeOld
import Derived.ChangeMaps5
import Derived.Lib.QuietBelow
namespace Go.Proofs.YtebnjhecopmekaaDoor.isaWords
open Go.ChangeShapes Go.WideShapes Go.ChangeAt Go.RowKit Isa Go.ChangeMaps Go.Sort

theorem encodeE (op a b imm z : Int) (c : Bool) (w : World) (hE : Env w) (hc : right op a b imm = c) (hz : c = true → enc op a b imm = z) (h0 : c = false → z = 0) :
    Calls Tryd.prog 9 #[.agg #[.int .i64 op, .int .i64 a, .int .i64 b, .int .i64 imm]] w fun e w' => e = .returned (.tuple #[.int .u32 z, .bool c]) ∧ Below w.heap.size w w' := by
  cases c
  · rw [h0 rfl]; exact encode_no op a b imm w hE.1 hc
  · rw [← hz rfl]; exact encode_yes op a b imm w hE.1 hc
theorem rencodeE (op a b imm z : Int) (c : Bool) (w : World) (hc : right op a b imm = c) (hz : c = true → enc op a b imm = z) (h0 : c = false → z = 0) :
    Calls Tryd.prog 10 #[.agg #[.int .i64 op, .int .i64 a, .int .i64 b, .int .i64 imm]] w fun e w' => e = .returned (.tuple #[.int .u32 z, .bool c]) ∧ Below w.heap.size w w' := by
  cases c
  · rw [h0 rfl]; exact rencode_no op a b imm w hc
  · rw [← hz rfl]; exact rencode_yes op a b imm w hc
/-- The four numbers that Decode answers. -/
def q1 (v : Int) : Int := if decR v = true then dOp v else 0
def q2 (v : Int) : Int := if decR v = true then dA v else 0
def q3 (v : Int) : Int := if decR v = true then dB v else 0
def q4 (v : Int) : Int := if decR v = true then dI v else 0
theorem decV_q (v : Int) : decV v = .tuple #[.agg #[.int .i64 (q1 v), .int .i64 (q2 v), .int .i64 (q3 v), .int .i64 (q4 v)], .bool (decR v)] := by
  cases h : decR v
  · rw [decV_no h]; simp [q1, q2, q3, q4, h]
  · rw [decV_yes h]; simp [q1, q2, q3, q4, h]
theorem decodeQ (v : Int) (w : World) (hE : Env w) (h0 : 0 ≤ v) (h1 : v < 4294967296) :
    Calls Tryd.prog 12 #[.int .u32 v] w fun e w' => e = .returned (.tuple #[.agg #[.int .i64 (q1 v), .int .i64 (q2 v), .int .i64 (q3 v), .int .i64 (q4 v)], .bool (decR v)]) ∧ Below w.heap.size w w' := by
  have := decode_any v w hE.1 h0 h1
  rw [decV_q] at this; exact this
theorem rdecodeQ (v : Int) (w : World) (h0 : 0 ≤ v) (h1 : v < 4294967296) :
    Calls Tryd.prog 13 #[.int .u32 v] w fun e w' => e = .returned (.tuple #[.agg #[.int .i64 (q1 v), .int .i64 (q2 v), .int .i64 (q3 v), .int .i64 (q4 v)], .bool (decR v)]) ∧ Below w.heap.size w w' := by
  have := rdecode_any v w h0 h1
  rw [decV_q] at this; exact this
theorem lineE (op a b imm : Int) (L : List UInt8) (w : World) (hE : Env w) (h : lineV op a b imm = L) :
    Calls Tryd.prog 14 #[.agg #[.int .i64 op, .int .i64 a, .int .i64 b, .int .i64 imm]] w fun e w' => e = .returned (.string (bs L)) ∧ Below w.heap.size w w' := by
  subst h; exact line_any op a b imm w hE
theorem rlineE (op a b imm : Int) (L : List UInt8) (w : World) (h : lineV op a b imm = L) :
    Calls Tryd.prog 15 #[.agg #[.int .i64 op, .int .i64 a, .int .i64 b, .int .i64 imm]] w fun e w' => e = .returned (.string (bs L)) ∧ Below w.heap.size w w' := by
  subst h; exact rline_any op a b imm w
theorem readE (L : List UInt8) (v : Value) (w : World) (hE : Env w) (hl : L.length ≤ 1000) (h : readV L = v) :
    Calls Tryd.prog 18 #[.string (bs L)] w fun e w' => e = .returned v ∧ Below w.heap.size w w' := by
  subst h; exact read_any (bs L) w hE (by rw [bs_size]; omega)
theorem decodeE (v : Int) (r : Value) (w : World) (hE : Env w) (h0 : 0 ≤ v) (h1 : v < 4294967296) (h : decV v = r) :
    Calls Tryd.prog 12 #[.int .u32 v] w fun e w' => e = .returned r ∧ Below w.heap.size w w' := by
  subst h; exact decode_any v w hE.1 h0 h1
set_option maxHeartbeats 8000000 in
set_option maxRecDepth 100000 in
theorem walk_no (op a b imm v : Int) (w : World) (hE : Env w) (v0 : 0 ≤ v) (v1 : v < 4294967296) (hr : right op a b imm = false) :
    Calls Tryd.prog 3 #[.agg #[.int .i64 op, .int .i64 a, .int .i64 b, .int .i64 imm], .int .u32 v] w fun e w' => e = .returned (.bool true) ∧ Below w.heap.size w w' := by
  have HE := Lib.hid hE
  have HR := Lib.hid hr
  have HL := Lib.hid (show lineV op a b imm = [] by unfold lineV; rw [hr]; rfl)
  clear hE hr
  go_enter Tryd.func3, Tryd.ntmps3
  go_wp2_with fail
  refine (alive_any _ (HE.out.box _)).mono ?_
  rintro e w1 ⟨rfl, hb⟩
  have X1 := Lib.hid ((Box4.new w (.int .i64 op) (.int .i64 a) (.int .i64 b) (.int .i64 imm) 23).kept hb)
  have B1 := Lib.hid ((((Below.refl _ _).alloc (Nat.le_refl _) _).trans (hb.mono (by simp))) : Below w.heap.size w w1)
  obtain ⟨⟨x0, x1, x2, x3⟩, _⟩ := X1.out
  clear hb
  go_wp2_with fail
  refine (encodeE _ _ _ _ 0 false _ (HE.out.kept B1.out) HR.out (fun h => by cases h) (fun _ => rfl)).mono ?_
  rintro e w2 ⟨rfl, hb⟩
  have X2 := Lib.hid (X1.out.kept hb)
  have B2 := Lib.hid (B1.out.trans (hb.mono B1.out.size))
  clear hb x0 x1 x2 x3
  obtain ⟨⟨x0, x1, x2, x3⟩, _⟩ := X2.out
  go_wp2_with fail
  refine (of_any _ _ _ _ _).mono ?_
  rintro e w3 ⟨rfl, hb⟩
  have X3 := Lib.hid (X2.out.kept hb)
  have B3 := Lib.hid (B2.out.trans (hb.mono B2.out.size))
  clear hb x0 x1 x2 x3
  go_wp2_with fail
  refine (rencodeE _ _ _ _ 0 false _ HR.out (fun h => by cases h) (fun _ => rfl)).mono ?_
  rintro e w4 ⟨rfl, hb⟩
  have X4 := Lib.hid (X3.out.kept hb)
  have B4 := Lib.hid (B3.out.trans (hb.mono B3.out.size))
  clear hb
  go_wp2_with fail
  refine (decodeQ _ _ (HE.out.kept B4.out) v0 v1).mono ?_
  rintro e w5 ⟨rfl, hb⟩
  have X5 := Lib.hid (X4.out.kept hb)
  have B5 := Lib.hid (B4.out.trans (hb.mono B4.out.size))
  clear hb
  go_wp2_with fail
  refine (rdecodeQ _ _ v0 v1).mono ?_
  rintro e w6 ⟨rfl, hb⟩
  have X6 := Lib.hid ((X5.out.box _).kept hb)
  have Y6 := Lib.hid ((Box4.new w5 (.int .i64 (q1 v)) (.int .i64 (q2 v)) (.int .i64 (q3 v)) (.int .i64 (q4 v)) 23).kept hb)
  have B6 := Lib.hid ((B5.out.alloc B5.out.size _).trans (hb.mono (B5.out.alloc B5.out.size _).size))
  have s6 := X6.out.lt
  obtain ⟨⟨x0, x1, x2, x3⟩, _⟩ := X6.out
  clear hb
  go_wp2_with fail
  refine (lineE _ _ _ _ _ _ ((HE.out.kept B6.out).box _) HL.out).mono ?_
  rintro e w7 ⟨rfl, hb⟩
  have X7 := Lib.hid ((X6.out.box _).kept hb)
  have Y7 := Lib.hid ((Y6.out.box _).kept hb)
  have Z7 := Lib.hid ((Box4.new w6 (.int .i64 (q1 v)) (.int .i64 (q2 v)) (.int .i64 (q3 v)) (.int .i64 (q4 v)) 29).kept hb)
  have B7 := Lib.hid ((B6.out.alloc B6.out.size _).trans (hb.mono (B6.out.alloc B6.out.size _).size))
  clear hb x0 x1 x2 x3 s6
  go_wp2_with fail
  obtain ⟨⟨x0, x1, x2, x3⟩, _⟩ := X7.out
  obtain ⟨⟨y0, y1, y2, y3⟩, _⟩ := Y7.out
  obtain ⟨⟨z0, z1, z2, z3⟩, _⟩ := Z7.out
  have kx0 := cell_regrown x0
  have kx1 := cell_regrown x1
  have kx2 := cell_regrown x2
  have kx3 := cell_regrown x3
  have ky0 := cell_regrown y0
  have ky1 := cell_regrown y1
  have ky2 := cell_regrown y2
  have ky3 := cell_regrown y3
  have kz0 := cell_regrown z0
  have kz1 := cell_regrown z1
  have kz2 := cell_regrown z2
  have kz3 := cell_regrown z3
  clear x0 x1 x2 x3 y0 y1 y2 y3 z0 z1 z2 z3
  refine wp_region_quiet_below (by kernel_rfl) (by kernel_rfl) ?_
  repeat (quiet_step (first
    | (go_at_call 11; exact Calls.regrown_of (of_any _ _ _ _ _))
    | (go_at_call 15; exact Calls.regrown_of (rlineE _ _ _ _ _ _ HL.out))
    | (go_at_call 16; exact Calls.regrown_of (signed_any _ _ _ _ _))
    | (go_at_call 17; exact Calls.regrown_of (rsigned_any _ _ _ _ _))))
  refine wpQuiet_nil ?_
  intro _ hw'
  obtain ⟨⟨dq, osq⟩, hw''⟩ := hw'
  subst hw''
  clear kx0 kx1 kx2 kx3 ky0 ky1 ky2 ky3 kz0 kz1 kz2 kz3
  have hb := below_regrown w7 dq osq
  generalize grow (redrawn w7 dq) osq = w8 at *
  have X8 := Lib.hid (X7.out.kept hb)
  have B8 := Lib.hid (B7.out.trans (hb.mono B7.out.size))
  clear hb
  go_wp2_with fail
  refine (decodeQ _ _ (HE.out.kept B8.out) (by decide) (by decide)).mono ?_
  rintro e w9 ⟨rfl, hb⟩
  have B9 := Lib.hid (B8.out.trans (hb.mono B8.out.size))
  clear hb
  go_wp2_with fail
  refine (readE _ _ _ ((HE.out.kept B9.out).box _) (by decide) (show readV [] = .tuple #[.agg #[.int .i64 0, .int .i64 0, .int .i64 0, .int .i64 0], .bool false] from rfl)).mono ?_
  rintro e w10 ⟨rfl, hb⟩
  have B10 := Lib.hid ((B9.out.alloc B9.out.size _).trans (hb.mono (B9.out.alloc B9.out.size _).size))
  clear hb
  go_wp2
  go_ret
  exact ⟨rfl, B10.out.alloc B10.out.size _⟩
set_option maxHeartbeats 8000000 in
set_option maxRecDepth 100000 in
theorem walk_yes (op a b imm v : Int) (w : World) (hE : Env w) (v0 : 0 ≤ v) (v1 : v < 4294967296) (hr : right op a b imm = true) :
    Calls Tryd.prog 3 #[.agg #[.int .i64 op, .int .i64 a, .int .i64 b, .int .i64 imm], .int .u32 v] w fun e w' => e = .returned (.bool true) ∧ Below w.heap.size w w' := by
  have HE := Lib.hid hE
  have HR := Lib.hid hr
  have hEb := enc_bounds hr
  have HL := Lib.hid (show lineV op a b imm = lineL op a b imm by unfold lineV; rw [hr]; rfl)
  have hll := lineL_len hr
  have HV := Lib.hid (show readV (lineL op a b imm) = .tuple #[.agg #[.int .i64 op, .int .i64 a, .int .i64 b, .int .i64 imm], .bool true] by unfold readV; rw [readO_of _ _ _ _ hr])
  have HD := Lib.hid (show decV (enc op a b imm) = .tuple #[.agg #[.int .i64 op, .int .i64 a, .int .i64 b, .int .i64 imm], .bool true] by
    obtain ⟨e1, e2, e3, e4⟩ := d_enc hr
    rw [decV_yes (decR_enc hr), e1, e2, e3, e4])
  obtain ⟨hE0, hE1⟩ := hEb
  generalize hz : enc op a b imm = Z at *
  generalize hl : lineL op a b imm = L at *
  have HZ := Lib.hid hz
  clear hE hr hz hl
  go_enter Tryd.func3, Tryd.ntmps3
  go_wp2_with fail
  refine (alive_any _ (HE.out.box _)).mono ?_
  rintro e w1 ⟨rfl, hb⟩
  have X1 := Lib.hid ((Box4.new w (.int .i64 op) (.int .i64 a) (.int .i64 b) (.int .i64 imm) 23).kept hb)
  have B1 := Lib.hid ((((Below.refl _ _).alloc (Nat.le_refl _) _).trans (hb.mono (by simp))) : Below w.heap.size w w1)
  obtain ⟨⟨x0, x1, x2, x3⟩, _⟩ := X1.out
  clear hb
  go_wp2_with fail
  refine (encodeE _ _ _ _ Z true _ (HE.out.kept B1.out) HR.out (fun _ => HZ.out) (fun h => by cases h)).mono ?_
  rintro e w2 ⟨rfl, hb⟩
  have X2 := Lib.hid (X1.out.kept hb)
  have B2 := Lib.hid (B1.out.trans (hb.mono B1.out.size))
  clear hb x0 x1 x2 x3
  obtain ⟨⟨x0, x1, x2, x3⟩, _⟩ := X2.out
  go_wp2_with fail
  refine (of_any _ _ _ _ _).mono ?_
  rintro e w3 ⟨rfl, hb⟩
  have X3 := Lib.hid (X2.out.kept hb)
  have B3 := Lib.hid (B2.out.trans (hb.mono B2.out.size))
  clear hb x0 x1 x2 x3
  go_wp2_with fail
  refine (rencodeE _ _ _ _ Z true _ HR.out (fun _ => HZ.out) (fun h => by cases h)).mono ?_
  rintro e w4 ⟨rfl, hb⟩
  have X4 := Lib.hid (X3.out.kept hb)
  have B4 := Lib.hid (B3.out.trans (hb.mono B3.out.size))
  clear hb
  go_wp2_with fail
  refine (decodeQ _ _ (HE.out.kept B4.out) v0 v1).mono ?_
  rintro e w5 ⟨rfl, hb⟩
  have X5 := Lib.hid (X4.out.kept hb)
  have B5 := Lib.hid (B4.out.trans (hb.mono B4.out.size))
  clear hb
  go_wp2_with fail
  refine (rdecodeQ _ _ v0 v1).mono ?_
  rintro e w6 ⟨rfl, hb⟩
  have X6 := Lib.hid ((X5.out.box _).kept hb)
  have Y6 := Lib.hid ((Box4.new w5 (.int .i64 (q1 v)) (.int .i64 (q2 v)) (.int .i64 (q3 v)) (.int .i64 (q4 v)) 23).kept hb)
  have B6 := Lib.hid ((B5.out.alloc B5.out.size _).trans (hb.mono (B5.out.alloc B5.out.size _).size))
  have s6 := X6.out.lt
  obtain ⟨⟨x0, x1, x2, x3⟩, _⟩ := X6.out
  clear hb
  go_wp2_with fail
  refine (lineE _ _ _ _ _ _ ((HE.out.kept B6.out).box _) HL.out).mono ?_
  rintro e w7 ⟨rfl, hb⟩
  have X7 := Lib.hid ((X6.out.box _).kept hb)
  have Y7 := Lib.hid ((Y6.out.box _).kept hb)
  have Z7 := Lib.hid ((Box4.new w6 (.int .i64 (q1 v)) (.int .i64 (q2 v)) (.int .i64 (q3 v)) (.int .i64 (q4 v)) 29).kept hb)
  have B7 := Lib.hid ((B6.out.alloc B6.out.size _).trans (hb.mono (B6.out.alloc B6.out.size _).size))
  clear hb x0 x1 x2 x3 s6
  go_wp2_with fail
  obtain ⟨⟨x0, x1, x2, x3⟩, _⟩ := X7.out
  obtain ⟨⟨y0, y1, y2, y3⟩, _⟩ := Y7.out
  obtain ⟨⟨z0, z1, z2, z3⟩, _⟩ := Z7.out
  have kx0 := cell_regrown x0
  have kx1 := cell_regrown x1
  have kx2 := cell_regrown x2
  have kx3 := cell_regrown x3
  have ky0 := cell_regrown y0
  have ky1 := cell_regrown y1
  have ky2 := cell_regrown y2
  have ky3 := cell_regrown y3
  have kz0 := cell_regrown z0
  have kz1 := cell_regrown z1
  have kz2 := cell_regrown z2
  have kz3 := cell_regrown z3
  clear x0 x1 x2 x3 y0 y1 y2 y3 z0 z1 z2 z3
  refine wp_region_quiet_below (by kernel_rfl) (by kernel_rfl) ?_
  repeat (quiet_step (first
    | (go_at_call 11; exact Calls.regrown_of (of_any _ _ _ _ _))
    | (go_at_call 15; exact Calls.regrown_of (rlineE _ _ _ _ _ _ HL.out))
    | (go_at_call 16; exact Calls.regrown_of (signed_any _ _ _ _ _))
    | (go_at_call 17; exact Calls.regrown_of (rsigned_any _ _ _ _ _))))
  refine wpQuiet_nil ?_
  intro _ hw'
  obtain ⟨⟨dq, osq⟩, hw''⟩ := hw'
  subst hw''
  clear kx0 kx1 kx2 kx3 ky0 ky1 ky2 ky3 kz0 kz1 kz2 kz3
  have hb := below_regrown w7 dq osq
  generalize grow (redrawn w7 dq) osq = w8 at *
  have X8 := Lib.hid (X7.out.kept hb)
  have B8 := Lib.hid (B7.out.trans (hb.mono B7.out.size))
  clear hb
  go_wp2_with fail
  refine (decodeE _ _ _ (HE.out.kept B8.out) hE0 hE1 HD.out).mono ?_
  rintro e w9 ⟨rfl, hb⟩
  have X9 := Lib.hid (X8.out.kept hb)
  have B9 := Lib.hid (B8.out.trans (hb.mono B8.out.size))
  clear hb
  go_wp2_with fail
  refine (readE _ _ _ ((HE.out.kept B9.out).box _) (by omega) HV.out).mono ?_
  rintro e w10 ⟨rfl, hb⟩
  have X10 := Lib.hid ((X9.out.box _).kept hb)
  have P10 := Lib.hid ((Box4.new w9 (.int .i64 op) (.int .i64 a) (.int .i64 b) (.int .i64 imm) 23).kept hb)
  have B10 := Lib.hid ((B9.out.alloc B9.out.size _).trans (hb.mono (B9.out.alloc B9.out.size _).size))
  have l1 := X10.out.lt
  have l2 := P10.out.lt
  obtain ⟨⟨x0, x1, x2, x3⟩, _⟩ := X10.out
  obtain ⟨⟨p0, p1, p2, p3⟩, _⟩ := P10.out
  clear hb
  go_wp2
  go_ret
  exact ⟨rfl, B10.out.alloc B10.out.size _⟩
theorem walk (op a b imm v : Int) (w : World) (hE : Env w) (v0 : 0 ≤ v) (v1 : v < 4294967296) :
    Calls Tryd.prog 3 #[.agg #[.int .i64 op, .int .i64 a, .int .i64 b, .int .i64 imm], .int .u32 v] w fun e w' => e = .returned (.bool true) ∧ Below w.heap.size w w' := by
  cases hr : right op a b imm
  · exact walk_no op a b imm v w hE v0 v1 hr
  · exact walk_yes op a b imm v w hE v0 v1 hr

set_option maxRecDepth 100000 in
theorem lifted (os : Os) (started : os.Started) (H : Type) (enc : TypeId × Value → H) :
    ReturnsInHanded {} Tryd.checked os 3 .any (fun w args => (Rows.isaWordsSpec.pre enc Tryd.prog Tryd.f3 [] false w args ∧ laidMetH Tryd.prog laidL w) ∧ sizedMet enc Tryd.prog Tryd.f3 (OpenSpec.ofChange Rows.isaWordsSpec) false w args)
      (Rows.isaWordsSpec.post enc Tryd.prog Tryd.f3 false true false false) := by
  refine returnsInHanded_of_change_and (C := Tryd.checked) (X := fun w _ => laidMetH Tryd.prog laidL w) (fun _ _ _ hh h => h.of_heap hh) own started (by kernel_rfl) Tryd.func3
    (ChangeSpec.witness_shaped (enc := enc) (C := Tryd.checked) (os := os) (X := fun w _ => laidMetH Tryd.prog laidL w) false (World.doorLaid Tryd.prog 4000 os) #[.agg #[.int .i64 0, .int .i64 0, .int .i64 0, .int .i64 0], .int .u32 0] 8 rfl (World.shaped_of_RefB (by kernel_rfl) (by kernel_rfl)) (by kernel_rfl) (by kernel_rfl) (by kernel_rfl) (door_met os _)) ?_
  intro W base args ds gs before hval0 hW _ _ hL _
  have hval : ∀ (j : Nat) t v, Tryd.f3.params[j]? = some t → args[j]? = some v → Value.okWide Tryd.prog W .any base t v := hval0
  have hW' := hW
  obtain ⟨p, q, hA0, hV, rfl, hfz, hnd⟩ := hW
  have hA : DataW.TrodAll enc Tryd.prog W 0 (fun _ => true) true Tryd.f3.params.toList args.toList ds p := hA0
  rw [Tryd.params3] at hA hval
  obtain ⟨v0, vs0, d0, ds0, p0, q0, hargs, rfl, rfl, h0, r0⟩ := trodAll_cons hA
  obtain ⟨v1, vs1, d1, ds1, p1, q1, rfl, rfl, rfl, h1, r1⟩ := trodAll_cons r0
  obtain ⟨rfl, rfl, rfl⟩ := trodAll_nil r1
  obtain rfl : args = #[v0, v1] := by cases args; simp_all
  obtain ⟨rfl, rfl⟩ := trodVars_none hV
  obtain ⟨o0, a0, b0, i0, rfl, rfl, rfl, w0⟩ := ins_open (hval 0 23 v0 rfl rfl) h0
  obtain ⟨x1, rfl, rfl, rfl, w1⟩ := open_int Tryd.underlying24 (hval 1 24 v1 rfl rfl) h1
  have hE := env_of hL
  clear hA0 hval0
  simp only [List.append_nil] at hW'
  refine (walk o0 a0 b0 i0 x1 W hE (bounds_u32 w1).1 (Int.lt_of_le_of_lt (bounds_u32 w1).2 (by decide))).mono fun e W' ⟨he, bel⟩ => ?_
  subst he
  exact ⟨_, rfl, _, _, _, [], [], [], hW', trodAll_mk1 (shut_bool Tryd.underlying4 _), (trodAll_cons_mk (ins_shut w0 _ _) (trodAll_cons_mk (shut_int Tryd.underlying24 w1) trodAll_mk0)), rfl, bel.frame _, fun h => by cases h⟩

theorem over : Rows.IsaWordsSaid :=
  OpenClaim.holds_of_wide 3 Tryd.f3 rfl rfl rfl rfl rfl rfl rfl ⟨rfl, rfl, rfl, rfl, rfl⟩ rfl rfl rfl rfl rfl (by kernel_rfl) Tryd.func3 (by kernel_rfl)
    (of_decide_eq_true (by kernel_rfl)) (by unfold Func.isWrapper; first | (rw [if_pos (by decide +kernel)]; kernel_rfl) | (rw [if_neg (by decide +kernel)]; exact ⟨rfl, rfl⟩))
    (fun os started H enc _ => lifted os started H enc)
end Go.Proofs.YtebnjhecopmekaaDoor.isaWords
namespace Go.Proofs.YtebnjhecopmekaaDoor
open Go
/-- The statement. -/
theorem isaWords_holds : Rows.IsaWordsCardSaid :=
  Claim7.holds_tied_plain_at .later [] [.data, .data, .data, .sentinel, .sentinel, .data] true _ true
    isaWords.over (fun _ h => by cases h) (by kernel_rfl) (fun _ h => by cases h) isaWords_row_tie rfl ⟨rfl, rfl⟩ (by kernel_rfl) rfl
    (fun f fn hf hfn => by
      obtain rfl : f = 3 := Option.some.inj ((show Tryd.prog.funcNamed "warder/warderlaw02.IsaWords" = some 3 by kernel_rfl).symm.trans hf) |>.symm
      obtain rfl : fn = Tryd.f3 := (Option.some.inj (Tryd.func3.symm.trans hfn)).symm
      exact ⟨by kernel_rfl, fun j t ht => by
        rw [Tryd.params3] at ht
        have hm : t ∈ [23, 24] := by simpa using Array.mem_of_getElem? ht
        have hall : ([23, 24].all fun u => !Tryd.prog.wantsStandIn u) = true := by kernel_rfl
        exact (show Tryd.prog.wantsStandIn t = false by simpa using List.all_eq_true.1 hall t hm)⟩)
    (by kernel_rfl)
#print axioms isaWords_holds
end Go.Proofs.YtebnjhecopmekaaDoor
