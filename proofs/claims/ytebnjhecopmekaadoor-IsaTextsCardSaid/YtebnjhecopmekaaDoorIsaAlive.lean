/-
  What each statement of layer 2 asks first, an instruction as word and as text, is answered with true; the conditions: the tables that the program's text lays lie so.
-/
import Derived.Test.YtebnjhecopmekaaDoorIsaMath
namespace Go.Proofs.YtebnjhecopmekaaDoor
open Go.RowKit Go.Shelf Isa

theorem read_c (w : World) (hE : Env w) :
    Calls Tryd.prog 18 #[.string ⟨#[97, 100, 100, 105, 32, 114, 49, 32, 114, 50, 32, 45, 49]⟩] w fun e w' => e = .returned (.tuple #[.agg #[.int .i64 11, .int .i64 1, .int .i64 2, .int .i64 65535], .bool true]) ∧ Below w.heap.size w w' := by
  refine (read_any _ w hE (by decide)).mono ?_
  rintro e w' ⟨rfl, hb⟩
  refine ⟨?_, hb⟩
  have : readO [97, 100, 100, 105, 32, 114, 49, 32, 114, 50, 32, 45, 49] = some (11, 1, 2, 65535) := by rw [← lit_addi]; exact readO_of _ _ _ _ r_addi
  show Ending.returned (readV [97, 100, 100, 105, 32, 114, 49, 32, 114, 50, 32, 45, 49]) = _
  unfold readV
  rw [this]
theorem encode_c (w : World) (hE : Env w) :
    Calls Tryd.prog 9 #[.agg #[.int .i64 11, .int .i64 1, .int .i64 2, .int .i64 65535]] w fun e w' => e = .returned (.tuple #[.int .u32 4294910219, .bool true]) ∧ Below w.heap.size w w' :=
  encode_yes 11 1 2 65535 w hE.1 r_addi
theorem decode_c (w : World) (hE : Env w) :
    Calls Tryd.prog 12 #[.int .u32 4294910219] w fun e w' => e = .returned (.tuple #[.agg #[.int .i64 11, .int .i64 1, .int .i64 2, .int .i64 65535], .bool true]) ∧ Below w.heap.size w w' := by
  refine (decode_any 4294910219 w hE.1 (by decide) (by decide)).mono ?_
  rintro e w' ⟨rfl, hb⟩
  exact ⟨by rw [decV_yes (by decide)]; rfl, hb⟩
theorem decode_c2 (w : World) (hE : Env w) :
    Calls Tryd.prog 12 #[.int .u32 28] w fun e w' => e = .returned (.tuple #[.agg #[.int .i64 0, .int .i64 0, .int .i64 0, .int .i64 0], .bool false]) ∧ Below w.heap.size w w' := by
  refine (decode_any 28 w hE.1 (by decide) (by decide)).mono ?_
  rintro e w' ⟨rfl, hb⟩
  exact ⟨by rw [decV_no (by decide)], hb⟩
/-- The bytes of the first text's words. -/
def zc (j : Nat) : Int := Wd.byteOf (fun i => [0, 459009].getD i 0) j
theorem rowAt_of {w : World} {g n : Nat} {zs : List Int} (hz : ∀ z ∈ zs, 0 ≤ z ∧ z < 4294967296) (h : w.rowIs g 5 n (fun j => .int .u8 (Wd.byteOf (fun i => zs.getD i 0) j))) : RowAt w g 0 n (Wd.byteOf (fun i => zs.getD i 0)) := by
  have hb : ∀ i, 0 ≤ zs.getD i 0 ∧ zs.getD i 0 < 4294967296 := by
    intro i
    by_cases hi : i < zs.length
    · have : zs.getD i 0 = zs[i] := by simp [List.getD, hi]
      rw [this]; exact hz _ (List.getElem_mem hi)
    · have : zs.getD i 0 = 0 := by simp [List.getD, List.getElem?_eq_none (by omega : zs.length ≤ i)]
      rw [this]; decide
  exact ⟨h.lt, fun j _ => byte_B8 _ j (hb _).1 (hb _).2, fun j hj => by rw [Nat.zero_add]; exact h.cell hj⟩
theorem asm_c (w : World) (hE : Env w) :
    Calls Tryd.prog 20 #[.string ⟨#[35, 32, 97, 10, 110, 111, 112, 10, 10, 108, 105, 32, 114, 49, 32, 55]⟩] w fun e w' => ∃ g, e = .returned (.tuple #[.slice (some ⟨g, 0, none⟩) 8 8, .int .i64 0, .int .i64 0]) ∧ RowAt w' g 0 8 zc ∧ Below w.heap.size w w' := by
  refine (asm_any _ w hE (by decide)).mono ?_
  rintro e w' ⟨⟨q, x, r, h1, _, h3, _⟩ | ⟨_, g, hg, rfl, hr⟩, hb⟩
  · have := clean_one x (by have h1' : linesFrom 1 [35, 32, 97, 10, 110, 111, 112, 10, 10, 108, 105, 32, 114, 49, 32, 55] = q ++ x :: r := h1; rw [h1']; simp)
    rw [this] at h3; cases h3
  · have hw : wordsOf (linesFrom 1 (⟨#[35, 32, 97, 10, 110, 111, 112, 10, 10, 108, 105, 32, 114, 49, 32, 55]⟩ : ByteArray).data.toList) = [0, 459009] := words_one
    rw [hw] at hr ⊢
    exact ⟨g, rfl, rowAt_of (by decide) hr, hb⟩
theorem asm_c2 (w : World) (hE : Env w) :
    Calls Tryd.prog 20 #[.string ⟨#[110, 111, 112, 10, 110, 111, 112, 32, 10]⟩] w fun e w' => e = .returned (.tuple #[.slice none 0 0, .int .i64 2, .int .i64 10]) ∧ Below w.heap.size w w' := by
  refine (asm_any _ w hE (by decide)).mono ?_
  have hl : linesFrom 1 (⟨#[110, 111, 112, 10, 110, 111, 112, 32, 10]⟩ : ByteArray).data.toList = [(1, [110, 111, 112]), (2, [110, 111, 112, 32])] := lines_two
  have g1 : badX (1, [110, 111, 112]) = false := by have := badX_line 1 r_nop; rw [lit_nop] at this; exact this
  rintro e w' ⟨⟨q, x, r, h1, h2, h3, rfl⟩ | ⟨h1, _⟩, hb⟩
  · rw [hl] at h1
    cases q with
    | nil => simp only [List.nil_append, List.cons.injEq] at h1; rw [← h1.1, g1] at h3; cases h3
    | cons y q =>
      simp only [List.cons_append, List.cons.injEq] at h1
      cases q with
      | nil => simp only [List.nil_append, List.cons.injEq] at h1; rw [← h1.2.1]; exact ⟨rfl, hb⟩
      | cons y2 q => simp at h1
  · have := h1 (2, [110, 111, 112, 32]) (by rw [hl]; simp)
    rw [bad_two] at this; cases this
theorem show_c (g : Nat) (w : World) (hE : Env w) (hr : RowAt w g 0 8 zc) :
    Calls Tryd.prog 21 #[.slice (some ⟨g, 0, none⟩) 8 8] w fun e w' => e = .returned (.tuple #[.string ⟨#[110, 111, 112, 10, 108, 105, 32, 114, 49, 32, 55, 10]⟩, .bool true]) ∧ Below w.heap.size w w' := by
  have e0 : wAt zc 0 = enc 0 0 0 0 := wAt_byteOf _ 0
  have e1 : wAt zc 1 = enc 1 1 0 7 := wAt_byteOf _ 1
  refine (show_row g 0 8 8 zc w hE hr (by decide) (by decide)).mono ?_
  rintro e w' ⟨⟨_, rfl⟩ | ⟨⟨j, hj, h⟩, _⟩, hb⟩
  · refine ⟨?_, hb⟩
    have : showTo zc (8 / 4) = [110, 111, 112, 10, 108, 105, 32, 114, 49, 32, 55, 10] := by
      show [] ++ decLn (wAt zc 0) ++ decLn (wAt zc 1) = _
      rw [e0, e1, decLn_enc r_nop, decLn_enc r_li, lit_nop, lit_li]; rfl
    rw [this]; rfl
  · have : j = 0 ∨ j = 1 := by omega
    rcases this with rfl | rfl
    · rw [e0, decR_enc r_nop] at h; cases h
    · rw [e1, decR_enc r_li] at h; cases h
theorem signed_c (w : World) :
    Calls Tryd.prog 16 #[.agg #[.int .i64 11, .int .i64 1, .int .i64 2, .int .i64 65535]] w fun e w' => e = .returned (.int .i64 (-1)) ∧ Below w.heap.size w w' := signed_any 11 1 2 65535 w
theorem line_c (w : World) (hE : Env w) :
    Calls Tryd.prog 14 #[.agg #[.int .i64 27, .int .i64 0, .int .i64 0, .int .i64 0]] w fun e w' => e = .returned (.string ⟨#[104, 97, 108, 116]⟩) ∧ Below w.heap.size w w' := line_yes 27 0 0 0 w hE r_halt
set_option maxHeartbeats 4000000 in
set_option maxRecDepth 100000 in
theorem alive_any (w : World) (hE : Env w) :
    Calls Tryd.prog 8 #[] w fun e w' => e = .returned (.bool true) ∧ Below w.heap.size w w' := by
  have HE := Lib.hid hE
  clear hE
  go_enter Tryd.func8, Tryd.ntmps8
  go_wp2_with fail
  refine (read_c _ HE.out).mono ?_
  rintro e w1 ⟨rfl, hb⟩
  have B1 := Lib.hid hb
  clear hb
  go_wp2_with fail
  refine (encode_c _ ((HE.out.kept B1.out).box _)).mono ?_
  rintro e w2 ⟨rfl, hb⟩
  have X2 := Lib.hid ((Box4.new w1 (.int .i64 11) (.int .i64 1) (.int .i64 2) (.int .i64 65535) 23).kept hb)
  have B2 := Lib.hid ((B1.out.alloc B1.out.size _).trans (hb.mono (B1.out.alloc B1.out.size _).size))
  clear hb
  go_wp2_with fail
  refine (decode_c _ (HE.out.kept B2.out)).mono ?_
  rintro e w3 ⟨rfl, hb⟩
  have X3 := Lib.hid (X2.out.kept hb)
  have B3 := Lib.hid (B2.out.trans (hb.mono B2.out.size))
  have z3 := Lib.hid X3.out.lt
  clear hb
  go_wp2_with fail
  refine (decode_c2 _ ((HE.out.kept B3.out).box _)).mono ?_
  rintro e w4 ⟨rfl, hb⟩
  have X4 := Lib.hid ((X3.out.box _).kept hb)
  have Y4 := Lib.hid ((Box4.new w3 (.int .i64 11) (.int .i64 1) (.int .i64 2) (.int .i64 65535) 23).kept hb)
  have B4 := Lib.hid ((B3.out.alloc B3.out.size _).trans (hb.mono (B3.out.alloc B3.out.size _).size))
  clear hb
  go_wp2_with fail
  refine (asm_c _ ((HE.out.kept B4.out).box _)).mono ?_
  rintro e w5 ⟨g, rfl, hrow, hb⟩
  have X5 := Lib.hid ((X4.out.box _).kept hb)
  have Y5 := Lib.hid ((Y4.out.box _).kept hb)
  have B5 := Lib.hid ((B4.out.alloc B4.out.size _).trans (hb.mono (B4.out.alloc B4.out.size _).size))
  have R5 := Lib.hid hrow
  clear hb hrow
  go_wp2_with fail
  refine (asm_c2 _ (HE.out.kept B5.out)).mono ?_
  rintro e w6 ⟨rfl, hb⟩
  have X6 := Lib.hid (X5.out.kept hb)
  have Y6 := Lib.hid (Y5.out.kept hb)
  have B6 := Lib.hid (B5.out.trans (hb.mono B5.out.size))
  have R6 := Lib.hid (R5.out.kept hb)
  clear hb
  go_wp2_with fail
  refine (show_c _ _ (HE.out.kept B6.out) R6.out).mono ?_
  rintro e w7 ⟨rfl, hb⟩
  have X7 := Lib.hid (X6.out.kept hb)
  have Y7 := Lib.hid (Y6.out.kept hb)
  have B7 := Lib.hid (B6.out.trans (hb.mono B6.out.size))
  obtain ⟨⟨x0, x1, x2, x3⟩, _⟩ := X7.out
  obtain ⟨⟨y0, y1, y2, y3⟩, _⟩ := Y7.out
  clear hb
  go_wp2_with fail
  refine (signed_c _).mono ?_
  rintro e w8 ⟨rfl, hb⟩
  have B8 := Lib.hid (B7.out.trans (hb.mono B7.out.size))
  clear hb
  go_wp2_with fail
  refine (line_c _ (HE.out.kept B8.out)).mono ?_
  rintro e w9 ⟨rfl, hb⟩
  have B9 := Lib.hid (B8.out.trans (hb.mono B8.out.size))
  clear hb
  go_wp2
  go_ret
  exact ⟨rfl, B9.out⟩
end Go.Proofs.YtebnjhecopmekaaDoor
