/-
  Plain facts: an instruction's line is a line of a text, its word comes back from its line and from its bytes; the three programs of layer 3's statements; what Code answers of them. The condition of the last: the tables that the program's text lays lie so.
-/
import Derived.Test.YtlfhcnpbgbnadaaDoorIsaAsm1
import Derived.Test.YtlfhcnpbgbnadaaDoorAluRun
namespace Go.Proofs.YtlfhcnpbgbnadaaDoor
open Isa Go.RowKit

theorem linesFrom_line (n : Nat) (l r : List UInt8) (h : ∀ x ∈ l, x ≠ 10) : linesFrom n (l ++ 10 :: r) = (n, l) :: linesFrom (n + 1) r := by
  rw [linesFrom_cons n _ (by simp), cutL_at 10 l r h]
theorem linesFrom_last (n : Nat) (l : List UInt8) (h0 : l ≠ []) (h : ∀ x ∈ l, x ≠ 10) : linesFrom n l = [(n, l)] := by
  rw [linesFrom_cons n _ h0, cutL_all 10 l h, linesFrom_nil]
theorem regL_byte (n : Int) : ∀ x ∈ regL n, x ≠ 10 := by
  intro x hx
  simp only [regL, List.mem_cons] at hx
  rcases hx with rfl | rfl | hx
  · decide
  · decide
  · exact (itoa_byte n x hx).2
theorem numL_byte (n : Int) : ∀ x ∈ numL n, x ≠ 10 := by
  intro x hx
  simp only [numL, List.mem_cons] at hx
  rcases hx with rfl | hx
  · decide
  · exact (itoa_byte n x hx).2
theorem lineL_byte {op a b imm : Int} (h : right op a b imm = true) : ∀ x ∈ lineL op a b imm, x ≠ 10 := by
  obtain ⟨⟨g0, h0⟩, _⟩ := right_bounds h
  intro x hx
  simp only [lineL, List.mem_append] at hx
  rcases hx with ((hx | hx) | hx) | hx
  · exact (opN_byte op.toNat (by omega) x hx).2.1
  · split at hx
    · exact regL_byte a x hx
    · simp at hx
  · split at hx
    · exact regL_byte b x hx
    · simp at hx
  · unfold immL at hx
    split at hx
    · exact numL_byte _ x hx
    · split at hx
      · exact regL_byte _ x hx
      · split at hx
        · exact numL_byte _ x hx
        · simp at hx
theorem silent_line {op a b imm : Int} (h : right op a b imm = true) : silentB (lineL op a b imm) = false := by
  obtain ⟨⟨g0, h0⟩, _⟩ := right_bounds h
  have hl := (opN_len op.toNat (by omega)).2
  have hb := opN_byte op.toNat (by omega)
  unfold lineL
  cases ho : opN op.toNat with
  | nil => rw [ho] at hl; simp at hl
  | cons c r =>
    rw [ho] at hb
    have := (hb c (by simp)).2.2
    simp [silentB, this]
theorem wordX_line {op a b imm : Int} (h : right op a b imm = true) : wordX (lineL op a b imm) = some (enc op a b imm) := by
  unfold wordX
  rw [silent_line h, readO_of op a b imm h]
  rfl
theorem badX_line {op a b imm : Int} (n : Nat) (h : right op a b imm = true) : badX (n, lineL op a b imm) = false := by
  unfold badX
  simp only [readO_of op a b imm h]
  simp
theorem badX_silent (n : Nat) (l : List UInt8) (h : silentB l = true) : badX (n, l) = false := by simp [badX, h]
theorem wordX_silent (l : List UInt8) (h : silentB l = true) : wordX l = none := by simp [wordX, h]
/-- What a word's numbers are, out of its word. -/
theorem d_enc {op a b imm : Int} (h : right op a b imm = true) : dOp (enc op a b imm) = op ∧ dA (enc op a b imm) = a ∧ dB (enc op a b imm) = b ∧ dI (enc op a b imm) = imm := by
  have := right_bounds h
  unfold dOp dA dB dI enc; omega
/-- A word comes back from its bytes. -/
theorem wAt_byteOf (z : Nat → Int) (k : Nat) : Wd.word4 (Wd.byteOf z (4 * k)) (Wd.byteOf z (4 * k + 1)) (Wd.byteOf z (4 * k + 2)) (Wd.byteOf z (4 * k + 3)) = z k := by
  unfold Wd.word4 Wd.byteOf
  rw [show 4 * k / 4 = k by omega, show 4 * k % 4 = 0 by omega, show (4 * k + 1) / 4 = k by omega, show (4 * k + 1) % 4 = 1 by omega, show (4 * k + 2) / 4 = k by omega, show (4 * k + 2) % 4 = 2 by omega, show (4 * k + 3) / 4 = k by omega, show (4 * k + 3) % 4 = 3 by omega]
  unfold Wd.byte4
  simp only
  omega
theorem byte_B8 (z : Nat → Int) (j : Nat) (h0 : 0 ≤ z (j / 4)) (h1 : z (j / 4) < 4294967296) : Wd.B8 (Wd.byteOf z j) := by
  unfold Wd.byteOf Wd.B8
  have : j % 4 = 0 ∨ j % 4 = 1 ∨ j % 4 = 2 ∨ j % 4 = 3 := by omega
  rcases this with e | e | e | e <;> rw [e] <;> simp only [Wd.byte4] <;> omega
theorem itoa_dig (n : Nat) (h : n < 10) : Lib.itoa (n : Int) = [UInt8.ofNat (48 + n)] := by
  unfold Lib.itoa; rw [if_neg (by omega), Int.toNat_natCast, Lib.decDigits_one h]
theorem itoa_m1 : Lib.itoa (-1) = [45, 49] := by
  unfold Lib.itoa; rw [if_pos (by decide)]
  have := Lib.decDigits_one (i := 1) (by decide)
  rw [show (-1 : Int).natAbs = 1 from rfl, this]; rfl
theorem itoa_m2 : Lib.itoa (-2) = [45, 50] := by
  unfold Lib.itoa; rw [if_pos (by decide)]
  have := Lib.decDigits_one (i := 2) (by decide)
  rw [show (-2 : Int).natAbs = 2 from rfl, this]; rfl
theorem t_li13 : lineL 1 1 0 3 = [108, 105, 32, 114, 49, 32, 51] := by
  have e1 := itoa_dig 1 (by decide)
  have e3 := itoa_dig 3 (by decide)
  show opN 1 ++ (32 :: 114 :: Lib.itoa ((1 : Nat) : Int)) ++ [] ++ (32 :: Lib.itoa ((3 : Nat) : Int)) = _
  rw [e1, e3]; rfl
theorem t_li20 : lineL 1 2 0 0 = [108, 105, 32, 114, 50, 32, 48] := by
  have e0 := itoa_dig 0 (by decide)
  have e2 := itoa_dig 2 (by decide)
  show opN 1 ++ (32 :: 114 :: Lib.itoa ((2 : Nat) : Int)) ++ [] ++ (32 :: Lib.itoa ((0 : Nat) : Int)) = _
  rw [e0, e2]; rfl
theorem t_add : lineL 3 2 2 1 = [97, 100, 100, 32, 114, 50, 32, 114, 50, 32, 114, 49] := by
  have e1 := itoa_dig 1 (by decide)
  have e2 := itoa_dig 2 (by decide)
  show opN 3 ++ (32 :: 114 :: Lib.itoa ((2 : Nat) : Int)) ++ (32 :: 114 :: Lib.itoa ((2 : Nat) : Int)) ++ (32 :: 114 :: Lib.itoa ((1 : Nat) : Int)) = _
  rw [e1, e2]; rfl
theorem t_addi : lineL 11 1 1 65535 = [97, 100, 100, 105, 32, 114, 49, 32, 114, 49, 32, 45, 49] := by
  have e1 := itoa_dig 1 (by decide)
  show opN 11 ++ (32 :: 114 :: Lib.itoa ((1 : Nat) : Int)) ++ (32 :: 114 :: Lib.itoa ((1 : Nat) : Int)) ++ (32 :: Lib.itoa (-1)) = _
  rw [e1, itoa_m1]; rfl
theorem t_bne : lineL 17 1 0 65534 = [98, 110, 101, 32, 114, 49, 32, 114, 48, 32, 45, 50] := by
  have e0 := itoa_dig 0 (by decide)
  have e1 := itoa_dig 1 (by decide)
  show opN 17 ++ (32 :: 114 :: Lib.itoa ((1 : Nat) : Int)) ++ (32 :: 114 :: Lib.itoa ((0 : Nat) : Int)) ++ (32 :: Lib.itoa (-2)) = _
  rw [e0, e1, itoa_m2]; rfl
theorem t_st : lineL 13 2 0 8 = [115, 116, 32, 114, 50, 32, 114, 48, 32, 56] := by
  have e0 := itoa_dig 0 (by decide)
  have e2 := itoa_dig 2 (by decide)
  have e8 := itoa_dig 8 (by decide)
  show opN 13 ++ (32 :: 114 :: Lib.itoa ((2 : Nat) : Int)) ++ (32 :: 114 :: Lib.itoa ((0 : Nat) : Int)) ++ (32 :: Lib.itoa ((8 : Nat) : Int)) = _
  rw [e0, e2, e8]; rfl
theorem t_li30 : lineL 1 3 0 0 = [108, 105, 32, 114, 51, 32, 48] := by
  have e0 := itoa_dig 0 (by decide)
  have e3 := itoa_dig 3 (by decide)
  show opN 1 ++ (32 :: 114 :: Lib.itoa ((3 : Nat) : Int)) ++ [] ++ (32 :: Lib.itoa ((0 : Nat) : Int)) = _
  rw [e0, e3]; rfl
theorem t_add3 : lineL 3 3 3 2 = [97, 100, 100, 32, 114, 51, 32, 114, 51, 32, 114, 50] := by
  have e2 := itoa_dig 2 (by decide)
  have e3 := itoa_dig 3 (by decide)
  show opN 3 ++ (32 :: 114 :: Lib.itoa ((3 : Nat) : Int)) ++ (32 :: 114 :: Lib.itoa ((3 : Nat) : Int)) ++ (32 :: 114 :: Lib.itoa ((2 : Nat) : Int)) = _
  rw [e2, e3]; rfl
theorem t_halt : lineL 27 0 0 0 = [104, 97, 108, 116] := rfl
theorem t_mul : lineL 10 3 1 2 = [109, 117, 108, 32, 114, 51, 32, 114, 49, 32, 114, 50] := by
  have e1 := itoa_dig 1 (by decide)
  have e2 := itoa_dig 2 (by decide)
  have e3 := itoa_dig 3 (by decide)
  show opN 10 ++ (32 :: 114 :: Lib.itoa ((3 : Nat) : Int)) ++ (32 :: 114 :: Lib.itoa ((1 : Nat) : Int)) ++ (32 :: 114 :: Lib.itoa ((2 : Nat) : Int)) = _
  rw [e1, e2, e3]; rfl
namespace Alu
/-- The text of instructions. -/
def tT (xs : List (Int × Int × Int × Int)) : List UInt8 := xs.flatMap fun x => lineL x.1 x.2.1 x.2.2.1 x.2.2.2 ++ [10]
def eW (x : Int × Int × Int × Int) : Int := enc x.1 x.2.1 x.2.2.1 x.2.2.2
theorem lines_tT : ∀ (xs : List (Int × Int × Int × Int)) (m : Nat), (∀ x ∈ xs, right x.1 x.2.1 x.2.2.1 x.2.2.2 = true) → (∀ y ∈ linesFrom m (tT xs), badX y = false) ∧ wordsOf (linesFrom m (tT xs)) = xs.map eW
  | [], m, _ => by
    rw [show tT [] = [] from rfl, linesFrom_nil]
    exact ⟨fun y hy => absurd hy (by simp), rfl⟩
  | x :: xs, m, h => by
    have hx := h x (by simp)
    obtain ⟨h1, h2⟩ := lines_tT xs (m + 1) (fun y hy => h y (by simp [hy]))
    have e : tT (x :: xs) = lineL x.1 x.2.1 x.2.2.1 x.2.2.2 ++ 10 :: tT xs := by simp [tT]
    rw [e, linesFrom_line m _ _ (lineL_byte hx)]
    refine ⟨fun y hy => ?_, ?_⟩
    · rcases List.mem_cons.1 hy with rfl | hy
      · exact badX_line m hx
      · exact h1 y hy
    · unfold wordsOf at h2 ⊢
      rw [List.filterMap_cons, wordX_line hx, h2]
      rfl
def P0 : List (Int × Int × Int × Int) := [(1, 1, 0, 3), (1, 2, 0, 0), (3, 2, 2, 1), (11, 1, 1, 65535), (17, 1, 0, 65534), (13, 2, 0, 8)]
theorem P0_right : ∀ x ∈ P0, right x.1 x.2.1 x.2.2.1 x.2.2.2 = true := by decide
theorem P0_text : tT P0 = [108, 105, 32, 114, 49, 32, 51, 10, 108, 105, 32, 114, 50, 32, 48, 10, 97, 100, 100, 32, 114, 50, 32, 114, 50, 32, 114, 49, 10, 97, 100, 100, 105, 32, 114, 49, 32, 114, 49, 32, 45, 49, 10, 98, 110, 101, 32, 114, 49, 32, 114, 48, 32, 45, 50, 10, 115, 116, 32, 114, 50, 32, 114, 48, 32, 56, 10] := by
  simp only [P0, tT, List.flatMap_cons, List.flatMap_nil, t_li13, t_li20, t_add, t_addi, t_bne, t_st]
  rfl
def P1 : List (Int × Int × Int × Int) := [(1, 3, 0, 0), (3, 3, 3, 2), (11, 1, 1, 65535), (17, 1, 0, 65534), (27, 0, 0, 0)]
theorem P1_right : ∀ x ∈ P1, right x.1 x.2.1 x.2.2.1 x.2.2.2 = true := by decide
theorem P1_text : tT P1 = [108, 105, 32, 114, 51, 32, 48, 10, 97, 100, 100, 32, 114, 51, 32, 114, 51, 32, 114, 50, 10, 97, 100, 100, 105, 32, 114, 49, 32, 114, 49, 32, 45, 49, 10, 98, 110, 101, 32, 114, 49, 32, 114, 48, 32, 45, 50, 10, 104, 97, 108, 116, 10] := by
  simp only [P1, tT, List.flatMap_cons, List.flatMap_nil, t_li30, t_add3, t_addi, t_bne, t_halt]
  rfl
def P2 : List (Int × Int × Int × Int) := [(10, 3, 1, 2), (27, 0, 0, 0)]
theorem P2_right : ∀ x ∈ P2, right x.1 x.2.1 x.2.2.1 x.2.2.2 = true := by decide
theorem P2_text : tT P2 = [109, 117, 108, 32, 114, 51, 32, 114, 49, 32, 114, 50, 10, 104, 97, 108, 116, 10] := by
  simp only [P2, tT, List.flatMap_cons, List.flatMap_nil, t_mul, t_halt]
  rfl
/-- The words' bytes. -/
def zT (xs : List (Int × Int × Int × Int)) : Nat → Int := Wd.byteOf (fun i => (xs.map eW).getD i 0)
theorem eW_w {x : Int × Int × Int × Int} (h : right x.1 x.2.1 x.2.2.1 x.2.2.2 = true) : 0 ≤ eW x ∧ eW x < 4294967296 := by
  have := right_bounds h
  unfold eW enc; omega
theorem zT_byte (xs : List (Int × Int × Int × Int)) (h : ∀ x ∈ xs, right x.1 x.2.1 x.2.2.1 x.2.2.2 = true) (j : Nat) : Wd.B8 (zT xs j) := by
  have hb : ∀ i, 0 ≤ (xs.map eW).getD i 0 ∧ (xs.map eW).getD i 0 < 4294967296 := by
    intro i
    by_cases hi : i < (xs.map eW).length
    · have e : (xs.map eW).getD i 0 = (xs.map eW)[i] := by rw [List.getD_eq_getElem?_getD, List.getElem?_eq_getElem hi]; rfl
      rw [e, List.getElem_map]
      exact eW_w (h _ (List.getElem_mem _))
    · have e : (xs.map eW).getD i 0 = 0 := by rw [List.getD_eq_getElem?_getD, List.getElem?_eq_none (by omega)]; rfl
      rw [e]; decide
  exact byte_B8 _ j (hb _).1 (hb _).2
theorem gW_at (xs : List (Int × Int × Int × Int)) (k : Nat) (hk : k < xs.length) (x : Int × Int × Int × Int) (hx : xs[k]? = some x) : gW (zT xs) (4 * xs.length) ((4 * k : Nat) : Int) = some (eW x) := by
  unfold gW
  rw [if_pos (by omega), Int.toNat_natCast]
  unfold zT
  rw [wAt_byteOf]
  simp [hx]
theorem code_T (xs : List (Int × Int × Int × Int)) (s : ByteArray) (w : World) (hE : Env w) (hs : s.data.toList = tT xs) (hz : s.size ≤ 1000000) (h : ∀ x ∈ xs, right x.1 x.2.1 x.2.2.1 x.2.2.2 = true) :
    Calls Tryd.prog 18 #[.string s] w fun e w' => ∃ g, e = .returned (.slice (some ⟨g, 0, none⟩) (4 * xs.length) (4 * xs.length)) ∧ CodeIn w' (some ⟨g, 0, none⟩) (4 * xs.length) (zT xs) ∧ Below w.heap.size w w' := by
  have HE := Lib.hid hE
  have HS := Lib.hid hs
  have H := Lib.hid h
  clear hE hs h
  go_enter Tryd.func18, Tryd.ntmps18
  go_wp2_with fail
  refine (asm_any s _ HE.out hz).mono ?_
  obtain ⟨h1, h2⟩ := lines_tT xs 1 H.out
  have hl : (xs.map eW).length = xs.length := by simp
  rintro e w1 ⟨⟨q, x, r, k1, _, k3, _⟩ | ⟨_, g, hg, rfl, hr⟩, hb⟩
  · rw [HS.out] at k1
    have := h1 x (by rw [k1]; simp)
    rw [this] at k3; cases k3
  · rw [HS.out, h2, hl] at hr ⊢
    have HR := Lib.hid hr
    have HB := Lib.hid hb
    clear hr hb h1 h2 hl hg
    go_wp2
    go_ret
    exact ⟨g, rfl, ⟨fun j _ => zT_byte xs H.out j, fun _ => ⟨g, 0, rfl, fun j hj => by rw [Nat.zero_add]; exact HR.out.cell hj⟩⟩, HB.out⟩
end Alu
end Go.Proofs.YtlfhcnpbgbnadaaDoor
