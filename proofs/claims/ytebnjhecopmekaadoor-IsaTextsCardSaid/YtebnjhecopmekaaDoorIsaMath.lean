/-
  Plain facts: an instruction's line is a line of a text, its word comes back from its line and from its bytes; no condition, no program in sight.
-/
import Derived.Test.YtebnjhecopmekaaDoorIsaAsm1
import Derived.Test.YtebnjhecopmekaaDoorIsaShow
namespace Go.Proofs.YtebnjhecopmekaaDoor
open Isa

theorem linesFrom_line (n : Nat) (l r : List UInt8) (h : ∀ x ∈ l, x ≠ 10) : linesFrom n (l ++ 10 :: r) = (n, l) :: linesFrom (n + 1) r := by
  rw [linesFrom_cons n _ (by simp), cutL_at 10 l r h]
theorem linesFrom_last (n : Nat) (l : List UInt8) (h0 : l ≠ []) (h : ∀ x ∈ l, x ≠ 10) : linesFrom n l = [(n, l)] := by
  rw [linesFrom_cons n _ h0, cutL_all 10 l h, linesFrom_nil]
theorem regL_byte (n : Int) : ∀ x ∈ regL n, x ≠ 10 := by
  intro x hx
  simp only [regL, List.mem_cons] at hx
  rcases hx with rfl | rfl | hx
  · decide
  · decide
  · exact (itoa_byte n x hx).2
theorem numL_byte (n : Int) : ∀ x ∈ numL n, x ≠ 10 := by
  intro x hx
  simp only [numL, List.mem_cons] at hx
  rcases hx with rfl | hx
  · decide
  · exact (itoa_byte n x hx).2
theorem lineL_byte {op a b imm : Int} (h : right op a b imm = true) : ∀ x ∈ lineL op a b imm, x ≠ 10 := by
  obtain ⟨⟨g0, h0⟩, _⟩ := right_bounds h
  intro x hx
  simp only [lineL, List.mem_append] at hx
  rcases hx with ((hx | hx) | hx) | hx
  · exact (opN_byte op.toNat (by omega) x hx).2.1
  · split at hx
    · exact regL_byte a x hx
    · simp at hx
  · split at hx
    · exact regL_byte b x hx
    · simp at hx
  · unfold immL at hx
    split at hx
    · exact numL_byte _ x hx
    · split at hx
      · exact regL_byte _ x hx
      · split at hx
        · exact numL_byte _ x hx
        · simp at hx
theorem silent_line {op a b imm : Int} (h : right op a b imm = true) : silentB (lineL op a b imm) = false := by
  obtain ⟨⟨g0, h0⟩, _⟩ := right_bounds h
  have hl := (opN_len op.toNat (by omega)).2
  have hb := opN_byte op.toNat (by omega)
  unfold lineL
  cases ho : opN op.toNat with
  | nil => rw [ho] at hl; simp at hl
  | cons c r =>
    rw [ho] at hb
    have := (hb c (by simp)).2.2
    simp [silentB, this]
theorem wordX_line {op a b imm : Int} (h : right op a b imm = true) : wordX (lineL op a b imm) = some (enc op a b imm) := by
  unfold wordX
  rw [silent_line h, readO_of op a b imm h]
  rfl
theorem badX_line {op a b imm : Int} (n : Nat) (h : right op a b imm = true) : badX (n, lineL op a b imm) = false := by
  unfold badX
  simp only [readO_of op a b imm h]
  simp
theorem badX_silent (n : Nat) (l : List UInt8) (h : silentB l = true) : badX (n, l) = false := by simp [badX, h]
theorem wordX_silent (l : List UInt8) (h : silentB l = true) : wordX l = none := by simp [wordX, h]
/-- What a word's numbers are, out of its word. -/
theorem d_enc {op a b imm : Int} (h : right op a b imm = true) : dOp (enc op a b imm) = op ∧ dA (enc op a b imm) = a ∧ dB (enc op a b imm) = b ∧ dI (enc op a b imm) = imm := by
  have := right_bounds h
  unfold dOp dA dB dI enc; omega
theorem decR_enc {op a b imm : Int} (h : right op a b imm = true) : decR (enc op a b imm) = true := by
  obtain ⟨e1, e2, e3, e4⟩ := d_enc h
  unfold decR; rw [e1, e2, e3, e4]; exact h
theorem decLn_enc {op a b imm : Int} (h : right op a b imm = true) : decLn (enc op a b imm) = lineL op a b imm ++ [10] := by
  obtain ⟨e1, e2, e3, e4⟩ := d_enc h
  unfold decLn; rw [e1, e2, e3, e4]
theorem enc_d (v : Int) : enc (dOp v) (dA v) (dB v) (dI v) = v := by
  unfold dOp dA dB dI enc; omega
/-- A word comes back from its bytes. -/
theorem wAt_byteOf (z : Nat → Int) (k : Nat) : wAt (Wd.byteOf z) k = z k := by
  unfold wAt Wd.word4 Wd.byteOf
  rw [show 4 * k / 4 = k by omega, show 4 * k % 4 = 0 by omega, show (4 * k + 1) / 4 = k by omega, show (4 * k + 1) % 4 = 1 by omega, show (4 * k + 2) / 4 = k by omega, show (4 * k + 2) % 4 = 2 by omega, show (4 * k + 3) / 4 = k by omega, show (4 * k + 3) % 4 = 3 by omega]
  unfold Wd.byte4
  simp only
  omega
theorem byte_B8 (z : Nat → Int) (j : Nat) (h0 : 0 ≤ z (j / 4)) (h1 : z (j / 4) < 4294967296) : Wd.B8 (Wd.byteOf z j) := by
  unfold Wd.byteOf Wd.B8
  have : j % 4 = 0 ∨ j % 4 = 1 ∨ j % 4 = 2 ∨ j % 4 = 3 := by omega
  rcases this with e | e | e | e <;> rw [e] <;> simp only [Wd.byte4] <;> omega
/-! ### Single texts -/
theorem itoa_dig (n : Nat) (h : n < 10) : Lib.itoa (n : Int) = [UInt8.ofNat (48 + n)] := by
  unfold Lib.itoa; rw [if_neg (by omega), Int.toNat_natCast, Lib.decDigits_one h]
theorem itoa_m1 : Lib.itoa (-1) = [45, 49] := by
  unfold Lib.itoa; rw [if_pos (by decide)]
  have := Lib.decDigits_one (i := 1) (by decide)
  rw [show (-1 : Int).natAbs = 1 from rfl, this]; rfl
theorem lit_addi : lineL 11 1 2 65535 = [97, 100, 100, 105, 32, 114, 49, 32, 114, 50, 32, 45, 49] := by
  have e1 := itoa_dig 1 (by decide)
  have e2 := itoa_dig 2 (by decide)
  show opN 11 ++ (32 :: 114 :: Lib.itoa ((1 : Nat) : Int)) ++ (32 :: 114 :: Lib.itoa ((2 : Nat) : Int)) ++ (32 :: Lib.itoa (-1)) = _
  rw [e1, e2, itoa_m1]; rfl
theorem lit_nop : lineL 0 0 0 0 = [110, 111, 112] := rfl
theorem lit_halt : lineL 27 0 0 0 = [104, 97, 108, 116] := rfl
theorem lit_li : lineL 1 1 0 7 = [108, 105, 32, 114, 49, 32, 55] := by
  have e1 := itoa_dig 1 (by decide)
  have e2 := itoa_dig 7 (by decide)
  show opN 1 ++ (32 :: 114 :: Lib.itoa ((1 : Nat) : Int)) ++ [] ++ (32 :: Lib.itoa ((7 : Nat) : Int)) = _
  rw [e1, e2]; rfl
theorem lines_one : linesFrom 1 [35, 32, 97, 10, 110, 111, 112, 10, 10, 108, 105, 32, 114, 49, 32, 55] = [(1, [35, 32, 97]), (2, [110, 111, 112]), (3, []), (4, [108, 105, 32, 114, 49, 32, 55])] := by
  have h1 := linesFrom_line 1 [35, 32, 97] [110, 111, 112, 10, 10, 108, 105, 32, 114, 49, 32, 55] (by decide)
  have h2 := linesFrom_line 2 [110, 111, 112] [10, 108, 105, 32, 114, 49, 32, 55] (by decide)
  have h3 := linesFrom_line 3 [] [108, 105, 32, 114, 49, 32, 55] (by decide)
  have h4 := linesFrom_last 4 [108, 105, 32, 114, 49, 32, 55] (by decide) (by decide)
  simp only [List.cons_append, List.nil_append] at h1 h2 h3
  rw [h1, h2, h3, h4]
theorem lines_two : linesFrom 1 [110, 111, 112, 10, 110, 111, 112, 32, 10] = [(1, [110, 111, 112]), (2, [110, 111, 112, 32])] := by
  have h1 := linesFrom_line 1 [110, 111, 112] [110, 111, 112, 32, 10] (by decide)
  have h2 := linesFrom_line 2 [110, 111, 112, 32] [] (by decide)
  simp only [List.cons_append, List.nil_append] at h1 h2
  rw [h1, h2, linesFrom_nil]
theorem r_nop : right 0 0 0 0 = true := by decide
theorem r_li : right 1 1 0 7 = true := by decide
theorem r_addi : right 11 1 2 65535 = true := by decide
theorem r_halt : right 27 0 0 0 = true := by decide
theorem w_nop : wordX [110, 111, 112] = some 0 := by have := wordX_line r_nop; rw [lit_nop] at this; exact this
theorem w_li : wordX [108, 105, 32, 114, 49, 32, 55] = some 459009 := by have := wordX_line r_li; rw [lit_li] at this; exact this
theorem words_one : wordsOf (linesFrom 1 [35, 32, 97, 10, 110, 111, 112, 10, 10, 108, 105, 32, 114, 49, 32, 55]) = [0, 459009] := by
  rw [lines_one]
  simp only [wordsOf, List.filterMap_cons, List.filterMap_nil, w_nop, w_li, wordX_silent [35, 32, 97] rfl, wordX_silent [] rfl]
theorem clean_one : ∀ y ∈ linesFrom 1 [35, 32, 97, 10, 110, 111, 112, 10, 10, 108, 105, 32, 114, 49, 32, 55], badX y = false := by
  rw [lines_one]
  intro y hy
  simp only [List.mem_cons, List.not_mem_nil, or_false] at hy
  rcases hy with rfl | rfl | rfl | rfl
  · exact badX_silent _ _ rfl
  · have := badX_line 2 r_nop; rw [lit_nop] at this; exact this
  · exact badX_silent _ _ rfl
  · have := badX_line 4 r_li; rw [lit_li] at this; exact this
theorem bad_two : badX (2, [110, 111, 112, 32]) = true := by
  have : readO [110, 111, 112, 32] = none := by decide
  unfold badX
  simp only [this]
  rfl
end Go.Proofs.YtebnjhecopmekaaDoor
