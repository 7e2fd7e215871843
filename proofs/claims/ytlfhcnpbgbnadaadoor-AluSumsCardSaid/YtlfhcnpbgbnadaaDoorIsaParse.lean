/-
  Plain facts on texts: a number's digits are read as the number, an instruction's text is read as the instruction; no condition, no program in sight.
-/
import Derived.Test.YtlfhcnpbgbnadaaDoorIsaText
import Derived.Lib.AtoiAll
import Derived.Lib.Strings
namespace Go.Proofs.YtlfhcnpbgbnadaaDoor
open Isa

theorem parse_snoc (c : UInt8) (hc : 48 ≤ c.toNat ∧ c.toNat ≤ 57) : ∀ (l : List UInt8) (acc m : Nat), Lib.parseUint10 acc l = .ok m → m * 10 + (c.toNat - 48) < 18446744073709551616 → Lib.parseUint10 acc (l ++ [c]) = .ok (m * 10 + (c.toNat - 48))
  | [], acc, m, h, hm => by
    simp only [Lib.parseUint10] at h
    injection h with h
    subst h
    simp only [List.nil_append, Lib.parseUint10, if_pos hc]
    rw [if_neg (by omega), if_neg (by omega)]
  | d :: r, acc, m, h, hm => by
    simp only [Lib.parseUint10, List.cons_append] at h ⊢
    split at h
    · rename_i hd
      split at h
      · cases h
      · rename_i h1
        split at h
        · cases h
        · rename_i h2
          rw [if_pos hd, if_neg h1, if_neg h2]
          exact parse_snoc c hc r _ m h hm
    · cases h
theorem dig_nat (d : Nat) (h : d < 10) : (UInt8.ofNat (48 + d)).toNat = 48 + d := by
  simp only [UInt8.toNat_ofNat']; omega
theorem parse_dec (u : Nat) (h : u < 18446744073709551616) : Lib.parseUint10 0 (Lib.decDigits u) = .ok u := by
  induction u using Nat.strongRecOn with
  | _ u ih =>
    rw [Lib.decDigits]
    split
    · rename_i hu
      have := parse_snoc (UInt8.ofNat (48 + u)) (by rw [dig_nat u hu]; omega) [] 0 0 rfl (by rw [dig_nat u hu]; omega)
      rw [dig_nat u hu] at this
      simpa using this
    · rename_i hu
      have hl : u % 10 < 10 := by omega
      have := parse_snoc (UInt8.ofNat (48 + u % 10)) (by rw [dig_nat _ hl]; omega) _ 0 _ (ih (u / 10) (by omega) (by omega)) (by rw [dig_nat _ hl]; omega)
      rw [this, dig_nat _ hl]
      congr 1
      omega
theorem dec_digit (u : Nat) : ∀ x ∈ Lib.decDigits u, 48 ≤ x.toNat ∧ x.toNat ≤ 57 := by
  induction u using Nat.strongRecOn with
  | _ u ih =>
    rw [Lib.decDigits]
    split
    · rename_i hu
      intro x hx
      rw [List.mem_singleton] at hx
      subst hx
      rw [dig_nat u hu]; omega
    · intro x hx
      rw [List.mem_append] at hx
      rcases hx with hx | hx
      · exact ih (u / 10) (by omega) x hx
      · rw [List.mem_singleton] at hx
        subst hx
        rw [dig_nat _ (by omega)]; omega
theorem dec_ne (u : Nat) : Lib.decDigits u ≠ [] := by
  rw [Lib.decDigits]; split <;> simp
theorem atoi_itoa (n : Int) (h0 : -9223372036854775808 ≤ n) (h1 : n ≤ 9223372036854775807) : Lib.atoiAll (Lib.itoa n) = .ok n := by
  unfold Lib.itoa
  split
  · rename_i hn
    have hp := parse_dec n.natAbs (by omega)
    simp only [Lib.atoiAll, Lib.parseMag]
    rw [if_pos (Or.inr (by decide)), if_neg (dec_ne _), hp]
    simp only
    rw [if_neg (by simp), if_neg (by omega), if_pos (by decide)]
    congr 1
    omega
  · rename_i hn
    have hp := parse_dec n.toNat (by omega)
    cases hd : Lib.decDigits n.toNat with
    | nil => exact absurd hd (dec_ne _)
    | cons c r =>
      have hc := dec_digit n.toNat c (by rw [hd]; simp)
      simp only [Lib.atoiAll, Lib.parseMag]
      have n1 : ¬ (c.toNat = 43 ∨ c.toNat = 45) := by omega
      have n2 : ¬ c.toNat = 45 := by omega
      simp only [if_neg n1]
      rw [if_neg (by simp), ← hd, hp]
      simp only [n2, not_false_eq_true, true_and, false_and, if_false]
      rw [if_neg (by omega)]
      congr 1
      omega
theorem itoa_byte (n : Int) : ∀ x ∈ Lib.itoa n, x ≠ 32 ∧ x ≠ 10 := by
  intro x hx
  unfold Lib.itoa at hx
  split at hx
  · rcases List.mem_cons.1 hx with rfl | hx
    · decide
    · have := dec_digit _ x hx
      exact ⟨fun e => by subst e; simp at this, fun e => by subst e; simp at this⟩
  · have := dec_digit _ x hx
    exact ⟨fun e => by subst e; simp at this, fun e => by subst e; simp at this⟩

/-- A text up to the first such byte, and what is behind it. -/
def cutL (c : UInt8) (l : List UInt8) : List UInt8 × List UInt8 := (l.takeWhile (· != c), (l.dropWhile (· != c)).drop 1)
theorem cutL_all (c : UInt8) (l : List UInt8) (h : ∀ x ∈ l, x ≠ c) : cutL c l = (l, []) := by
  unfold cutL
  have e1 : l.takeWhile (· != c) = l := by
    have := List.takeWhile_append_of_pos (l₁ := l) (l₂ := []) (p := (· != c)) (fun x hx => by simpa using h x hx)
    simpa using this
  have e2 : l.dropWhile (· != c) = [] := by
    have := List.dropWhile_append_of_pos (l₁ := l) (l₂ := []) (p := (· != c)) (fun x hx => by simpa using h x hx)
    simpa using this
  rw [e1, e2]; rfl
theorem cutL_at (c : UInt8) (l r : List UInt8) (h : ∀ x ∈ l, x ≠ c) : cutL c (l ++ c :: r) = (l, r) := by
  unfold cutL
  have e1 : (l ++ c :: r).takeWhile (· != c) = l := by
    rw [List.takeWhile_append_of_pos (fun x hx => by simpa using h x hx)]
    simp
  have e2 : (l ++ c :: r).dropWhile (· != c) = c :: r := by
    rw [List.dropWhile_append_of_pos (fun x hx => by simpa using h x hx)]
    simp
  rw [e1, e2]; rfl
/-- The number that strconv.Atoi answers. -/
def atoiN (l : List UInt8) : Int := match Lib.atoiAll l with
  | .ok v => v
  | Lib.NumEnd.syntax => 0
  | .range => Lib.atoiSat l
def tkN (l : List UInt8) : Int × List UInt8 := (atoiN (cutL 32 l).1, (cutL 32 l).2)
def tkR (l : List UInt8) : Int × List UInt8 := tkN (Lib.trimPrefix l [114])
def findN (l : List UInt8) : Option Nat := (List.range 28).find? (fun k => opN k == l)
def gA (k : Nat) (r : List UInt8) : Int × List UInt8 := if opA k then tkR r else (0, r)
def gB (k : Nat) (r : List UInt8) : Int × List UInt8 := if opB k then tkR r else (0, r)
def gI (i : Nat) (r : List UInt8) : Int := if i = 1 then (tkN r).1 else if i = 2 then (tkR r).1 else if i = 3 then (tkN r).1 % 65536 else 0
/-- The numbers of the only instruction whose text a line may be, its operation being k. -/
def guessK (k : Nat) (r : List UInt8) : Int × Int × Int := ((gA k r).1, (gB k (gA k r).2).1, gI (opI k) (gB k (gA k r).2).2)
theorem tkN_num (n : Int) (h0 : -9223372036854775808 ≤ n) (h1 : n ≤ 9223372036854775807) : tkN (Lib.itoa n) = (n, []) := by
  unfold tkN
  rw [cutL_all _ _ (fun x hx => (itoa_byte n x hx).1)]
  simp [atoiN, atoi_itoa n h0 h1]
theorem tkN_num_at (n : Int) (r : List UInt8) (h0 : -9223372036854775808 ≤ n) (h1 : n ≤ 9223372036854775807) : tkN (Lib.itoa n ++ 32 :: r) = (n, r) := by
  unfold tkN
  rw [cutL_at _ _ _ (fun x hx => (itoa_byte n x hx).1)]
  simp [atoiN, atoi_itoa n h0 h1]
theorem trim_r (l : List UInt8) : Lib.trimPrefix (114 :: l) [114] = l := by simp [Lib.trimPrefix, Lib.hasPrefix]
theorem tkR_reg (n : Int) (h0 : -9223372036854775808 ≤ n) (h1 : n ≤ 9223372036854775807) : tkR (114 :: Lib.itoa n) = (n, []) := by
  unfold tkR; rw [trim_r]; exact tkN_num n h0 h1
theorem tkR_reg_at (n : Int) (r : List UInt8) (h0 : -9223372036854775808 ≤ n) (h1 : n ≤ 9223372036854775807) : tkR (114 :: (Lib.itoa n ++ 32 :: r)) = (n, r) := by
  unfold tkR; rw [trim_r]; exact tkN_num_at n r h0 h1
theorem sgn_mod (imm : Int) (h0 : 0 ≤ imm) (h1 : imm ≤ 65535) : sgn imm % 65536 = imm := by unfold sgn; split <;> omega
theorem opN_byte (k : Nat) (h : k < 28) : ∀ x ∈ opN k, x ≠ 32 ∧ x ≠ 10 ∧ x ≠ 35 := by
  have : k ∈ List.range 28 := by simpa using h
  revert this; revert k; decide
theorem findN_opN (k : Nat) (h : k < 28) : findN (opN k) = some k := by
  have : k ∈ List.range 28 := by simpa using h
  revert this; revert k; decide
/-- What stands behind the word of an instruction's text. -/
theorem line_parts (k : Nat) (a b imm : Int) (hk : k < 28) (h : right k a b imm = true) :
    (cutL 32 (lineL k a b imm)).1 = opN k ∧ guessK k (cutL 32 (lineL k a b imm)).2 = (a, b, imm) := by
  obtain ⟨⟨g0, h0⟩, ⟨g1, h1⟩, ⟨g2, h2⟩, ⟨g3, h3⟩⟩ := right_bounds h
  have hb := fun x hx => (opN_byte k hk x hx).1
  have sb := sgn_bounds imm
  have e1 := tkR_reg a (by omega) (by omega)
  have e2 := fun r => tkR_reg_at a r (by omega) (by omega)
  have e3 := tkR_reg b (by omega) (by omega)
  have e4 := fun r => tkR_reg_at b r (by omega) (by omega)
  have e5 := tkR_reg imm (by omega) (by omega)
  have e6 := tkN_num imm (by omega) (by omega)
  have e7 := tkN_num (sgn imm) (by omega) (by omega)
  have e8 := sgn_mod imm g3 h3
  have hr := (right_iff _ _ _ _).1 h
  rw [Int.toNat_natCast] at hr
  rcases combos k hk with ⟨hA, hB, hI | hI⟩ | ⟨hA, hB, hI | hI | hI⟩ | ⟨hA, hB, hI | hI⟩ <;> simp only [hA, hB, hI, mreg, mimm] at hr <;> simp at hr
  · have : lineL k a b imm = opN k := by simp [lineL, immL, hA, hB, hI]
    rw [this, cutL_all _ _ hb]
    refine ⟨rfl, ?_⟩
    simp [guessK, gA, gB, gI, hA, hB, hI]
    omega
  · have : lineL k a b imm = opN k ++ 32 :: Lib.itoa imm := by simp [lineL, immL, hA, hB, hI, numL]
    rw [this, cutL_at _ _ _ hb]
    refine ⟨rfl, ?_⟩
    simp [guessK, gA, gB, gI, hA, hB, hI, e6]
    omega
  · have : lineL k a b imm = opN k ++ 32 :: 114 :: Lib.itoa a := by simp [lineL, immL, hA, hB, hI, regL]
    rw [this, cutL_at _ _ _ hb]
    refine ⟨rfl, ?_⟩
    simp [guessK, gA, gB, gI, hA, hB, hI, e1]
    omega
  · have : lineL k a b imm = opN k ++ 32 :: 114 :: (Lib.itoa a ++ 32 :: Lib.itoa imm) := by simp [lineL, immL, hA, hB, hI, regL, numL]
    rw [this, cutL_at _ _ _ hb]
    refine ⟨rfl, ?_⟩
    simp [guessK, gA, gB, gI, hA, hB, hI, e2, e6]
    omega
  · have : lineL k a b imm = opN k ++ 32 :: 114 :: (Lib.itoa a ++ 32 :: Lib.itoa (sgn imm)) := by simp [lineL, immL, hA, hB, hI, regL, numL]
    rw [this, cutL_at _ _ _ hb]
    refine ⟨rfl, ?_⟩
    simp [guessK, gA, gB, gI, hA, hB, hI, e2, e7, e8]
    omega
  · have : lineL k a b imm = opN k ++ 32 :: 114 :: (Lib.itoa a ++ 32 :: 114 :: (Lib.itoa b ++ 32 :: 114 :: Lib.itoa imm)) := by simp [lineL, immL, hA, hB, hI, regL]
    rw [this, cutL_at _ _ _ hb]
    refine ⟨rfl, ?_⟩
    simp [guessK, gA, gB, gI, hA, hB, hI, e2, e4, e5]
  · have : lineL k a b imm = opN k ++ 32 :: 114 :: (Lib.itoa a ++ 32 :: 114 :: (Lib.itoa b ++ 32 :: Lib.itoa (sgn imm))) := by simp [lineL, immL, hA, hB, hI, regL, numL]
    rw [this, cutL_at _ _ _ hb]
    refine ⟨rfl, ?_⟩
    simp [guessK, gA, gB, gI, hA, hB, hI, e2, e4, e7, e8]
end Go.Proofs.YtlfhcnpbgbnadaaDoor
