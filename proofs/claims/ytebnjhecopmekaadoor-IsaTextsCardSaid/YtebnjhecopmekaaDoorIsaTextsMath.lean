/-
  Plain facts: the lines of instructions, with remarks and empty lines among them, are lines of the instructions' words; a line that begins with an exclamation mark is none; no condition, no program in sight.
-/
import Derived.Test.YtebnjhecopmekaaDoorIsaBack
namespace Go.Proofs.YtebnjhecopmekaaDoor
open Isa Go.RowKit

/-- Instructions, by their places. -/
structure Inss where
  o : Nat → Int
  a : Nat → Int
  b : Nat → Int
  i : Nat → Int
def Inss.ok (x : Inss) (k : Nat) : Bool := right (x.o k) (x.a k) (x.b k) (x.i k)
def Inss.ln (x : Inss) (k : Nat) : List UInt8 := lineL (x.o k) (x.a k) (x.b k) (x.i k)
def Inss.en (x : Inss) (k : Nat) : Int := enc (x.o k) (x.a k) (x.b k) (x.i k)
/-- The bytes of the instructions' words. -/
def Inss.by' (x : Inss) (j : Nat) : Int := Wd.byteOf x.en j
theorem wAt_en (x : Inss) (k : Nat) : wAt x.by' k = x.en k := wAt_byteOf x.en k
theorem decR_en {x : Inss} {k : Nat} (h : x.ok k = true) : decR (wAt x.by' k) = true := by rw [wAt_en]; exact decR_enc h
theorem decLn_en {x : Inss} {k : Nat} (h : x.ok k = true) : decLn (wAt x.by' k) = x.ln k ++ [10] := by rw [wAt_en]; exact decLn_enc h
/-- The text with remarks. -/
def txt (x : Inss) (r : List UInt8) : Nat → List UInt8
  | 0 => []
  | k + 1 => txt x r k ++ ((35 :: r) ++ [10, 10] ++ (x.ln k ++ [10]))
/-- Its lines. -/
def lst (x : Inss) (r : List UInt8) (m : Nat) : Nat → List (Nat × List UInt8)
  | 0 => []
  | k + 1 => lst x r m k ++ [(m + 3 * k, 35 :: r), (m + 3 * k + 1, []), (m + 3 * k + 2, x.ln k)]
theorem lines_txt (x : Inss) (r : List UInt8) (hr : ∀ c ∈ r, c ≠ 10) (k : Nat) (h : ∀ j, j < k → x.ok j = true) : ∀ (m : Nat) (s : List UInt8), linesFrom m (txt x r k ++ s) = lst x r m k ++ linesFrom (m + 3 * k) s := by
  induction k with
  | zero => intro m s; simp [txt, lst]
  | succ k ih =>
    intro m s
    have e : txt x r (k + 1) ++ s = txt x r k ++ ((35 :: r) ++ 10 :: ([] ++ 10 :: (x.ln k ++ 10 :: s))) := by simp [txt]
    rw [e, ih (fun j hj => h j (by omega)), linesFrom_line _ (35 :: r) _ (fun c hc => by
      rcases List.mem_cons.1 hc with rfl | hc
      · decide
      · exact hr c hc), linesFrom_line _ [] _ (by simp), linesFrom_line _ (x.ln k) _ (lineL_byte (h k (by omega)))]
    simp [lst, Nat.mul_add, Nat.add_assoc]
theorem words_lst (x : Inss) (r : List UInt8) (m k : Nat) (h : ∀ j, j < k → x.ok j = true) : wordsOf (lst x r m k) = (List.range k).map x.en := by
  induction k with
  | zero => rfl
  | succ k ih =>
    have h1 := ih (fun j hj => h j (by omega))
    have h2 : wordX (x.ln k) = some (x.en k) := wordX_line (h k (by omega))
    unfold wordsOf at h1 ⊢
    simp only [lst, List.filterMap_append, h1, List.range_succ, List.map_append]
    simp [h2, wordX_silent (35 :: r) rfl, wordX_silent [] rfl]
theorem clean_lst (x : Inss) (r : List UInt8) (m k : Nat) (h : ∀ j, j < k → x.ok j = true) : ∀ y ∈ lst x r m k, badX y = false := by
  induction k with
  | zero => intro y hy; simp [lst] at hy
  | succ k ih =>
    intro y hy
    simp only [lst, List.mem_append, List.mem_cons, List.not_mem_nil, or_false] at hy
    rcases hy with hy | rfl | rfl | rfl
    · exact ih (fun j hj => h j (by omega)) y hy
    · exact badX_silent _ _ rfl
    · exact badX_silent _ _ rfl
    · exact badX_line _ (h k (by omega))
theorem txt_len (x : Inss) (r : List UInt8) (k : Nat) (hr : r.length ≤ 100) (h : ∀ j, j < k → x.ok j = true) : (txt x r k).length ≤ 184 * k := by
  induction k with
  | zero => simp [txt]
  | succ k ih =>
    have h1 := ih (fun j hj => h j (by omega))
    have h2 : (x.ln k).length ≤ 80 := lineL_len (h k (by omega))
    simp only [txt, List.length_append, List.length_cons, List.length_nil]
    omega
theorem op33 : ∀ k, k ∈ List.range 28 → (opN k).head? ≠ some 33 := by decide
theorem find33 (l : List UInt8) : findN (33 :: l) = none := by
  unfold findN
  rw [List.find?_eq_none]
  intro k hk e
  have : opN k = 33 :: l := by simpa using e
  exact op33 k hk (by rw [this]; rfl)
theorem bad33 (m : Nat) (r : List UInt8) : badX (m, 33 :: r) = true := by
  have : readO (33 :: r) = none := by
    unfold readO
    have e : (cutL 32 (33 :: r)).1 = 33 :: (r.takeWhile (· != 32)) := by
      unfold cutL
      rw [List.takeWhile_cons]
      rfl
    rw [e, find33]
  unfold badX
  simp only [this]
  rfl
/-- The first wrong one is one. -/
theorem first_bad {q q' : List (Nat × List UInt8)} {y y' : Nat × List UInt8} {r r' : List (Nat × List UInt8)} (h : q ++ y :: r = q' ++ y' :: r') (h1 : ∀ t ∈ q, badX t = false) (h2 : badX y = true) (h3 : ∀ t ∈ q', badX t = false) (h4 : badX y' = true) : y = y' := by
  induction q generalizing q' with
  | nil =>
    cases q' with
    | nil => simp only [List.nil_append, List.cons.injEq] at h; exact h.1
    | cons t q' =>
      simp only [List.nil_append, List.cons_append, List.cons.injEq] at h
      have := h3 t (by simp)
      rw [← h.1, h2] at this; cases this
  | cons t q ih =>
    cases q' with
    | nil =>
      simp only [List.nil_append, List.cons_append, List.cons.injEq] at h
      have := h1 t (by simp)
      rw [h.1, h4] at this; cases this
    | cons t' q' =>
      simp only [List.cons_append, List.cons.injEq] at h
      exact ih h.2 (fun t ht => h1 t (by simp [ht])) (fun t ht => h3 t (by simp [ht]))
/-- Assemble, of the text with remarks. -/
theorem asmTxt (x : Inss) (r : List UInt8) (n : Nat) (w : World) (hE : Env w) (hn : n ≤ 60) (hl : r.length ≤ 100) (hr : ∀ c ∈ r, c ≠ 10) (h : ∀ j, j < n → x.ok j = true) :
    Calls Tryd.prog 20 #[.string (bs (txt x r n))] w fun e w' => ∃ g, e = .returned (.tuple #[.slice (some ⟨g, 0, none⟩) (4 * n) (4 * n), .int .i64 0, .int .i64 0]) ∧ RowAt w' g 0 (4 * n) x.by' ∧ Below w.heap.size w w' := by
  have hlen := txt_len x r n hl h
  have hL := lines_txt x r hr n h 1 []
  rw [List.append_nil, linesFrom_nil, List.append_nil] at hL
  refine (asm_any _ w hE (by rw [bs_size]; omega)).mono ?_
  rw [bs_toList]
  rintro e w' ⟨⟨q, y, s, h1, _, h3, _⟩ | ⟨_, g, hg, rfl, hrw⟩, hb⟩
  · rw [hL] at h1
    have := clean_lst x r 1 n h y (by rw [h1]; simp)
    rw [this] at h3; cases h3
  · rw [hL, words_lst x r 1 n h] at hrw ⊢
    simp only [List.length_map, List.length_range] at hrw ⊢
    have hbd : ∀ j, j < n → 0 ≤ x.en j ∧ x.en j < 4294967296 := fun j hj => enc_bounds (h j hj)
    refine ⟨g, rfl, ⟨hrw.lt, fun j hj => byte_B8 x.en j (hbd _ (by omega)).1 (hbd _ (by omega)).2, fun j hj => ?_⟩, hb⟩
    have := hrw.cell hj
    rw [Nat.zero_add, this]
    show some (Value.int .u8 (Wd.byte4 (((List.range n).map x.en).getD (j / 4) 0) (j % 4))) = _
    rw [range_getD x.en n (j / 4) (by omega)]
    rfl
/-- Assemble, of a text with a line that is none. -/
theorem asmBad (x : Inss) (r : List UInt8) (a n : Nat) (w : World) (hE : Env w) (hn : n ≤ 60) (ha : a ≤ n) (hl : r.length ≤ 100) (hr : ∀ c ∈ r, c ≠ 10) (h : ∀ j, j < n → x.ok j = true) :
    Calls Tryd.prog 20 #[.string (bs (showTo x.by' a ++ [33] ++ r ++ [10] ++ showTo x.by' n))] w fun e w' => e = .returned (.tuple #[.slice none 0 0, .int .i64 ((a + 1 : Nat) : Int), .int .i64 10]) ∧ Below w.heap.size w w' := by
  have hd : ∀ j, j < n → decR (wAt x.by' j) = true := fun j hj => decR_en (h j hj)
  have l1 := showTo_len x.by' a (fun j hj => hd j (by omega))
  have l2 := showTo_len x.by' n hd
  have e : showTo x.by' a ++ [33] ++ r ++ [10] ++ showTo x.by' n = showTo x.by' a ++ ((33 :: r) ++ 10 :: showTo x.by' n) := by simp
  have hL := linesFrom_show x.by' a (fun j hj => hd j (by omega)) 1 ((33 :: r) ++ 10 :: showTo x.by' n)
  rw [linesFrom_line (1 + a) (33 :: r) _ (fun c hc => by
    rcases List.mem_cons.1 hc with rfl | hc
    · decide
    · exact hr c hc)] at hL
  have hcl : ∀ t ∈ (List.range a).map (fun j => (1 + j, lnW (wAt x.by' j))), badX t = false := by
    have := clean_show x.by' a (fun j hj => hd j (by omega))
    rw [lines_show x.by' a (fun j hj => hd j (by omega))] at this
    exact this
  refine (asm_any _ w hE (by rw [bs_size]; simp only [List.length_append, List.length_cons, List.length_nil]; omega)).mono ?_
  rw [bs_toList, e]
  rintro e' w' ⟨⟨q, y, s, h1, h2, h3, rfl⟩ | ⟨h1, _⟩, hb⟩
  · rw [hL] at h1
    have := first_bad h1 hcl (bad33 _ _) h2 h3
    rw [← this]
    exact ⟨by rw [Nat.add_comm], hb⟩
  · have := h1 (1 + a, 33 :: r) (by rw [hL]; simp)
    rw [bad33] at this; cases this
end Go.Proofs.YtebnjhecopmekaaDoor
