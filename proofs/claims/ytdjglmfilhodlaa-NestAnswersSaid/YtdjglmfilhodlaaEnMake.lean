/-
  What entry's Encode, Allows and Both and the document's own Encode, Decode and Allows answer, at every argument; no condition but that each argument is of its Go type.
-/
import Derived.Test.YtdjglmfilhodlaaEnBase
namespace Go.Proofs.Ytdjglmfilhodlaa
open Go.RowKit Nt
namespace En

/-- A bit as a number. -/
def b1 (b : Bool) : Int := if b then 1 else 0
theorem b1_lt (b : Bool) : 0 ≤ b1 b ∧ b1 b ≤ 1 := by cases b <;> decide
/-- An entry's word: as much of the frame as there is room for. -/
def lw (V W X B : Bool) (F : Int) : Int := 256 * (F % 65536) + b1 V + 2 * b1 W + 4 * b1 X + 8 * b1 B
theorem lw_lt (V W X B : Bool) (F : Int) : 0 ≤ lw V W X B F ∧ lw V W X B F < 16777216 := by
  have := b1_lt V
  have := b1_lt W
  have := b1_lt X
  have := b1_lt B
  unfold lw
  omega
/-! ### Allows -/
/-- Does an entry allow an access? -/
def alw (V W X : Bool) (a : Int) : Bool := V && (a == 0 || (a == 1 && W) || (a == 2 && X))
theorem allows_any (V W X B : Bool) (F a : Int) (w : World) :
    Calls Try.prog 20 #[.agg #[.bool V, .bool W, .bool X, .bool B, .int .i64 F], .int .i64 a] w fun e w' => e = .returned (.bool (alw V W X a)) ∧ Below w.heap.size w w' := by
  have bel := fun o => (Below.refl w.heap.size w).alloc (Nat.le_refl _) o
  by_cases h0 : a = 0
  · subst h0
    go_enter Try.func20, Try.ntmps20
    go_wp2
    go_ret
    exact ⟨by cases V <;> rfl, bel _⟩
  have d0 : (a == 0) = false := by simpa using h0
  by_cases h1 : a = 1
  · subst h1
    cases V
    all_goals
      go_enter Try.func20, Try.ntmps20
      go_wp2
      go_ret
      exact ⟨by cases W <;> cases X <;> rfl, bel _⟩
  have d1 : (a == 1) = false := by simpa using h1
  by_cases h2 : a = 2
  · subst h2
    cases V
    all_goals
      go_enter Try.func20, Try.ntmps20
      go_wp2
      go_ret
      exact ⟨by cases W <;> cases X <;> rfl, bel _⟩
  have d2 : (a == 2) = false := by simpa using h2
  go_enter Try.func20, Try.ntmps20
  go_wp2
  go_ret
  exact ⟨by unfold alw; rw [d0, d1, d2]; cases V <;> rfl, bel _⟩
/-! ### lay -/
theorem putN_sum (w a n v : Nat) (h1 : w < 2 ^ a) (h2 : v < 2 ^ n) : putN w a n v = w + v * 2 ^ a := by
  unfold putN
  have h3 : w / 2 ^ (a + n) = 0 := Nat.div_eq_of_lt (Nat.lt_of_lt_of_le h1 (Nat.pow_le_pow_right (by decide) (by omega)))
  rw [Nat.mod_eq_of_lt h2, h3, Nat.zero_mul, Nat.or_zero]
  have := low_or w a v
  rw [Nat.mod_eq_of_lt h1] at this ⊢
  exact this
theorem putN_parts (w a n v : Nat) : putN w a n v = w % 2 ^ a + v % 2 ^ n * 2 ^ a + w / 2 ^ (a + n) * 2 ^ (a + n) := by
  unfold putN
  rw [low_or w a (v % 2 ^ n)]
  have h : w % 2 ^ a + v % 2 ^ n * 2 ^ a < 2 ^ (a + n) := by
    have h1 : w % 2 ^ a < 2 ^ a := Nat.mod_lt _ (Nat.two_pow_pos a)
    have h2 : v % 2 ^ n < 2 ^ n := Nat.mod_lt _ (Nat.two_pow_pos n)
    rw [Nat.pow_add]
    calc w % 2 ^ a + v % 2 ^ n * 2 ^ a < 2 ^ a + v % 2 ^ n * 2 ^ a := by omega
      _ = (v % 2 ^ n + 1) * 2 ^ a := by rw [Nat.add_mul]; omega
      _ ≤ 2 ^ n * 2 ^ a := Nat.mul_le_mul_right _ h2
      _ = 2 ^ a * 2 ^ n := Nat.mul_comm _ _
  have := low_or (w % 2 ^ a + v % 2 ^ n * 2 ^ a) (a + n) (w / 2 ^ (a + n))
  rw [Nat.mod_eq_of_lt h] at this
  exact this
theorem putN_one (v i : Nat) (h : v / 2 ^ i % 2 = 0) : putN v i 1 1 = v + 2 ^ i := by
  rw [putN_parts]
  have e1 : 2 ^ (i + 1) = 2 ^ i * 2 := Nat.pow_succ ..
  have e2 : v / 2 ^ (i + 1) = v / 2 ^ i / 2 := by rw [e1, Nat.div_div_eq_div_mul]
  have e3 := Nat.div_add_mod v (2 ^ i)
  have e4 : v / 2 ^ i / 2 * (2 ^ i * 2) = 2 ^ i * (v / 2 ^ i) := by
    rw [Nat.mul_comm (2 ^ i) 2, ← Nat.mul_assoc, show v / 2 ^ i / 2 * 2 = v / 2 ^ i by omega, Nat.mul_comm]
  rw [e2, e1, e4]
  omega
/-- A bit as a number. -/
def n1 (b : Bool) (i : Nat) : Nat := if b then 2 ^ i else 0
theorem n1_b1 (b : Bool) (i : Nat) : (n1 b i : Int) = 2 ^ i * b1 b := by cases b <;> simp [n1, b1]
theorem n1_lt (b : Bool) (i : Nat) : n1 b i = 0 ∨ n1 b i = 2 ^ i := by cases b <;> simp [n1]
/-- An entry's cells. -/
structure Five (w : World) (b : Nat) (V W X B : Bool) (F : Int) : Prop where
  c0 : w.cell? ⟨b, 0, none⟩ = some (.bool V)
  c1 : w.cell? ⟨b, 1, none⟩ = some (.bool W)
  c2 : w.cell? ⟨b, 2, none⟩ = some (.bool X)
  c3 : w.cell? ⟨b, 3, none⟩ = some (.bool B)
  c4 : w.cell? ⟨b, 4, none⟩ = some (.int .i64 F)
theorem Five.kept {w w' : World} {b N : Nat} {V W X B : Bool} {F : Int} (h : Five w b V W X B F) (hb : Below N w w') (hlt : b < N) : Five w' b V W X B F :=
  ⟨(hb.cell (p := ⟨b, 0, none⟩) hlt).trans h.c0, (hb.cell (p := ⟨b, 1, none⟩) hlt).trans h.c1, (hb.cell (p := ⟨b, 2, none⟩) hlt).trans h.c2, (hb.cell (p := ⟨b, 3, none⟩) hlt).trans h.c3, (hb.cell (p := ⟨b, 4, none⟩) hlt).trans h.c4⟩
theorem five_new (w : World) (V W X B : Bool) (F : Int) (t : TypeId) : Five (w.alloc (.cells #[.bool V, .bool W, .bool X, .bool B, .int .i64 F] t)) w.heap.size V W X B F := by
  constructor <;> simp
theorem one_new2 (w : World) (o : Obj) (v : Value) (t : TypeId) : ((w.alloc o).alloc (.cells #[v] t)).heap[w.heap.size + 1]? = some (.cells #[v] t (0, 0)) := by
  have h : (w.alloc o).heap.size = w.heap.size + 1 := by simp
  rw [← h]
  exact heap_alloc_new _ _
/-! ### Encode -/
theorem Five.kept' {w w' : World} {b : Nat} {V W X B : Bool} {F : Int} (h : Five w b V W X B F) (hb : Below w.heap.size w w') : Five w' b V W X B F := h.kept hb (block_lt_of_cell h.c0)
/-- Has an entry a word? -/
def gd (V W X B : Bool) (F : Int) : Bool := if V then decide (0 ≤ F) && decide (F ≤ 65535) else !W && !X && !B && F == 0
theorem lw_dec (V W X B : Bool) (F : Int) : dV (lw V W X B F) = V ∧ dW (lw V W X B F) = (V && W) ∧ dX (lw V W X B F) = (V && X) ∧ dB (lw V W X B F) = (V && B) ∧ dF (lw V W X B F) = if V then F % 65536 else 0 := by
  unfold dV dW dX dB dF lw
  cases V <;> cases W <;> cases X <;> cases B <;> simp [b1] <;> omega
end En
end Go.Proofs.Ytdjglmfilhodlaa
