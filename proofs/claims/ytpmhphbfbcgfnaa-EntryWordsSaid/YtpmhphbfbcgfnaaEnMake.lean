/-
  What entry's Encode, Allows and Both and the document's own Encode, Decode and Allows answer, at every argument; no condition but that each argument is of its Go type.
-/
import Derived.Test.YtpmhphbfbcgfnaaEnBase
namespace Go.Proofs.Ytpmhphbfbcgfnaa
open Go.RowKit Nt
namespace En

/-- A bit as a number. -/
def b1 (b : Bool) : Int := if b then 1 else 0
theorem b1_lt (b : Bool) : 0 ≤ b1 b ∧ b1 b ≤ 1 := by cases b <;> decide
/-- An entry's word: as much of the frame as there is room for. -/
def lw (V W X B : Bool) (F : Int) : Int := 256 * (F % 65536) + b1 V + 2 * b1 W + 4 * b1 X + 8 * b1 B
theorem lw_lt (V W X B : Bool) (F : Int) : 0 ≤ lw V W X B F ∧ lw V W X B F < 16777216 := by
  have := b1_lt V
  have := b1_lt W
  have := b1_lt X
  have := b1_lt B
  unfold lw
  omega
/-! ### Allows -/
/-- Does an entry allow an access? -/
def alw (V W X : Bool) (a : Int) : Bool := V && (a == 0 || (a == 1 && W) || (a == 2 && X))
theorem allows_any (V W X B : Bool) (F a : Int) (w : World) :
    Calls Try.prog 13 #[.agg #[.bool V, .bool W, .bool X, .bool B, .int .i64 F], .int .i64 a] w fun e w' => e = .returned (.bool (alw V W X a)) ∧ Below w.heap.size w w' := by
  have bel := fun o => (Below.refl w.heap.size w).alloc (Nat.le_refl _) o
  by_cases h0 : a = 0
  · subst h0
    go_enter Try.func13, Try.ntmps13
    go_wp2
    go_ret
    exact ⟨by cases V <;> rfl, bel _⟩
  have d0 : (a == 0) = false := by simpa using h0
  by_cases h1 : a = 1
  · subst h1
    cases V
    all_goals
      go_enter Try.func13, Try.ntmps13
      go_wp2
      go_ret
      exact ⟨by cases W <;> cases X <;> rfl, bel _⟩
  have d1 : (a == 1) = false := by simpa using h1
  by_cases h2 : a = 2
  · subst h2
    cases V
    all_goals
      go_enter Try.func13, Try.ntmps13
      go_wp2
      go_ret
      exact ⟨by cases W <;> cases X <;> rfl, bel _⟩
  have d2 : (a == 2) = false := by simpa using h2
  go_enter Try.func13, Try.ntmps13
  go_wp2
  go_ret
  exact ⟨by unfold alw; rw [d0, d1, d2]; cases V <;> rfl, bel _⟩
/-! ### lay -/
theorem putN_sum (w a n v : Nat) (h1 : w < 2 ^ a) (h2 : v < 2 ^ n) : putN w a n v = w + v * 2 ^ a := by
  unfold putN
  have h3 : w / 2 ^ (a + n) = 0 := Nat.div_eq_of_lt (Nat.lt_of_lt_of_le h1 (Nat.pow_le_pow_right (by decide) (by omega)))
  rw [Nat.mod_eq_of_lt h2, h3, Nat.zero_mul, Nat.or_zero]
  have := low_or w a v
  rw [Nat.mod_eq_of_lt h1] at this ⊢
  exact this
theorem putN_parts (w a n v : Nat) : putN w a n v = w % 2 ^ a + v % 2 ^ n * 2 ^ a + w / 2 ^ (a + n) * 2 ^ (a + n) := by
  unfold putN
  rw [low_or w a (v % 2 ^ n)]
  have h : w % 2 ^ a + v % 2 ^ n * 2 ^ a < 2 ^ (a + n) := by
    have h1 : w % 2 ^ a < 2 ^ a := Nat.mod_lt _ (Nat.two_pow_pos a)
    have h2 : v % 2 ^ n < 2 ^ n := Nat.mod_lt _ (Nat.two_pow_pos n)
    rw [Nat.pow_add]
    calc w % 2 ^ a + v % 2 ^ n * 2 ^ a < 2 ^ a + v % 2 ^ n * 2 ^ a := by omega
      _ = (v % 2 ^ n + 1) * 2 ^ a := by rw [Nat.add_mul]; omega
      _ ≤ 2 ^ n * 2 ^ a := Nat.mul_le_mul_right _ h2
      _ = 2 ^ a * 2 ^ n := Nat.mul_comm _ _
  have := low_or (w % 2 ^ a + v % 2 ^ n * 2 ^ a) (a + n) (w / 2 ^ (a + n))
  rw [Nat.mod_eq_of_lt h] at this
  exact this
theorem putN_one (v i : Nat) (h : v / 2 ^ i % 2 = 0) : putN v i 1 1 = v + 2 ^ i := by
  rw [putN_parts]
  have e1 : 2 ^ (i + 1) = 2 ^ i * 2 := Nat.pow_succ ..
  have e2 : v / 2 ^ (i + 1) = v / 2 ^ i / 2 := by rw [e1, Nat.div_div_eq_div_mul]
  have e3 := Nat.div_add_mod v (2 ^ i)
  have e4 : v / 2 ^ i / 2 * (2 ^ i * 2) = 2 ^ i * (v / 2 ^ i) := by
    rw [Nat.mul_comm (2 ^ i) 2, ← Nat.mul_assoc, show v / 2 ^ i / 2 * 2 = v / 2 ^ i by omega, Nat.mul_comm]
  rw [e2, e1, e4]
  omega
/-- A bit as a number. -/
def n1 (b : Bool) (i : Nat) : Nat := if b then 2 ^ i else 0
theorem n1_b1 (b : Bool) (i : Nat) : (n1 b i : Int) = 2 ^ i * b1 b := by cases b <;> simp [n1, b1]
theorem n1_lt (b : Bool) (i : Nat) : n1 b i = 0 ∨ n1 b i = 2 ^ i := by cases b <;> simp [n1]
theorem tell_any (b i v : Nat) (I : Int) (on : Bool) (w : World) (hv : w.heap[b]? = some (.cells #[.int .u32 v] 24 (0, 0))) (h1 : v < 4294967296) (hI : I = i) (hi : i < 32) (hz : v / 2 ^ i % 2 = 0) :
    Calls Try.prog 28 #[.int .i64 I, .bool on, .pointer (some ⟨b, 0, none⟩)] w fun e w' => e = .returned (.tuple #[]) ∧ w'.heap[b]? = some (.cells #[.int .u32 ((v + n1 on i : Nat) : Int)] 24 (0, 0)) ∧ ∀ B, B ≤ b → Below B w w' := by
  subst hI
  have hc := cell_of_one hv
  have hf := free_of_one hv
  have HV := Lib.hid hv
  clear hv
  cases on
  · go_enter Try.func28, Try.ntmps28
    go_wp2
    go_end0
    exact ⟨rfl, HV.out, fun B _ => Below.refl _ _⟩
  · have HZ := Lib.hid hz
    clear hz
    go_enter Try.func28, Try.ntmps28
    go_wp2_with fail
    refine (put_yes v i 1 1 _ (by omega) (by omega) (by omega) (by omega)).mono ?_
    rintro e w1 ⟨rfl, rfl⟩
    go_wp2
    go_end0
    refine ⟨rfl, ?_, fun B hB => (Below.refl _ _).setCell hB _⟩
    rw [one_setCell HV.out, putN_one v i HZ.out]
    rfl
/-- An entry's cells. -/
structure Five (w : World) (b : Nat) (V W X B : Bool) (F : Int) : Prop where
  c0 : w.cell? ⟨b, 0, none⟩ = some (.bool V)
  c1 : w.cell? ⟨b, 1, none⟩ = some (.bool W)
  c2 : w.cell? ⟨b, 2, none⟩ = some (.bool X)
  c3 : w.cell? ⟨b, 3, none⟩ = some (.bool B)
  c4 : w.cell? ⟨b, 4, none⟩ = some (.int .i64 F)
theorem Five.kept {w w' : World} {b N : Nat} {V W X B : Bool} {F : Int} (h : Five w b V W X B F) (hb : Below N w w') (hlt : b < N) : Five w' b V W X B F :=
  ⟨(hb.cell (p := ⟨b, 0, none⟩) hlt).trans h.c0, (hb.cell (p := ⟨b, 1, none⟩) hlt).trans h.c1, (hb.cell (p := ⟨b, 2, none⟩) hlt).trans h.c2, (hb.cell (p := ⟨b, 3, none⟩) hlt).trans h.c3, (hb.cell (p := ⟨b, 4, none⟩) hlt).trans h.c4⟩
theorem five_new (w : World) (V W X B : Bool) (F : Int) (t : TypeId) : Five (w.alloc (.cells #[.bool V, .bool W, .bool X, .bool B, .int .i64 F] t)) w.heap.size V W X B F := by
  constructor <;> simp
theorem one_new2 (w : World) (o : Obj) (v : Value) (t : TypeId) : ((w.alloc o).alloc (.cells #[v] t)).heap[w.heap.size + 1]? = some (.cells #[v] t (0, 0)) := by
  have h : (w.alloc o).heap.size = w.heap.size + 1 := by simp
  rw [← h]
  exact heap_alloc_new _ _
theorem put16 (x : Int) (r : Nat) (w : World) (h0 : 0 ≤ x) (hr : (r : Int) = 256 * (x % 65536)) :
    Calls Try.prog 27 #[.int .u32 0, .int .i64 8, .int .i64 16, .int .u32 x] w fun e w' => e = .returned (.int .u32 r) ∧ w = w' := by
  obtain ⟨x, rfl⟩ := Int.eq_ofNat_of_zero_le h0
  refine (put_yes 0 8 16 x w (by omega) (by omega) (by omega) (by omega)).mono ?_
  rintro e w' ⟨rfl, rfl⟩
  refine ⟨ret_u32 ?_, rfl⟩
  rw [putN_parts]
  omega
set_option maxHeartbeats 1000000 in
theorem lay_any (V W X B : Bool) (F : Int) (w : World) :
    Calls Try.prog 22 #[.agg #[.bool V, .bool W, .bool X, .bool B, .int .i64 F]] w fun e w' => e = .returned (.int .u32 (lw V W X B F)) ∧ Below w.heap.size w w' := by
  have f0 : 0 ≤ F % 4294967296 := by omega
  obtain ⟨f, hf⟩ : ∃ f : Nat, (f : Int) = F % 65536 := ⟨(F % 65536).toNat, by omega⟩
  have k0 := n1_lt V 0
  have k1 := n1_lt W 1
  have k2 := n1_lt X 2
  have k3 := n1_lt B 3
  have hr : ((256 * f : Nat) : Int) = 256 * (F % 4294967296 % 65536) := by omega
  have er : lw V W X B F = ((256 * f + n1 V 0 + n1 W 1 + n1 X 2 + n1 B 3 : Nat) : Int) := by
    have p0 := n1_b1 V 0
    have p1 := n1_b1 W 1
    have p2 := n1_b1 X 2
    have p3 := n1_b1 B 3
    unfold lw
    omega
  have g0 : 256 * f < 16777216 := by omega
  have z0 : 256 * f / 2 ^ 0 % 2 = 0 := by omega
  have z1 : (256 * f + n1 V 0) / 2 ^ 1 % 2 = 0 := by omega
  have z2 : (256 * f + n1 V 0 + n1 W 1) / 2 ^ 2 % 2 = 0 := by omega
  have z3 : (256 * f + n1 V 0 + n1 W 1 + n1 X 2) / 2 ^ 3 % 2 = 0 := by omega
  have l1 : 256 * f + n1 V 0 < 4294967296 := by omega
  have l2 : 256 * f + n1 V 0 + n1 W 1 < 4294967296 := by omega
  have l3 : 256 * f + n1 V 0 + n1 W 1 + n1 X 2 < 4294967296 := by omega
  obtain ⟨r0, e0⟩ : ∃ r : Nat, r = 256 * f := ⟨_, rfl⟩
  obtain ⟨r1, e1⟩ : ∃ r : Nat, r = r0 + n1 V 0 := ⟨_, rfl⟩
  obtain ⟨r2, e2⟩ : ∃ r : Nat, r = r1 + n1 W 1 := ⟨_, rfl⟩
  obtain ⟨r3, e3⟩ : ∃ r : Nat, r = r2 + n1 X 2 := ⟨_, rfl⟩
  obtain ⟨r4, e4⟩ : ∃ r : Nat, r = r3 + n1 B 3 := ⟨_, rfl⟩
  rw [← e0] at z0 z1 z2 z3 l1 l2 l3 g0 hr er
  rw [← e1] at z1 z2 z3 l1 l2 l3 er
  rw [← e2] at z2 z3 l2 l3 er
  rw [← e3] at z3 l3 er
  rw [← e4] at er
  rw [er]
  clear er k0 k1 k2 k3 hf e0
  have E1 := Lib.hid e1
  have E2 := Lib.hid e2
  have E3 := Lib.hid e3
  have E4 := Lib.hid e4
  have Z0 := Lib.hid z0
  have Z1 := Lib.hid z1
  have Z2 := Lib.hid z2
  have Z3 := Lib.hid z3
  clear e1 e2 e3 e4 z0 z1 z2 z3
  go_enter Try.func22, Try.ntmps22
  go_wp2_with fail
  refine (put16 _ r0 _ f0 hr).mono ?_
  rintro e w1 ⟨rfl, rfl⟩
  clear hr f0
  go_wp2_with fail
  have H0 := Lib.hid (five_new w V W X B F 23)
  have bl : Below w.heap.size w ((w.alloc (.cells #[.bool V, .bool W, .bool X, .bool B, .int .i64 F] 23)).alloc (.cells #[.int .u32 r0] 24)) := ((Below.refl _ _).alloc (Nat.le_refl _) _).alloc (by simp) _
  have hv : ((w.alloc (.cells #[.bool V, .bool W, .bool X, .bool B, .int .i64 F] 23)).alloc (.cells #[.int .u32 r0] 24)).heap[w.heap.size + 1]? = some (.cells #[.int .u32 r0] 24 (0, 0)) := one_new2 w _ _ _
  have H1 := Lib.hid (H0.out.kept (w' := (w.alloc (.cells #[.bool V, .bool W, .bool X, .bool B, .int .i64 F] 23)).alloc (.cells #[.int .u32 r0] 24)) (N := w.heap.size + 1) ((Below.refl _ _).alloc (by simp) _) (by omega))
  clear H0
  revert H1 bl hv
  generalize (w.alloc (.cells #[.bool V, .bool W, .bool X, .bool B, .int .i64 F] 23)).alloc (.cells #[.int .u32 r0] 24) = u0
  intro bl hv H1
  refine (tell_any _ 0 r0 0 V _ hv (by omega) rfl (by omega) Z0.out).mono ?_
  rintro e u1 ⟨rfl, hv1, b1⟩
  rw [← E1.out] at hv1
  have q1 := H1.out.kept (b1 _ (Nat.le_refl _)) (by omega)
  have bl1 := bl.trans (b1 _ (by omega))
  have Q1 := Lib.hid q1
  have BL1 := Lib.hid bl1
  have HV1 := Lib.hid hv1
  have c1 := q1.c1
  clear b1 H1 bl bl1 hv hv1 q1
  go_wp2_with fail
  refine (tell_any _ 1 r1 1 W _ HV1.out (by omega) rfl (by omega) Z1.out).mono ?_
  rintro e u2 ⟨rfl, hv2, b2⟩
  rw [← E2.out] at hv2
  have q2 := Q1.out.kept (b2 _ (Nat.le_refl _)) (by omega)
  have BL2 := Lib.hid (BL1.out.trans (b2 _ (by omega)))
  have Q2 := Lib.hid q2
  have HV2 := Lib.hid hv2
  have c2 := q2.c2
  clear b2 Q1 BL1 HV1 hv2 q2 c1
  go_wp2_with fail
  refine (tell_any _ 2 r2 2 X _ HV2.out (by omega) rfl (by omega) Z2.out).mono ?_
  rintro e u3 ⟨rfl, hv3, b3⟩
  rw [← E3.out] at hv3
  have q3 := Q2.out.kept (b3 _ (Nat.le_refl _)) (by omega)
  have BL3 := Lib.hid (BL2.out.trans (b3 _ (by omega)))
  have Q3 := Lib.hid q3
  have HV3 := Lib.hid hv3
  have c3 := q3.c3
  clear b3 Q2 BL2 HV2 hv3 q3 c2
  go_wp2_with fail
  refine (tell_any _ 3 r3 3 B _ HV3.out (by omega) rfl (by omega) Z3.out).mono ?_
  rintro e u4 ⟨rfl, hv4, b4⟩
  rw [← E4.out] at hv4
  have BL4 := Lib.hid (BL3.out.trans (b4 _ (by omega)))
  have c4 := cell_of_one hv4
  clear b4 Q3 BL3 HV3 hv4 c3
  go_wp2
  go_ret
  exact ⟨rfl, BL4.out⟩
/-! ### Encode -/
theorem Five.kept' {w w' : World} {b : Nat} {V W X B : Bool} {F : Int} (h : Five w b V W X B F) (hb : Below w.heap.size w w') : Five w' b V W X B F := h.kept hb (block_lt_of_cell h.c0)
/-- Has an entry a word? -/
def gd (V W X B : Bool) (F : Int) : Bool := if V then decide (0 ≤ F) && decide (F ≤ 65535) else !W && !X && !B && F == 0
theorem lw_dec (V W X B : Bool) (F : Int) : dV (lw V W X B F) = V ∧ dW (lw V W X B F) = (V && W) ∧ dX (lw V W X B F) = (V && X) ∧ dB (lw V W X B F) = (V && B) ∧ dF (lw V W X B F) = if V then F % 65536 else 0 := by
  unfold dV dW dX dB dF lw
  cases V <;> cases W <;> cases X <;> cases B <;> simp [b1] <;> omega
end En
end Go.Proofs.Ytpmhphbfbcgfnaa
