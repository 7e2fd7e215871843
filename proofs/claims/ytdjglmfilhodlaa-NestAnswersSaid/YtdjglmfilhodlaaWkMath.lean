/-
  Plain facts of walks: what a walk hangs on, which walks of one page come to one frame, what is allowed; no condition but those that each states.
-/
import Derived.Test.YtdjglmfilhodlaaWkOpen
import Derived.Lib.QuietBelow
namespace Go.Proofs.Ytdjglmfilhodlaa
open Go.ChangeShapes Go.WideShapes Go.ChangeAt Go.RowKit Go.Deep
namespace Wk
open Ph En
theorem tellS_congr {n : Nat} {z : Nat → Int} {root a a' : Int} (h : a / 256 = a' / 256) : tellS n z root a = tellS n z root a' := by
  have e1 : a / 16384 % 64 = a' / 16384 % 64 := by omega
  have e3 : (1048576 ≤ a) = (1048576 ≤ a') := by apply propext; omega
  unfold tellS
  rw [e1, h]
  simp only [e3]
theorem walkS_page {n : Nat} {z : Nat → Int} {root p o acc : Int} (h0 : 0 ≤ o) (h1 : o < 256) : walkS n z root (p * 256 + o) acc = walkS n z root (p * 256) acc := by
  unfold walkS
  rw [tellS_congr (show (p * 256 + o) / 256 = p * 256 / 256 by omega)]
theorem walk_at (m F n c : Nat) (z : Nat → Int) (root a A acc : Int) (w : World) (hM : Mem w m F n c z) (hA : A = a) (h0 : 0 ≤ a) (h1 : a < 4294967296) :
    Calls Try.prog 23 #[.pointer (some ⟨m, 0, none⟩), .int .i64 root, .int .u32 A, .int .i64 acc] w (HitEnd (walkS n z root a acc) w) := by
  subst hA
  exact walk_any m F n c z root A acc w hM h0 h1
theorem look_ok {n : Nat} {z : Nat → Int} {root : Int} {k : Nat} (hk : k < 4096) : (lookS n z root k).ok = ((walkS n z root (k * 256) 0).f == 0) := by
  unfold lookS
  rw [if_pos (by omega)]
  unfold seenOf
  by_cases h : (walkS n z root (k * 256) 0).f = 0
  · rw [if_pos h, h]
    rfl
  · rw [if_neg h]
    exact (beq_eq_false_iff_ne.2 h).symm
theorem _root_.Go.Proofs.Ytdjglmfilhodlaa.Ph.ReadsI.keptO {w w' : World} {pa : Option Addr} {l : List Nat} (h : ReadsI w pa l) (ho : Only [] w w') : ReadsI w' pa l := fun hl => by
  obtain ⟨b, off, e, hc⟩ := h hl
  exact ⟨b, off, e, fun j hj => (ho.cell (World.block_lt_of_cell? w _ (hc j hj)) (by simp) _).trans (hc j hj)⟩
theorem _root_.Go.Proofs.Ytdjglmfilhodlaa.Ph.Row.keptB {w w' : World} {b N B : Nat} {z : Nat → Int} (h : Row w b N z) (hb : Below B w w') (hlt : b < B) : Row w' b N z :=
  ⟨Nat.lt_of_lt_of_le h.lt hb.size, fun j hj => (hb.cell (p := ⟨b, j, none⟩) hlt).trans (h.cell j hj), fun j hj => (hb.frozen (p := ⟨b, j, none⟩) hlt).trans (h.free j hj), h.b8⟩
theorem _root_.Go.Proofs.Ytdjglmfilhodlaa.Ph.Mem.keptB {w w' : World} {m F n c B : Nat} {z : Nat → Int} (h : Mem w m F n c z) (hb : Below B w w') (hm : m < B) (hF : F < B) : Mem w' m F n c z :=
  ⟨Nat.lt_of_lt_of_le h.lt hb.size, (hb.cell (p := ⟨m, 0, none⟩) hm).trans h.head, h.row.keptB hb hF, h.apart, h.few⟩
theorem mask_page (a : Nat) (ha : a < 4294967296) : a &&& 4294967040 = a / 256 * 256 := by
  apply Nat.eq_of_testBit_eq
  intro i
  have e1 : (4294967040 : Nat) = (2 ^ 24 - 1) <<< 8 := by decide
  have e2 : a / 256 * 256 = (a >>> 8) <<< 8 := by rw [Nat.shiftLeft_eq, Nat.shiftRight_eq_div_pow]
  rw [e1, e2, Nat.testBit_and, Nat.testBit_shiftLeft, Nat.testBit_shiftLeft, Nat.testBit_two_pow_sub_one, Nat.testBit_shiftRight]
  by_cases h8 : i ≥ 8
  · rw [show 8 + (i - 8) = i by omega]
    by_cases h24 : i - 8 < 24
    · simp [h8, h24]
    · have : a.testBit i = false := Nat.testBit_lt_two_pow (Nat.lt_of_lt_of_le ha (Nat.pow_le_pow_right (n := 2) (by decide) (show 32 ≤ i by omega)))
      simp [this]
  · simp [h8]
theorem page_bits (a o : Int) (a0 : 0 ≤ a) (a1 : a < 4294967296) (o0 : 0 ≤ o) (o1 : o < 256) : bits .or .u32 (bits .andNot .u32 a 255) o = a / 256 * 256 + o := by
  obtain ⟨A, rfl⟩ := Int.eq_ofNat_of_zero_le a0
  obtain ⟨O, rfl⟩ := Int.eq_ofNat_of_zero_le o0
  have h := u32_andNot_nat A 255 (by omega) (by decide)
  rw [show ((255 : Nat) : Int) = 255 from rfl] at h
  rw [h, show 4294967295 - 255 = 4294967040 from rfl, mask_page A (by omega), u32_or_nat _ _ (by omega) (by omega), nat_join 8 (A / 256 * 256) O (Nat.mul_mod_left _ _) (by omega)]
  omega
/-- A hit with a fault. -/
def ht (k r : Int) : Hit := ⟨k, r, 0, false, false, false⟩
theorem alw0 (V W X : Bool) : alw V W X 0 = V := by cases V <;> rfl
theorem alw1 (V W X : Bool) : alw V W X 1 = (V && W) := by cases V <;> cases W <;> cases X <;> rfl
theorem alw2 (V W X : Bool) : alw V W X 2 = (V && X) := by cases V <;> cases W <;> cases X <;> rfl
theorem hits (n : Nat) (t : Tell) :
    (∃ k kb kc r, k ≠ 0 ∧ hitOf n t 0 = ht k r ∧ hitOf n t 1 = ht kb r ∧ hitOf n t 2 = ht kc r ∧ (kb = k ∨ (kb = 4 ∧ k = 5))) ∨
    (∃ (r F : Int) (W X B : Bool), F < (n : Int) ∧ hitOf n t 0 = ⟨0, r, F, W, X, B⟩ ∧ hitOf n t 1 = (if W = true then ⟨0, r, F, W, X, B⟩ else ht 4 r) ∧ hitOf n t 2 = (if X = true then ⟨0, r, F, W, X, B⟩ else ht 4 r)) := by
  obtain ⟨⟨V, W, X, B, F⟩, r, f⟩ := t
  by_cases hf : f = 0
  · subst hf
    have no : ∀ acc, alw V W X acc = false → hitOf n ⟨⟨V, W, X, B, F⟩, r, 0⟩ acc = ht 4 r := fun acc h => by
      rw [hit_check (by rw [check_no h]; decide), check_no h]; rfl
    have bus : ∀ acc, alw V W X acc = true → inM n F = false → hitOf n ⟨⟨V, W, X, B, F⟩, r, 0⟩ acc = ht 5 r := fun acc h hk => by
      rw [hit_check (by rw [check_bus h hk]; decide), check_bus h hk]; rfl
    have ok : ∀ acc, alw V W X acc = true → inM n F = true → hitOf n ⟨⟨V, W, X, B, F⟩, r, 0⟩ acc = ⟨0, r, F, W, X, B⟩ := fun acc h hk => hit_ok (check_ok h hk)
    cases hV : V
    · subst hV
      exact .inl ⟨4, 4, 4, r, by decide, no 0 (by rw [alw0]), no 1 (by rw [alw1]; rfl), no 2 (by rw [alw2]; rfl), .inl rfl⟩
    · subst hV
      cases hk : inM n F
      · left
        cases hW : W <;> cases hX : X <;> subst hW hX
        · exact ⟨5, 4, 4, r, by decide, bus 0 rfl hk, no 1 rfl, no 2 rfl, .inr ⟨rfl, rfl⟩⟩
        · exact ⟨5, 4, 5, r, by decide, bus 0 rfl hk, no 1 rfl, bus 2 rfl hk, .inr ⟨rfl, rfl⟩⟩
        · exact ⟨5, 5, 4, r, by decide, bus 0 rfl hk, bus 1 rfl hk, no 2 rfl, .inl rfl⟩
        · exact ⟨5, 5, 5, r, by decide, bus 0 rfl hk, bus 1 rfl hk, bus 2 rfl hk, .inl rfl⟩
      · right
        refine ⟨r, F, W, X, B, (inM_true hk).2, ok 0 rfl hk, ?_, ?_⟩
        · cases hW : W <;> subst hW
          · exact no 1 rfl
          · exact ok 1 rfl hk
        · cases hX : X <;> subst hX
          · exact no 2 (by cases W <;> rfl)
          · exact ok 2 (by cases W <;> rfl) hk
  · exact .inl ⟨f, f, f, r, hf, hit_fault hf, hit_fault hf, hit_fault hf, .inl rfl⟩
/-- A frame's bytes are the same. -/
def Ag (z z' : Nat → Int) (q : Nat) : Prop := ∀ j, j < 256 → z' (256 * q + j) = z (256 * q + j)
theorem Ag.refl (z : Nat → Int) (q : Nat) : Ag z z q := fun _ _ => rfl
theorem Ag.put {z z' : Nat → Int} {q : Nat} (h : Ag z z' q) (n a : Nat) (x : Int) (hq : a / 256 ≠ q) : Ag z (pw n z' a x) q := fun j hj => by
  unfold pw
  cases hk : hwA n a
  · rw [if_neg (by decide)]
    exact h j hj
  · rw [if_pos rfl]
    obtain ⟨h4, _⟩ := hwA_true hk
    unfold putw
    rw [if_neg (by omega)]
    exact h j hj
theorem Ag.slot {z z' : Nat → Int} {q : Nat} (h : Ag z z' q) (n : Nat) (i : Int) (i0 : 0 ≤ i) (i1 : i < 64) : slotE n z' q i = slotE n z q i := by
  obtain ⟨i, rfl⟩ := Int.eq_ofNat_of_zero_le i0
  unfold slotE wAt
  have e : (256 * (q : Int) + 4 * (i : Int)).toNat = 256 * q + 4 * i := by omega
  rw [e]
  unfold rdw
  cases hwA n (256 * q + 4 * i)
  · rfl
  · rw [if_pos rfl, if_pos rfl]
    have h0 := h (4 * i) (by omega)
    have h1 := h (4 * i + 1) (by omega)
    have h2 := h (4 * i + 2) (by omega)
    have h3 := h (4 * i + 3) (by omega)
    rw [show 256 * q + 4 * i + 1 = 256 * q + (4 * i + 1) by omega, show 256 * q + 4 * i + 2 = 256 * q + (4 * i + 2) by omega, show 256 * q + 4 * i + 3 = 256 * q + (4 * i + 3) by omega, h0, h1, h2, h3]
/-- What an address hangs on is the same. -/
def Same (z z' : Nat → Int) (E : Ent) : Prop := Ag z z' 0 ∧ (E.V = true → E.B = false → ∀ q : Nat, E.F = q → Ag z z' q)
theorem walkS_same {n : Nat} {z z' : Nat → Int} {a acc : Int} (h : Same z z' (slotE n z 0 (a / 16384 % 64))) : walkS n z' 0 a acc = walkS n z 0 a acc := by
  have e1 : slotE n z' 0 (a / 16384 % 64) = slotE n z 0 (a / 16384 % 64) := h.1.slot n _ (by omega) (by omega)
  unfold walkS
  suffices e : tellS n z' 0 a = tellS n z 0 a by rw [e]
  unfold tellS
  rw [e1]
  obtain ⟨⟨V, W, X, B, F⟩, hE⟩ : ∃ E, slotE n z 0 (a / 16384 % 64) = E := ⟨_, rfl⟩
  rw [hE] at h ⊢
  cases V
  · simp only [if_true]
  · cases B
    · cases hk : inM n F
      · simp only [if_true]
      · obtain ⟨f0, f1⟩ := inM_true hk
        obtain ⟨q, rfl⟩ := Int.eq_ofNat_of_zero_le f0
        have e2 : slotE n z' q (a / 256 % 64) = slotE n z q (a / 256 % 64) := (h.2 rfl rfl q rfl).slot n _ (by omega) (by omega)
        simp only [e2]
    · simp only [if_true]
theorem Six.keptS {w w' : World} {b : Nat} {f r F : Int} {W X B : Bool} {S : List Nat} (h : Six w b f r F W X B) (ho : Only S w w') (hn : b ∉ S) : Six w' b f r F W X B := by
  have hlt := block_lt_of_cell h.c0
  exact ⟨(ho.cell hlt hn 0).trans h.c0, (ho.cell hlt hn 1).trans h.c1, (ho.cell hlt hn 2).trans h.c2, (ho.cell hlt hn 3).trans h.c3, (ho.cell hlt hn 4).trans h.c4, (ho.cell hlt hn 5).trans h.c5⟩
theorem _root_.Go.Proofs.Ytdjglmfilhodlaa.En.Five.keptS {w w' : World} {b : Nat} {V W X B : Bool} {f : Int} {S : List Nat} (h : Five w b V W X B f) (ho : Only S w w') (hn : b ∉ S) : Five w' b V W X B f := by
  have hlt := block_lt_of_cell h.c0
  exact ⟨(ho.cell hlt hn 0).trans h.c0, (ho.cell hlt hn 1).trans h.c1, (ho.cell hlt hn 2).trans h.c2, (ho.cell hlt hn 3).trans h.c3, (ho.cell hlt hn 4).trans h.c4⟩
theorem dl_self (z : Nat → Int) (n : Nat) : dl z z n = [] := by
  unfold dl
  rw [List.filter_eq_nil_iff]
  intro k _
  simp [eqN]
theorem look_walk {n : Nat} {z : Nat → Int} {root a : Int} (a0 : 0 ≤ a) : lookS n z root (a / 256) = seenOf (walkS n z root a 0) := by
  unfold lookS
  by_cases h : a < 1048576
  · rw [if_pos (by omega)]
    unfold walkS
    rw [tellS_congr (show a / 256 * 256 / 256 = a / 256 by omega)]
  · rw [if_neg (by omega)]
    unfold walkS
    rw [tell_addr (by omega), hit_fault (by decide)]
    rfl
end Wk
end Go.Proofs.Ytdjglmfilhodlaa
