/-
  What walk's has, slot, tells, check, Walk and Look answer, at every argument; conditions: that a memory lies there, and that each argument is of its Go type.
-/
import Derived.Test.YtdjglmfilhodlaaPhTold
import Derived.Test.YtdjglmfilhodlaaEnRef
namespace Go.Proofs.Ytdjglmfilhodlaa
open Go.RowKit Nt
namespace Wk
open Ph En

/-! ### Plain functions -/
/-- An entry. -/
structure Ent where
  V : Bool
  W : Bool
  X : Bool
  B : Bool
  F : Int
def Ent.val (e : Ent) : Value := .agg #[.bool e.V, .bool e.W, .bool e.X, .bool e.B, .int .i64 e.F]
def e0 : Ent := ⟨false, false, false, false, 0⟩
/-- The entry of a word. -/
def entOf (v : Int) : Ent := ⟨dV v, dW v, dX v, dB v, dF v⟩
/-- Is a frame in memory? -/
def inM (n : Nat) (k : Int) : Bool := decide (0 ≤ k) && decide (k < n)
theorem inM_true {n : Nat} {k : Int} (h : inM n k = true) : 0 ≤ k ∧ k < n := by unfold inM at h; simpa using h
theorem inM_false {n : Nat} {k : Int} (h : inM n k = false) : ¬ (0 ≤ k ∧ k < n) := by unfold inM at h; simp at h; omega
theorem inM_yes {n : Nat} {k : Int} (h : 0 ≤ k ∧ k < n) : inM n k = true := by unfold inM; simp; omega
theorem inM_no {n : Nat} {k : Int} (h : ¬ (0 ≤ k ∧ k < n)) : inM n k = false := by unfold inM; simp; omega
/-- The word at an index of a table. -/
def wAt (n : Nat) (z : Nat → Int) (t i : Int) : Int := rdw n z (256 * t + 4 * i).toNat
def slotE (n : Nat) (z : Nat → Int) (t i : Int) : Ent := entOf (wAt n z t i)
/-- What tells an address: the entry, how many were read, the fault. -/
structure Tell where
  e : Ent
  r : Int
  f : Int
def tellS (n : Nat) (z : Nat → Int) (root a : Int) : Tell :=
  if 1048576 ≤ a then ⟨e0, 0, 1⟩
  else if inM n root = false then ⟨e0, 0, 5⟩
  else if (slotE n z root (a / 16384 % 64)).V = false then ⟨e0, 1, 2⟩
  else if (slotE n z root (a / 16384 % 64)).B = true then ⟨{ slotE n z root (a / 16384 % 64) with F := (slotE n z root (a / 16384 % 64)).F + a / 256 % 64 }, 1, 0⟩
  else if inM n (slotE n z root (a / 16384 % 64)).F = false then ⟨e0, 1, 5⟩
  else if (slotE n z (slotE n z root (a / 16384 % 64)).F (a / 256 % 64)).V = false then ⟨e0, 2, 3⟩
  else ⟨{ slotE n z (slotE n z root (a / 16384 % 64)).F (a / 256 % 64) with B := false }, 2, 0⟩
def checkS (n : Nat) (e : Ent) (acc : Int) : Int := if alw e.V e.W e.X acc = false then 4 else if inM n e.F = false then 5 else 0
/-- What a walk comes to. -/
structure Hit where
  f : Int
  r : Int
  F : Int
  W : Bool
  X : Bool
  B : Bool
def Hit.val (h : Hit) : Value := .agg #[.int .i64 h.f, .int .i64 h.r, .int .i64 h.F, .bool h.W, .bool h.X, .bool h.B]
def hitOf (n : Nat) (t : Tell) (acc : Int) : Hit :=
  if t.f ≠ 0 then ⟨t.f, t.r, 0, false, false, false⟩
  else if checkS n t.e acc ≠ 0 then ⟨checkS n t.e acc, t.r, 0, false, false, false⟩
  else ⟨0, t.r, t.e.F, t.e.W, t.e.X, t.e.B⟩
def walkS (n : Nat) (z : Nat → Int) (root a acc : Int) : Hit := hitOf n (tellS n z root a) acc

/-! ### Numbers -/
theorem word4_lt {z0 z1 z2 z3 : Int} (k0 : B8 z0) (k1 : B8 z1) (k2 : B8 z2) (k3 : B8 z3) : 0 ≤ word4 z0 z1 z2 z3 ∧ word4 z0 z1 z2 z3 < 4294967296 := by
  obtain ⟨a0, b0⟩ := k0; obtain ⟨a1, b1⟩ := k1; obtain ⟨a2, b2⟩ := k2; obtain ⟨a3, b3⟩ := k3
  unfold word4
  omega
theorem rdw_lt {n : Nat} {z : Nat → Int} (h8 : ∀ j, j < 256 * n → B8 (z j)) (a : Nat) : 0 ≤ rdw n z a ∧ rdw n z a < 4294967296 := by
  unfold rdw
  split
  · rename_i h
    obtain ⟨h4, h3⟩ := hwA_true h
    exact word4_lt (h8 _ (by omega)) (h8 _ (by omega)) (h8 _ (by omega)) (h8 _ (by omega))
  · exact ⟨by omega, by omega⟩
theorem dF_lt (v : Int) : 0 ≤ dF v ∧ dF v < 65536 := by unfold dF; split <;> omega
theorem hwA_at {n q i : Nat} (hq : q < n) (hi : i < 64) : hwA n (256 * q + 4 * i) = true := by unfold hwA; simp; omega

/-! ### Cells of an entry, of a hit -/
theorem Five.all {w : World} {b : Nat} {V W X B : Bool} {F : Int} {t : TypeId} {q : Nat × Nat} (h : w.heap[b]? = some (.cells #[.bool V, .bool W, .bool X, .bool B, .int .i64 F] t q)) : Five w b V W X B F := by
  constructor <;> simp [World.cell?, h]
theorem drewB {B : Nat} {a w : World} (h : Below B a w) (n : Nat) : Below B a (w.drewN n) := ⟨h.os, h.tape, h.output, h.size, h.block⟩
/-- A block that may be written. -/
def Free (w : World) (b : Nat) : Prop := b < w.heap.size ∧ ∀ i, w.frozen? ⟨b, i, none⟩ = false
theorem free_new (w : World) (vs : Array Value) (t : TypeId) : Free (w.alloc (.cells vs t)) w.heap.size := ⟨by simp, fun i => World.frozen?_alloc_new w _ _ _⟩
theorem Free.kept {w w' : World} {b N : Nat} (h : Free w b) (hb : Below N w w') (hlt : b < N) : Free w' b :=
  ⟨Nat.lt_of_lt_of_le h.1 hb.size, fun i => (hb.frozen (p := ⟨b, i, none⟩) hlt).trans (h.2 i)⟩
theorem Free.kept' {w w' : World} {b : Nat} (h : Free w b) (hb : Below w.heap.size w w') : Free w' b := h.kept hb h.1
/-! ### has, slot -/
theorem has_any (m F n c : Nat) (k : Int) (w : World) (hh : w.cell? ⟨m, 0, none⟩ = some (.slice (some ⟨F, 0, none⟩) n c)) :
    Calls Try.prog 63 #[.pointer (some ⟨m, 0, none⟩), .int .i64 k] w fun e w' => e = .returned (.bool (inM n k)) ∧ w = w' := by
  by_cases h0 : 0 ≤ k
  · by_cases h1 : k < n
    · rw [inM_yes ⟨h0, h1⟩]
      have d : decide (0 ≤ k) = true := by simpa using h0
      have d1 : decide (k < (n : Int)) = true := by simpa using h1
      go_enter Try.func63, Try.ntmps63
      go_wp2_with (go_at_call 39; refine (frames_any m F n c _ hh).mono ?_; rintro e w' ⟨rfl, rfl⟩)
      go_ret
      exact ⟨rfl, rfl⟩
    · rw [inM_no (fun h => h1 h.2)]
      have d : decide (0 ≤ k) = true := by simpa using h0
      have d1 : decide (k < (n : Int)) = false := by simpa using h1
      go_enter Try.func63, Try.ntmps63
      go_wp2_with (go_at_call 39; refine (frames_any m F n c _ hh).mono ?_; rintro e w' ⟨rfl, rfl⟩)
      go_ret
      exact ⟨rfl, rfl⟩
  · rw [inM_no (fun h => h0 h.1)]
    have d : decide (0 ≤ k) = false := by simpa using h0
    go_enter Try.func63, Try.ntmps63
    go_wp2
    go_ret
    exact ⟨rfl, rfl⟩
theorem word_at (m F n c a : Nat) (A : Int) (z : Nat → Int) (w : World) (hM : Mem w m F n c z) (hA : A = a) (ha : a < 4294967296) :
    Calls Try.prog 35 #[.pointer (some ⟨m, 0, none⟩), .int .u32 A] w fun e w' => e = .returned (.tuple #[.int .u32 (rdw n z a), .bool (hwA n a)]) ∧ ∃ k, w' = w.drewN k := by
  subst hA
  exact word_any m F n c a z w hM ha
set_option maxHeartbeats 1000000 in
theorem slot_no (m F n c : Nat) (z : Nat → Int) (k i : Int) (w : World) (hM : Mem w m F n c z) (hk : inM n k = false) :
    Calls Try.prog 60 #[.pointer (some ⟨m, 0, none⟩), .int .i64 k, .int .i64 i] w fun e w' => e = .returned (.tuple #[e0.val, .bool false]) ∧ Below w.heap.size w w' := by
  have hh := hM.head
  have B0 := Lib.hid ((Below.refl w.heap.size w).alloc (Nat.le_refl _) (.cells #[.bool false, .bool false, .bool false, .bool false, .int .i64 0] 50))
  have hh' := (hM.kept (Only.alloc [] w (.cells #[.bool false, .bool false, .bool false, .bool false, .int .i64 0] 50)) (by simp) (by simp)).head
  go_enter Try.func60, Try.ntmps60
  go_wp2_with (go_at_call 63; refine (has_any m F n c k _ hh').mono ?_; rintro e w' ⟨rfl, rfl⟩; rw [hk])
  refine bodyPost_ret (v := .tuple #[.agg #[.bool false, .bool false, .bool false, .bool false, .int .i64 0], .bool false]) (by simp [results, Try.results60, go_sem]) rfl ⟨rfl, B0.out⟩
set_option maxHeartbeats 1000000 in
theorem slot_yes (m F n c : Nat) (z : Nat → Int) (k i : Int) (w : World) (hM : Mem w m F n c z) (hk : inM n k = true) (hi0 : 0 ≤ i) (hi1 : i < 64) :
    Calls Try.prog 60 #[.pointer (some ⟨m, 0, none⟩), .int .i64 k, .int .i64 i] w fun e w' => e = .returned (.tuple #[(slotE n z k i).val, .bool true]) ∧ Below w.heap.size w w' := by
  obtain ⟨k0, k1⟩ := inM_true hk
  obtain ⟨q, rfl⟩ := Int.eq_ofNat_of_zero_le k0
  obtain ⟨i, rfl⟩ := Int.eq_ofNat_of_zero_le hi0
  have hf := hM.few
  have hq : q < n := by omega
  have hi : i < 64 := by omega
  have HW := Lib.hid (hwA_at hq hi)
  have ho := Only.alloc [] w (.cells #[.bool false, .bool false, .bool false, .bool false, .int .i64 0] 50)
  have M1 := Lib.hid (hM.kept ho (by simp) (by simp))
  have B0 := Lib.hid ((Below.refl w.heap.size w).alloc (Nat.le_refl _) (.cells #[.bool false, .bool false, .bool false, .bool false, .int .i64 0] 50))
  have HV := Lib.hid (rdw_lt (n := n) (z := z) (fun j hj => hM.row.b8 j hj) (256 * q + 4 * i))
  have e1 : wAt n z q i = rdw n z (256 * q + 4 * i) := by unfold wAt; congr 1
  obtain ⟨v, hv⟩ : ∃ v, v = rdw n z (256 * q + 4 * i) := ⟨_, rfl⟩
  unfold slotE
  rw [e1, ← hv]
  rw [← hv] at HV
  have EV := Lib.hid hv
  have f1 := five_new w false false false false 0 50
  have f2 := free_new w #[.bool false, .bool false, .bool false, .bool false, .int .i64 0] 50
  obtain ⟨u, hu⟩ : ∃ u, u = w.alloc (.cells #[.bool false, .bool false, .bool false, .bool false, .int .i64 0] 50) := ⟨_, rfl⟩
  rw [← hu] at M1 B0 f1 f2
  have HU := Lib.hid hu
  have HF := Lib.hid f1
  have HG := Lib.hid f2
  clear hM ho k0 k1 e1 hv hu f1 f2
  go_enter Try.func60, Try.ntmps60
  go_wp2_with (first | (go_at_call 63; rw [← HU.out]; refine (has_any m F n c q _ M1.out.head).mono ?_; rintro e w' ⟨rfl, rfl⟩; rw [hk]) | (go_at_call 35; refine (word_at m F n c (256 * q + 4 * i) _ z _ M1.out (by omega) (by omega)).mono ?_; rintro e w' ⟨rfl, k1, rfl⟩; rw [HW.out, ← EV.out]))
  have bd := drewB (Below.refl u.heap.size u) k1
  have B1 := Lib.hid (B0.out.trans (bd.mono B0.out.size))
  have F1 := Lib.hid (HF.out.kept' bd)
  have G1 := Lib.hid (HG.out.kept' bd)
  clear HF HG M1 B0 bd HU
  generalize u.drewN k1 = u1 at *
  refine (decode_any v u1 HV.out.1 HV.out.2).mono ?_
  rintro e u2 ⟨rfl, b2⟩
  obtain ⟨c0, c1, c2, c3, c4⟩ := F1.out.kept' b2
  have G2 := (G1.out.kept' b2).2
  have g0 := G2 0
  have g1 := G2 1
  have g2 := G2 2
  have g3 := G2 3
  have g4 := G2 4
  have B2 := Lib.hid (B1.out.trans (b2.mono B1.out.size))
  clear G2 F1 G1 B1 b2
  go_wp2
  refine bodyPost_ret (v := .tuple #[.agg #[.bool (dV v), .bool (dW v), .bool (dX v), .bool (dB v), .int .i64 (dF v)], .bool true]) (by simp [results, Try.results60, go_sem, *]) rfl ⟨rfl, ?_⟩
  exact below5 B2.out (Nat.le_refl _) _ _ _ _ _
theorem slotE_lt (n : Nat) (z : Nat → Int) (t i : Int) : 0 ≤ (slotE n z t i).F ∧ (slotE n z t i).F < 65536 := dF_lt _
theorem slot_of (m F n c : Nat) (z : Nat → Int) (k i : Int) (V W X B : Bool) (f : Int) (w : World) (hM : Mem w m F n c z) (hk : inM n k = true) (hi0 : 0 ≤ i) (hi1 : i < 64) (hE : slotE n z k i = ⟨V, W, X, B, f⟩) :
    Calls Try.prog 60 #[.pointer (some ⟨m, 0, none⟩), .int .i64 k, .int .i64 i] w fun e w' => e = .returned (.tuple #[.agg #[.bool V, .bool W, .bool X, .bool B, .int .i64 f], .bool true]) ∧ Below w.heap.size w w' := by
  have h := slot_yes m F n c z k i w hM hk hi0 hi1
  rw [hE] at h
  exact h
theorem slot_not (m F n c : Nat) (z : Nat → Int) (k i : Int) (w : World) (hM : Mem w m F n c z) (hk : inM n k = false) :
    Calls Try.prog 60 #[.pointer (some ⟨m, 0, none⟩), .int .i64 k, .int .i64 i] w fun e w' => e = .returned (.tuple #[.agg #[.bool false, .bool false, .bool false, .bool false, .int .i64 0], .bool false]) ∧ Below w.heap.size w w' :=
  slot_no m F n c z k i w hM hk
end Wk
end Go.Proofs.Ytdjglmfilhodlaa
