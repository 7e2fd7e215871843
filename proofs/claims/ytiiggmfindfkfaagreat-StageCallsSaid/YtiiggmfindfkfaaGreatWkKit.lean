/-
  What walk's has, slot, tells, check, Walk and Look answer, at every argument; conditions: that a memory lies there, and that each argument is of its Go type.
  What walk's tells answers, at every argument; conditions: that a memory lies there, and that each argument is of its Go type.
  What walk's check, Walk and Look answer, at every argument; conditions: that a memory lies there, and that each argument is of its Go type.
  What walk's Look answers, at every argument; conditions: that a memory lies there, and that each argument is of its Go type.
  What walk's Pages answers, at every argument; conditions: that a memory lies there, and that each argument is of its Go type.
-/
import Derived.Test.YtiiggmfindfkfaaGreatPhKit
import Derived.Test.YtiiggmfindfkfaaGreatEnKit
namespace Go.Proofs.YtiiggmfindfkfaaGreat
open Go.RowKit Nt
namespace Wk
open Ph En

/-! ### Plain functions -/
/-- An entry. -/
structure Ent where
  V : Bool
  W : Bool
  X : Bool
  B : Bool
  F : Int
def Ent.val (e : Ent) : Value := .agg #[.bool e.V, .bool e.W, .bool e.X, .bool e.B, .int .i64 e.F]
def e0 : Ent := ⟨false, false, false, false, 0⟩
/-- The entry of a word. -/
def entOf (v : Int) : Ent := ⟨dV v, dW v, dX v, dB v, dF v⟩
/-- Is a frame in memory? -/
def inM (n : Nat) (k : Int) : Bool := decide (0 ≤ k) && decide (k < n)
theorem inM_true {n : Nat} {k : Int} (h : inM n k = true) : 0 ≤ k ∧ k < n := by unfold inM at h; simpa using h
theorem inM_false {n : Nat} {k : Int} (h : inM n k = false) : ¬ (0 ≤ k ∧ k < n) := by unfold inM at h; simp at h; omega
theorem inM_yes {n : Nat} {k : Int} (h : 0 ≤ k ∧ k < n) : inM n k = true := by unfold inM; simp; omega
theorem inM_no {n : Nat} {k : Int} (h : ¬ (0 ≤ k ∧ k < n)) : inM n k = false := by unfold inM; simp; omega
/-- The word at an index of a table. -/
def wAt (n : Nat) (z : Nat → Int) (t i : Int) : Int := rdw n z (256 * t + 4 * i).toNat
def slotE (n : Nat) (z : Nat → Int) (t i : Int) : Ent := entOf (wAt n z t i)
/-- What tells an address: the entry, how many were read, the fault. -/
structure Tell where
  e : Ent
  r : Int
  f : Int
def tellS (n : Nat) (z : Nat → Int) (root a : Int) : Tell :=
  if 1048576 ≤ a then ⟨e0, 0, 1⟩
  else if inM n root = false then ⟨e0, 0, 5⟩
  else if (slotE n z root (a / 16384 % 64)).V = false then ⟨e0, 1, 2⟩
  else if (slotE n z root (a / 16384 % 64)).B = true then ⟨{ slotE n z root (a / 16384 % 64) with F := (slotE n z root (a / 16384 % 64)).F + a / 256 % 64 }, 1, 0⟩
  else if inM n (slotE n z root (a / 16384 % 64)).F = false then ⟨e0, 1, 5⟩
  else if (slotE n z (slotE n z root (a / 16384 % 64)).F (a / 256 % 64)).V = false then ⟨e0, 2, 3⟩
  else ⟨{ slotE n z (slotE n z root (a / 16384 % 64)).F (a / 256 % 64) with B := false }, 2, 0⟩
def checkS (n : Nat) (e : Ent) (acc : Int) : Int := if alw e.V e.W e.X acc = false then 4 else if inM n e.F = false then 5 else 0
/-- What a walk comes to. -/
structure Hit where
  f : Int
  r : Int
  F : Int
  W : Bool
  X : Bool
  B : Bool
def Hit.val (h : Hit) : Value := .agg #[.int .i64 h.f, .int .i64 h.r, .int .i64 h.F, .bool h.W, .bool h.X, .bool h.B]
def hitOf (n : Nat) (t : Tell) (acc : Int) : Hit :=
  if t.f ≠ 0 then ⟨t.f, t.r, 0, false, false, false⟩
  else if checkS n t.e acc ≠ 0 then ⟨checkS n t.e acc, t.r, 0, false, false, false⟩
  else ⟨0, t.r, t.e.F, t.e.W, t.e.X, t.e.B⟩
def walkS (n : Nat) (z : Nat → Int) (root a acc : Int) : Hit := hitOf n (tellS n z root a) acc

/-! ### Numbers -/
theorem word4_lt {z0 z1 z2 z3 : Int} (k0 : B8 z0) (k1 : B8 z1) (k2 : B8 z2) (k3 : B8 z3) : 0 ≤ word4 z0 z1 z2 z3 ∧ word4 z0 z1 z2 z3 < 4294967296 := by
  obtain ⟨a0, b0⟩ := k0; obtain ⟨a1, b1⟩ := k1; obtain ⟨a2, b2⟩ := k2; obtain ⟨a3, b3⟩ := k3
  unfold word4
  omega
theorem rdw_lt {n : Nat} {z : Nat → Int} (h8 : ∀ j, j < 256 * n → B8 (z j)) (a : Nat) : 0 ≤ rdw n z a ∧ rdw n z a < 4294967296 := by
  unfold rdw
  split
  · rename_i h
    obtain ⟨h4, h3⟩ := hwA_true h
    exact word4_lt (h8 _ (by omega)) (h8 _ (by omega)) (h8 _ (by omega)) (h8 _ (by omega))
  · exact ⟨by omega, by omega⟩
theorem dF_lt (v : Int) : 0 ≤ dF v ∧ dF v < 65536 := by unfold dF; split <;> omega
theorem hwA_at {n q i : Nat} (hq : q < n) (hi : i < 64) : hwA n (256 * q + 4 * i) = true := by unfold hwA; simp; omega

/-! ### Cells of an entry, of a hit -/
theorem Five.all {w : World} {b : Nat} {V W X B : Bool} {F : Int} {t : TypeId} {q : Nat × Nat} (h : w.heap[b]? = some (.cells #[.bool V, .bool W, .bool X, .bool B, .int .i64 F] t q)) : Five w b V W X B F := by
  constructor <;> simp [World.cell?, h]
theorem drewB {B : Nat} {a w : World} (h : Below B a w) (n : Nat) : Below B a (w.drewN n) := ⟨h.os, h.tape, h.output, h.size, h.block⟩
/-- A block that may be written. -/
def Free (w : World) (b : Nat) : Prop := b < w.heap.size ∧ ∀ i, w.frozen? ⟨b, i, none⟩ = false
theorem free_new (w : World) (vs : Array Value) (t : TypeId) : Free (w.alloc (.cells vs t)) w.heap.size := ⟨by simp, fun i => World.frozen?_alloc_new w _ _ _⟩
theorem Free.kept {w w' : World} {b N : Nat} (h : Free w b) (hb : Below N w w') (hlt : b < N) : Free w' b :=
  ⟨Nat.lt_of_lt_of_le h.1 hb.size, fun i => (hb.frozen (p := ⟨b, i, none⟩) hlt).trans (h.2 i)⟩
theorem Free.kept' {w w' : World} {b : Nat} (h : Free w b) (hb : Below w.heap.size w w') : Free w' b := h.kept hb h.1
/-! ### has, slot -/
theorem has_any (m F n c : Nat) (k : Int) (w : World) (hh : w.cell? ⟨m, 0, none⟩ = some (.slice (some ⟨F, 0, none⟩) n c)) :
    Calls Tryz.prog 118 #[.pointer (some ⟨m, 0, none⟩), .int .i64 k] w fun e w' => e = .returned (.bool (inM n k)) ∧ w = w' := by
  by_cases h0 : 0 ≤ k
  · by_cases h1 : k < n
    · rw [inM_yes ⟨h0, h1⟩]
      have d : decide (0 ≤ k) = true := by simpa using h0
      have d1 : decide (k < (n : Int)) = true := by simpa using h1
      go_enter Tryz.func118, Tryz.ntmps118
      go_wp2_with (go_at_call 96; refine (frames_any m F n c _ hh).mono ?_; rintro e w' ⟨rfl, rfl⟩)
      go_ret
      exact ⟨rfl, rfl⟩
    · rw [inM_no (fun h => h1 h.2)]
      have d : decide (0 ≤ k) = true := by simpa using h0
      have d1 : decide (k < (n : Int)) = false := by simpa using h1
      go_enter Tryz.func118, Tryz.ntmps118
      go_wp2_with (go_at_call 96; refine (frames_any m F n c _ hh).mono ?_; rintro e w' ⟨rfl, rfl⟩)
      go_ret
      exact ⟨rfl, rfl⟩
  · rw [inM_no (fun h => h0 h.1)]
    have d : decide (0 ≤ k) = false := by simpa using h0
    go_enter Tryz.func118, Tryz.ntmps118
    go_wp2
    go_ret
    exact ⟨rfl, rfl⟩
theorem word_at (m F n c a : Nat) (A : Int) (z : Nat → Int) (w : World) (hM : Mem w m F n c z) (hA : A = a) (ha : a < 4294967296) :
    Calls Tryz.prog 49 #[.pointer (some ⟨m, 0, none⟩), .int .u32 A] w fun e w' => e = .returned (.tuple #[.int .u32 (rdw n z a), .bool (hwA n a)]) ∧ ∃ k, w' = w.drewN k := by
  subst hA
  exact word_any m F n c a z w hM ha
set_option maxHeartbeats 1000000 in
theorem slot_no (m F n c : Nat) (z : Nat → Int) (k i : Int) (w : World) (hM : Mem w m F n c z) (hk : inM n k = false) :
    Calls Tryz.prog 116 #[.pointer (some ⟨m, 0, none⟩), .int .i64 k, .int .i64 i] w fun e w' => e = .returned (.tuple #[e0.val, .bool false]) ∧ Below w.heap.size w w' := by
  have hh := hM.head
  have B0 := Lib.hid ((Below.refl w.heap.size w).alloc (Nat.le_refl _) (.cells #[.bool false, .bool false, .bool false, .bool false, .int .i64 0] 62))
  have hh' := (hM.kept (Only.alloc [] w (.cells #[.bool false, .bool false, .bool false, .bool false, .int .i64 0] 62)) (by simp) (by simp)).head
  go_enter Tryz.func116, Tryz.ntmps116
  go_wp2_with (go_at_call 118; refine (has_any m F n c k _ hh').mono ?_; rintro e w' ⟨rfl, rfl⟩; rw [hk])
  refine bodyPost_ret (v := .tuple #[.agg #[.bool false, .bool false, .bool false, .bool false, .int .i64 0], .bool false]) (by simp [results, Tryz.results116, go_sem]) rfl ⟨rfl, B0.out⟩
set_option maxHeartbeats 1000000 in
theorem slot_yes (m F n c : Nat) (z : Nat → Int) (k i : Int) (w : World) (hM : Mem w m F n c z) (hk : inM n k = true) (hi0 : 0 ≤ i) (hi1 : i < 64) :
    Calls Tryz.prog 116 #[.pointer (some ⟨m, 0, none⟩), .int .i64 k, .int .i64 i] w fun e w' => e = .returned (.tuple #[(slotE n z k i).val, .bool true]) ∧ Below w.heap.size w w' := by
  obtain ⟨k0, k1⟩ := inM_true hk
  obtain ⟨q, rfl⟩ := Int.eq_ofNat_of_zero_le k0
  obtain ⟨i, rfl⟩ := Int.eq_ofNat_of_zero_le hi0
  have hf := hM.few
  have hq : q < n := by omega
  have hi : i < 64 := by omega
  have HW := Lib.hid (hwA_at hq hi)
  have ho := Only.alloc [] w (.cells #[.bool false, .bool false, .bool false, .bool false, .int .i64 0] 62)
  have M1 := Lib.hid (hM.kept ho (by simp) (by simp))
  have B0 := Lib.hid ((Below.refl w.heap.size w).alloc (Nat.le_refl _) (.cells #[.bool false, .bool false, .bool false, .bool false, .int .i64 0] 62))
  have HV := Lib.hid (rdw_lt (n := n) (z := z) (fun j hj => hM.row.b8 j hj) (256 * q + 4 * i))
  have e1 : wAt n z q i = rdw n z (256 * q + 4 * i) := by unfold wAt; congr 1
  obtain ⟨v, hv⟩ : ∃ v, v = rdw n z (256 * q + 4 * i) := ⟨_, rfl⟩
  unfold slotE
  rw [e1, ← hv]
  rw [← hv] at HV
  have EV := Lib.hid hv
  have f1 := five_new w false false false false 0 62
  have f2 := free_new w #[.bool false, .bool false, .bool false, .bool false, .int .i64 0] 62
  obtain ⟨u, hu⟩ : ∃ u, u = w.alloc (.cells #[.bool false, .bool false, .bool false, .bool false, .int .i64 0] 62) := ⟨_, rfl⟩
  rw [← hu] at M1 B0 f1 f2
  have HU := Lib.hid hu
  have HF := Lib.hid f1
  have HG := Lib.hid f2
  clear hM ho k0 k1 e1 hv hu f1 f2
  go_enter Tryz.func116, Tryz.ntmps116
  go_wp2_with (first | (go_at_call 118; rw [← HU.out]; refine (has_any m F n c q _ M1.out.head).mono ?_; rintro e w' ⟨rfl, rfl⟩; rw [hk]) | (go_at_call 49; refine (word_at m F n c (256 * q + 4 * i) _ z _ M1.out (by omega) (by omega)).mono ?_; rintro e w' ⟨rfl, k1, rfl⟩; rw [HW.out, ← EV.out]))
  have bd := drewB (Below.refl u.heap.size u) k1
  have B1 := Lib.hid (B0.out.trans (bd.mono B0.out.size))
  have F1 := Lib.hid (HF.out.kept' bd)
  have G1 := Lib.hid (HG.out.kept' bd)
  clear HF HG M1 B0 bd HU
  generalize u.drewN k1 = u1 at *
  refine (decode_any v u1 HV.out.1 HV.out.2).mono ?_
  rintro e u2 ⟨rfl, b2⟩
  obtain ⟨c0, c1, c2, c3, c4⟩ := F1.out.kept' b2
  have G2 := (G1.out.kept' b2).2
  have g0 := G2 0
  have g1 := G2 1
  have g2 := G2 2
  have g3 := G2 3
  have g4 := G2 4
  have B2 := Lib.hid (B1.out.trans (b2.mono B1.out.size))
  clear G2 F1 G1 B1 b2
  go_wp2
  refine bodyPost_ret (v := .tuple #[.agg #[.bool (dV v), .bool (dW v), .bool (dX v), .bool (dB v), .int .i64 (dF v)], .bool true]) (by simp [results, Tryz.results116, go_sem, *]) rfl ⟨rfl, ?_⟩
  exact below5 B2.out (Nat.le_refl _) _ _ _ _ _
theorem slotE_lt (n : Nat) (z : Nat → Int) (t i : Int) : 0 ≤ (slotE n z t i).F ∧ (slotE n z t i).F < 65536 := dF_lt _
theorem slot_of (m F n c : Nat) (z : Nat → Int) (k i : Int) (V W X B : Bool) (f : Int) (w : World) (hM : Mem w m F n c z) (hk : inM n k = true) (hi0 : 0 ≤ i) (hi1 : i < 64) (hE : slotE n z k i = ⟨V, W, X, B, f⟩) :
    Calls Tryz.prog 116 #[.pointer (some ⟨m, 0, none⟩), .int .i64 k, .int .i64 i] w fun e w' => e = .returned (.tuple #[.agg #[.bool V, .bool W, .bool X, .bool B, .int .i64 f], .bool true]) ∧ Below w.heap.size w w' := by
  have h := slot_yes m F n c z k i w hM hk hi0 hi1
  rw [hE] at h
  exact h
theorem slot_not (m F n c : Nat) (z : Nat → Int) (k i : Int) (w : World) (hM : Mem w m F n c z) (hk : inM n k = false) :
    Calls Tryz.prog 116 #[.pointer (some ⟨m, 0, none⟩), .int .i64 k, .int .i64 i] w fun e w' => e = .returned (.tuple #[.agg #[.bool false, .bool false, .bool false, .bool false, .int .i64 0], .bool false]) ∧ Below w.heap.size w w' :=
  slot_no m F n c z k i w hM hk
end Wk
end Go.Proofs.YtiiggmfindfkfaaGreat
namespace Go.Proofs.YtiiggmfindfkfaaGreat
open Go.RowKit Nt
namespace Wk
open Ph En
/-! ### tells -/
/-- How it ends. -/
def TellEnd (t : Tell) (w : World) (e : Ending) (w' : World) : Prop := e = .returned (.tuple #[t.e.val, .int .i64 t.r, .int .i64 t.f]) ∧ Below w.heap.size w w'
set_option maxHeartbeats 2000000 in
theorem tells_any (m F n c : Nat) (z : Nat → Int) (root a : Int) (w : World) (hM : Mem w m F n c z) (h0 : 0 ≤ a) (h1 : a < 4294967296) :
    Calls Tryz.prog 110 #[.pointer (some ⟨m, 0, none⟩), .int .i64 root, .int .u32 a] w (TellEnd (tellS n z root a) w) := by
  have hf := hM.few
  have ho := Only.alloc [] w (.cells #[.bool false, .bool false, .bool false, .bool false, .int .i64 0] 62)
  have M0 := Lib.hid (hM.kept ho (by simp) (by simp))
  have B0 := Lib.hid ((Below.refl w.heap.size w).alloc (Nat.le_refl _) (.cells #[.bool false, .bool false, .bool false, .bool false, .int .i64 0] 62))
  have f1 := five_new w false false false false 0 62
  have f2 := free_new w #[.bool false, .bool false, .bool false, .bool false, .int .i64 0] 62
  obtain ⟨u, hu⟩ : ∃ u, u = w.alloc (.cells #[.bool false, .bool false, .bool false, .bool false, .int .i64 0] 62) := ⟨_, rfl⟩
  rw [← hu] at M0 B0 f1 f2
  have HF := Lib.hid f1
  have HG := Lib.hid f2
  have HU := Lib.hid hu
  clear hM ho hu f1 f2
  by_cases ha : 1048576 ≤ a
  · have d : decide (a < 1048576) = false := by simp; omega
    have T : tellS n z root a = ⟨e0, 0, 1⟩ := by unfold tellS; rw [if_pos ha]
    rw [T]
    clear T
    go_enter Tryz.func110, Tryz.ntmps110
    go_wp2_with (go_at_call 115; rw [← HU.out]; refine (inside_any a _).mono ?_; rintro e w' ⟨rfl, rfl⟩; obtain ⟨c0, c1, c2, c3, c4⟩ := HF.out; have G2 := HG.out.2; have g0 := G2 0; have g1 := G2 1; have g2 := G2 2; have g3 := G2 3; have g4 := G2 4; clear G2)
    refine bodyPost_ret (v := .tuple #[.agg #[.bool false, .bool false, .bool false, .bool false, .int .i64 0], .int .i64 0, .int .i64 1]) (by simp [results, Tryz.results110, go_sem, c0, c1, c2, c3, c4]) rfl ⟨rfl, ?_⟩
    first | exact below5 B0.out (Nat.le_refl _) _ _ _ _ _ | exact B0.out
  have d : decide (a < 1048576) = true := by simp; omega
  have A1 : 0 ≤ a / 16384 % 64 := by omega
  have A2 : a / 16384 % 64 < 64 := by omega
  have A3 : 0 ≤ a / 256 % 64 := by omega
  have A4 : a / 256 % 64 < 64 := by omega
  have HA := Lib.hid ha
  clear ha
  go_enter Tryz.func110, Tryz.ntmps110
  go_wp2_with (go_at_call 115; rw [← HU.out]; refine (inside_any a _).mono ?_; rintro e w' ⟨rfl, rfl⟩)
  refine (first_any a u h0 h1).mono ?_
  rintro e w' ⟨rfl, k1, rfl⟩
  have bd := drewB (Below.refl u.heap.size u) k1
  have B1 := Lib.hid (B0.out.trans (bd.mono B0.out.size))
  have F1 := Lib.hid (HF.out.kept' bd)
  have G1 := Lib.hid (HG.out.kept' bd)
  have M1 := Lib.hid (M0.out.kept (Only.of bd []) (by simp) (by simp))
  clear HF HG M0 B0 bd HU
  generalize u.drewN k1 = u1 at *
  by_cases hr : inM n root = true
  case neg =>
    have hr' : inM n root = false := by simpa using hr
    have T := Lib.hid (show tellS n z root a = ⟨e0, 0, 5⟩ by unfold tellS; rw [if_neg (by have := HA.out; omega), if_pos hr'])
    clear hr
    go_wp2_with fail
    refine (slot_not m F n c z root (a / 16384 % 64) u1 M1.out hr').mono ?_
    rintro e u2 ⟨rfl, b2⟩
    obtain ⟨c0, c1, c2, c3, c4⟩ := F1.out.kept' b2
    have lt2 := (G1.out.kept' b2).1
    have G2 := (G1.out.kept' b2).2
    have g0 := G2 0
    have g1 := G2 1
    have g2 := G2 2
    have g3 := G2 3
    have g4 := G2 4
    have BB := Lib.hid (B1.out.trans (b2.mono B1.out.size))
    clear G2 F1 G1 B1 b2
    go_wp2
    refine bodyPost_ret (v := .tuple #[.agg #[.bool false, .bool false, .bool false, .bool false, .int .i64 0], .int .i64 0, .int .i64 5]) (by simp [results, Tryz.results110, go_sem, c0, c1, c2, c3, c4, lt2]) rfl ⟨by rw [T.out]; rfl, ?_⟩
    repeat' (first | (with_reducible exact BB.out) | (with_reducible refine Below.setCell ?_ ?_ _) | (with_reducible refine Below.alloc ?_ ?_ _) | (with_reducible exact Nat.le_refl _) | (simp; omega) | exact Nat.le_refl _ | omega)
  case pos =>
    obtain ⟨⟨V, W, X, B, f⟩, hE⟩ : ∃ E, slotE n z root (a / 16384 % 64) = E := ⟨_, rfl⟩
    have hfr := slotE_lt n z root (a / 16384 % 64)
    rw [hE] at hfr
    have ff0 : 0 ≤ f := hfr.1
    have ff1 : f < 65536 := hfr.2
    have HR := Lib.hid hr
    have HE := Lib.hid hE
    clear hfr hE
    go_wp2_with fail
    refine (slot_of m F n c z root (a / 16384 % 64) V W X B f u1 M1.out hr A1 A2 HE.out).mono ?_
    rintro e u2 ⟨rfl, b2⟩
    have B2 := Lib.hid (B1.out.trans (b2.mono B1.out.size))
    have F2 := Lib.hid (F1.out.kept' b2)
    have G2 := Lib.hid (G1.out.kept' b2)
    have M2 := Lib.hid (M1.out.kept (Only.of b2 []) (by simp) (by simp))
    clear F1 G1 B1 b2 M1 hr
    cases V
    case false =>
      have T := Lib.hid (show tellS n z root a = ⟨e0, 1, 2⟩ by unfold tellS; rw [if_neg (by have := HA.out; omega), if_neg (by rw [HR.out]; decide), HE.out, if_pos rfl])
      obtain ⟨c0, c1, c2, c3, c4⟩ := F2.out
      have lt2 := G2.out.1
      have GG := G2.out.2
      have g0 := GG 0
      have g1 := GG 1
      have g2 := GG 2
      have g3 := GG 3
      have g4 := GG 4
      have BB := B2
      clear GG F2 G2 B2
      go_wp2
      refine bodyPost_ret (v := .tuple #[.agg #[.bool false, .bool false, .bool false, .bool false, .int .i64 0], .int .i64 1, .int .i64 2]) (by simp [results, Tryz.results110, go_sem, c0, c1, c2, c3, c4, lt2]) rfl ⟨by rw [T.out]; rfl, ?_⟩
      repeat' (first | (with_reducible exact BB.out) | (with_reducible refine Below.setCell ?_ ?_ _) | (with_reducible refine Below.alloc ?_ ?_ _) | (with_reducible exact Nat.le_refl _) | (simp; omega) | exact Nat.le_refl _ | omega)
    case true =>
      cases B
      case true =>
        have T := Lib.hid (show tellS n z root a = ⟨⟨true, W, X, true, f + a / 256 % 64⟩, 1, 0⟩ by unfold tellS; rw [if_neg (by have := HA.out; omega), if_neg (by rw [HR.out]; decide), HE.out, if_neg (show ¬ (true = false) by decide), if_pos rfl])
        go_wp2_with fail
        refine (second_any a _ h0 h1).mono ?_
        rintro e w' ⟨rfl, k2, rfl⟩
        obtain ⟨c0, c1, c2, c3, c4⟩ := F2.out
        have lt2 := G2.out.1
        have GG := G2.out.2
        have g0 := GG 0
        have g1 := GG 1
        have g2 := GG 2
        have g3 := GG 3
        have g4 := GG 4
        have BB := B2
        clear GG F2 G2 B2
        go_wp2
        have lt3 : u2.heap.size ≠ w.heap.size := by omega
        refine bodyPost_ret (v := .tuple #[.agg #[.bool true, .bool W, .bool X, .bool true, .int .i64 (f + a / 256 % 64)], .int .i64 1, .int .i64 0]) (by simp [results, Tryz.results110, go_sem, c0, c1, c2, c3, c4, lt2]) rfl ⟨by rw [T.out]; rfl, ?_⟩
        repeat' (first | (with_reducible exact BB.out) | (with_reducible refine drewB ?_ _) | (with_reducible refine Below.setCell ?_ ?_ _) | (with_reducible refine Below.alloc ?_ ?_ _) | (with_reducible exact Nat.le_refl _) | (simp; omega) | exact Nat.le_refl _ | omega)
      case false =>
        go_wp2_with fail
        refine (second_any a _ h0 h1).mono ?_
        rintro e w' ⟨rfl, k2, rfl⟩
        have bx := drewB ((Below.refl u2.heap.size u2).alloc (Nat.le_refl _) (.cells #[.bool true, .bool W, .bool X, .bool false, .int .i64 f] 62)) k2
        have H3 := Lib.hid ((five_new u2 true W X false f 62).kept' (drewB (Below.refl (u2.alloc (.cells #[.bool true, .bool W, .bool X, .bool false, .int .i64 f] 62)).heap.size (u2.alloc (.cells #[.bool true, .bool W, .bool X, .bool false, .int .i64 f] 62))) k2))
        have B3 := Lib.hid (B2.out.trans (bx.mono B2.out.size))
        have F3 := Lib.hid (F2.out.kept' bx)
        have G3 := Lib.hid (G2.out.kept' bx)
        have M3 := Lib.hid (M2.out.kept (Only.of bx []) (by simp) (by simp))
        have l3 : u2.heap.size < ((u2.alloc (.cells #[.bool true, .bool W, .bool X, .bool false, .int .i64 f] 62)).drewN k2).heap.size := block_lt_of_cell H3.out.c0
        have d3 := H3.out.c3
        have d4 := H3.out.c4
        clear F2 G2 B2 M2 bx H3
        generalize (u2.alloc (.cells #[.bool true, .bool W, .bool X, .bool false, .int .i64 f] 62)).drewN k2 = u3 at *
        go_wp2_with fail
        clear d3 d4 l3
        cases hs : inM n f
        case false =>
          have T := Lib.hid (show tellS n z root a = ⟨e0, 1, 5⟩ by unfold tellS; rw [if_neg (by have := HA.out; omega), if_neg (by rw [HR.out]; decide), HE.out, if_neg (show ¬ (true = false) by decide), if_neg (show ¬ (false = true) by decide), if_pos hs])
          refine (slot_not m F n c z f (a / 256 % 64) u3 M3.out hs).mono ?_
          rintro e u4 ⟨rfl, b4⟩
          have B4 := Lib.hid (B3.out.trans (b4.mono B3.out.size))
          have F4 := Lib.hid (F3.out.kept' b4)
          have G4 := Lib.hid (G3.out.kept' b4)
          clear F3 G3 B3 b4 M3 hs
          obtain ⟨c0, c1, c2, c3, c4⟩ := F4.out
          have lt2 := G4.out.1
          have GG := G4.out.2
          have g0 := GG 0
          have g1 := GG 1
          have g2 := GG 2
          have g3 := GG 3
          have g4 := GG 4
          have BB := B4
          clear GG F4 G4 B4
          go_wp2
          refine bodyPost_ret (v := .tuple #[.agg #[.bool false, .bool false, .bool false, .bool false, .int .i64 0], .int .i64 1, .int .i64 5]) (by simp [results, Tryz.results110, go_sem, c0, c1, c2, c3, c4, lt2]) rfl ⟨by rw [T.out]; rfl, ?_⟩
          repeat' (first | (with_reducible exact BB.out) | (with_reducible refine drewB ?_ _) | (with_reducible refine Below.setCell ?_ ?_ _) | (with_reducible refine Below.alloc ?_ ?_ _) | (with_reducible exact Nat.le_refl _) | (simp; omega) | exact Nat.le_refl _ | omega)
        case true =>
          obtain ⟨⟨V', W', X', B', f'⟩, hE⟩ : ∃ E, slotE n z f (a / 256 % 64) = E := ⟨_, rfl⟩
          have HS := Lib.hid hs
          have HE' := Lib.hid hE
          clear hE
          refine (slot_of m F n c z f (a / 256 % 64) V' W' X' B' f' u3 M3.out hs A3 A4 HE'.out).mono ?_
          rintro e u4 ⟨rfl, b4⟩
          have B4 := Lib.hid (B3.out.trans (b4.mono B3.out.size))
          have F4 := Lib.hid (F3.out.kept' b4)
          have G4 := Lib.hid (G3.out.kept' b4)
          clear F3 G3 B3 b4 M3 hs
          obtain ⟨c0, c1, c2, c3, c4⟩ := F4.out
          have lt2 := G4.out.1
          have GG := G4.out.2
          have g0 := GG 0
          have g1 := GG 1
          have g2 := GG 2
          have g3 := GG 3
          have g4 := GG 4
          have BB := B4
          clear GG F4 G4 B4
          cases V'
          case false =>
            have T := Lib.hid (show tellS n z root a = ⟨e0, 2, 3⟩ by unfold tellS; rw [if_neg (by have := HA.out; omega), if_neg (by rw [HR.out]; decide), HE.out, if_neg (show ¬ (true = false) by decide), if_neg (show ¬ (false = true) by decide), if_neg (by rw [HS.out]; decide), HE'.out, if_pos rfl])
            go_wp2
            refine bodyPost_ret (v := .tuple #[.agg #[.bool false, .bool false, .bool false, .bool false, .int .i64 0], .int .i64 2, .int .i64 3]) (by simp [results, Tryz.results110, go_sem, c0, c1, c2, c3, c4, lt2]) rfl ⟨by rw [T.out]; rfl, ?_⟩
            repeat' (first | (with_reducible exact BB.out) | (with_reducible refine drewB ?_ _) | (with_reducible refine Below.setCell ?_ ?_ _) | (with_reducible refine Below.alloc ?_ ?_ _) | (with_reducible exact Nat.le_refl _) | (simp; omega) | exact Nat.le_refl _ | omega)
          case true =>
            have T := Lib.hid (show tellS n z root a = ⟨⟨true, W', X', false, f'⟩, 2, 0⟩ by unfold tellS; rw [if_neg (by have := HA.out; omega), if_neg (by rw [HR.out]; decide), HE.out, if_neg (show ¬ (true = false) by decide), if_neg (show ¬ (false = true) by decide), if_neg (by rw [HS.out]; decide), HE'.out, if_neg (show ¬ (true = false) by decide)])
            go_wp2
            refine bodyPost_ret (v := .tuple #[.agg #[.bool true, .bool W', .bool X', .bool false, .int .i64 f'], .int .i64 2, .int .i64 0]) (by simp [results, Tryz.results110, go_sem, c0, c1, c2, c3, c4, lt2]) rfl ⟨by rw [T.out]; rfl, ?_⟩
            repeat' (first | (with_reducible exact BB.out) | (with_reducible refine drewB ?_ _) | (with_reducible refine Below.setCell ?_ ?_ _) | (with_reducible refine Below.alloc ?_ ?_ _) | (with_reducible exact Nat.le_refl _) | (simp; omega) | exact Nat.le_refl _ | omega)
end Wk
end Go.Proofs.YtiiggmfindfkfaaGreat
namespace Go.Proofs.YtiiggmfindfkfaaGreat
open Go.RowKit Nt
namespace Wk
open Ph En
set_option maxHeartbeats 1000000 in
theorem check_any (m F n c : Nat) (z : Nat → Int) (V W X B : Bool) (f acc : Int) (w : World) (hM : Mem w m F n c z) :
    Calls Tryz.prog 111 #[.pointer (some ⟨m, 0, none⟩), .agg #[.bool V, .bool W, .bool X, .bool B, .int .i64 f], .int .i64 acc] w fun e w' => e = .returned (.int .i64 (checkS n ⟨V, W, X, B, f⟩ acc)) ∧ Below w.heap.size w w' := by
  have hb : Below w.heap.size w (w.alloc (.cells #[.bool V, .bool W, .bool X, .bool B, .int .i64 f] 62)) := (Below.refl _ _).alloc (Nat.le_refl _) _
  have M0 := Lib.hid (hM.kept (Only.of hb []) (by simp) (by simp))
  have B0 := Lib.hid hb
  have H0 := Lib.hid (five_new w V W X B f 62)
  clear hM hb
  go_enter Tryz.func111, Tryz.ntmps111
  go_wp2_with fail
  refine (allows_any V W X B f acc _).mono ?_
  rintro e u1 ⟨rfl, b1⟩
  have M1 := Lib.hid (M0.out.kept (Only.of b1 []) (by simp) (by simp))
  have B1 := Lib.hid (B0.out.trans (b1.mono B0.out.size))
  have c4 := (H0.out.kept' b1).c4
  clear H0 b1 M0 B0
  cases ha : alw V W X acc
  · have T := Lib.hid (show checkS n ⟨V, W, X, B, f⟩ acc = 4 by unfold checkS; rw [if_pos ha])
    clear ha
    go_wp2
    go_ret
    exact ⟨by rw [T.out]; rfl, B1.out⟩
  · cases hk : inM n f
    · have T := Lib.hid (show checkS n ⟨V, W, X, B, f⟩ acc = 5 by unfold checkS; rw [if_neg (by rw [ha]; decide), if_pos hk])
      have HK := Lib.hid hk
      clear ha hk
      go_wp2_with (go_at_call 118; refine (has_any m F n c f _ M1.out.head).mono ?_; rintro e w' ⟨rfl, rfl⟩; rw [HK.out])
      go_ret
      exact ⟨by rw [T.out]; rfl, B1.out⟩
    · have T := Lib.hid (show checkS n ⟨V, W, X, B, f⟩ acc = 0 by unfold checkS; rw [if_neg (by rw [ha]; decide), if_neg (by rw [hk]; decide)])
      have HK := Lib.hid hk
      clear ha hk
      go_wp2_with (go_at_call 118; refine (has_any m F n c f _ M1.out.head).mono ?_; rintro e w' ⟨rfl, rfl⟩; rw [HK.out])
      go_ret
      exact ⟨by rw [T.out]; rfl, B1.out⟩
/-- Six cells of a hit. -/
structure Six (w : World) (b : Nat) (f r F : Int) (W X B : Bool) : Prop where
  c0 : w.cell? ⟨b, 0, none⟩ = some (.int .i64 f)
  c1 : w.cell? ⟨b, 1, none⟩ = some (.int .i64 r)
  c2 : w.cell? ⟨b, 2, none⟩ = some (.int .i64 F)
  c3 : w.cell? ⟨b, 3, none⟩ = some (.bool W)
  c4 : w.cell? ⟨b, 4, none⟩ = some (.bool X)
  c5 : w.cell? ⟨b, 5, none⟩ = some (.bool B)
theorem Six.kept' {w w' : World} {b : Nat} {f r F : Int} {W X B : Bool} (h : Six w b f r F W X B) (hb : Below w.heap.size w w') : Six w' b f r F W X B := by
  have hlt := block_lt_of_cell h.c0
  exact ⟨(hb.cell (p := ⟨b, 0, none⟩) hlt).trans h.c0, (hb.cell (p := ⟨b, 1, none⟩) hlt).trans h.c1, (hb.cell (p := ⟨b, 2, none⟩) hlt).trans h.c2, (hb.cell (p := ⟨b, 3, none⟩) hlt).trans h.c3, (hb.cell (p := ⟨b, 4, none⟩) hlt).trans h.c4, (hb.cell (p := ⟨b, 5, none⟩) hlt).trans h.c5⟩
theorem six_new (w : World) (f r F : Int) (W X B : Bool) (t : TypeId) : Six (w.alloc (.cells #[.int .i64 f, .int .i64 r, .int .i64 F, .bool W, .bool X, .bool B] t)) w.heap.size f r F W X B := by
  constructor <;> simp
/-- How a walk ends. -/
def HitEnd (h : Hit) (w : World) (e : Ending) (w' : World) : Prop := e = .returned h.val ∧ Below w.heap.size w w'
set_option maxHeartbeats 2000000 in
theorem walk_any (m F n c : Nat) (z : Nat → Int) (root a acc : Int) (w : World) (hM : Mem w m F n c z) (h0 : 0 ≤ a) (h1 : a < 4294967296) :
    Calls Tryz.prog 101 #[.pointer (some ⟨m, 0, none⟩), .int .i64 root, .int .u32 a, .int .i64 acc] w (HitEnd (walkS n z root a acc) w) := by
  have hb : Below w.heap.size w (w.alloc (.cells #[.int .i64 0, .int .i64 0, .int .i64 0, .bool false, .bool false, .bool false] 143)) := (Below.refl _ _).alloc (Nat.le_refl _) _
  have M0 := Lib.hid (hM.kept (Only.of hb []) (by simp) (by simp))
  have B0 := Lib.hid hb
  have S0 := Lib.hid (six_new w 0 0 0 false false false 143)
  have G0 := Lib.hid (free_new w #[.int .i64 0, .int .i64 0, .int .i64 0, .bool false, .bool false, .bool false] 143)
  unfold walkS
  obtain ⟨⟨⟨V, W, X, B, f⟩, r, t⟩, hT⟩ : ∃ T, tellS n z root a = T := ⟨_, rfl⟩
  have HT := Lib.hid hT
  rw [hT]
  clear hM hb hT
  go_enter Tryz.func101, Tryz.ntmps101
  go_wp2_with fail
  refine (tells_any m F n c z root a _ M0.out h0 h1).mono ?_
  rintro e u1 ⟨rfl, b1⟩
  rw [HT.out]
  have M1 := Lib.hid (M0.out.kept (Only.of b1 []) (by simp) (by simp))
  have B1 := Lib.hid (B0.out.trans (b1.mono B0.out.size))
  have S1 := Lib.hid (S0.out.kept' b1)
  have G1 := Lib.hid (G0.out.kept' b1)
  clear S0 G0 b1 M0 B0
  simp only [Ent.val]
  by_cases ht : t = 0
  · subst ht
    go_wp2_with fail
    have bx : Below u1.heap.size u1 (u1.alloc (.cells #[.bool V, .bool W, .bool X, .bool B, .int .i64 f] 62)) := (Below.refl _ _).alloc (Nat.le_refl _) _
    have H2 := Lib.hid (five_new u1 V W X B f 62)
    have M2 := Lib.hid (M1.out.kept (Only.of bx []) (by simp) (by simp))
    have B2 := Lib.hid (B1.out.trans (bx.mono B1.out.size))
    have S2 := Lib.hid (S1.out.kept' bx)
    have G2 := Lib.hid (G1.out.kept' bx)
    clear S1 G1 bx M1 B1
    generalize u1.alloc (.cells #[.bool V, .bool W, .bool X, .bool B, .int .i64 f] 62) = u2 at *
    refine (check_any m F n c z V W X B f acc u2 M2.out).mono ?_
    rintro e u3 ⟨rfl, b3⟩
    have d1 := (H2.out.kept' b3).c1
    have d2 := (H2.out.kept' b3).c2
    have d3 := (H2.out.kept' b3).c3
    have d4 := (H2.out.kept' b3).c4
    have BB := Lib.hid (B2.out.trans (b3.mono B2.out.size))
    obtain ⟨c0, c1, c2, c3, c4, c5⟩ := S2.out.kept' b3
    have GG := (G2.out.kept' b3).2
    have g0 := GG 0
    have g1 := GG 1
    have g2 := GG 2
    have g3 := GG 3
    have g4 := GG 4
    have g5 := GG 5
    clear M2 S2 G2 H2 B2 b3 GG
    by_cases hk : checkS n ⟨V, W, X, B, f⟩ acc = 0
    · have T := Lib.hid (show hitOf n ⟨⟨V, W, X, B, f⟩, r, 0⟩ acc = ⟨0, r, f, W, X, B⟩ by unfold hitOf; rw [if_neg (show ¬ ((0 : Int) ≠ 0) by decide), if_neg (by rw [hk]; decide)])
      rw [hk]
      clear hk
      go_wp2
      refine bodyPost_ret (v := .agg #[.int .i64 0, .int .i64 r, .int .i64 f, .bool W, .bool X, .bool B]) (by simp [results, Tryz.results101, go_sem, c0, c1, c2, c3, c4, c5]) rfl ⟨by rw [T.out]; rfl, ?_⟩
      repeat' (first | (with_reducible exact BB.out) | (with_reducible refine Below.setCell ?_ ?_ _) | (with_reducible refine Below.alloc ?_ ?_ _) | exact Nat.le_refl _)
    · have T := Lib.hid (show hitOf n ⟨⟨V, W, X, B, f⟩, r, 0⟩ acc = ⟨checkS n ⟨V, W, X, B, f⟩ acc, r, 0, false, false, false⟩ by unfold hitOf; rw [if_neg (show ¬ ((0 : Int) ≠ 0) by decide), if_pos hk])
      obtain ⟨k, hkk⟩ : ∃ k, k = checkS n ⟨V, W, X, B, f⟩ acc := ⟨_, rfl⟩
      rw [← hkk] at hk T ⊢
      have dk : (k != 0) = true := by simpa using hk
      clear hk hkk
      go_wp2
      refine bodyPost_ret (v := .agg #[.int .i64 k, .int .i64 r, .int .i64 0, .bool false, .bool false, .bool false]) (by simp [results, Tryz.results101, go_sem, c0, c1, c2, c3, c4, c5]) rfl ⟨by rw [T.out]; rfl, ?_⟩
      repeat' (first | (with_reducible exact BB.out) | (with_reducible refine Below.setCell ?_ ?_ _) | (with_reducible refine Below.alloc ?_ ?_ _) | exact Nat.le_refl _)
  · have T := Lib.hid (show hitOf n ⟨⟨V, W, X, B, f⟩, r, t⟩ acc = ⟨t, r, 0, false, false, false⟩ by unfold hitOf; rw [if_pos ht])
    have dt : (t != 0) = true := by simpa using ht
    have dt' : (t == 0) = false := by simpa using ht
    have BB := B1
    have lt2 := G1.out.1
    obtain ⟨c0, c1, c2, c3, c4, c5⟩ := S1.out
    have GG := G1.out.2
    have g0 := GG 0
    have g1 := GG 1
    have g2 := GG 2
    have g3 := GG 3
    have g4 := GG 4
    have g5 := GG 5
    clear ht M1 S1 G1 B1 GG
    go_wp2
    refine bodyPost_ret (v := .agg #[.int .i64 t, .int .i64 r, .int .i64 0, .bool false, .bool false, .bool false]) (by simp [results, Tryz.results101, go_sem, c0, c1, c2, c3, c4, c5, lt2]) rfl ⟨by rw [T.out]; rfl, ?_⟩
    repeat' (first | (with_reducible exact BB.out) | (with_reducible refine drewB ?_ _) | (with_reducible refine Below.setCell ?_ ?_ _) | (with_reducible refine Below.alloc ?_ ?_ _) | (with_reducible exact Nat.le_refl _) | (simp; omega) | exact Nat.le_refl _ | omega)
end Wk
end Go.Proofs.YtiiggmfindfkfaaGreat
namespace Go.Proofs.YtiiggmfindfkfaaGreat
open Go.RowKit Nt
namespace Wk
open Ph En
/-- What Look tells. -/
structure Seen where
  e : Ent
  ok : Bool
def seenOf (h : Hit) : Seen := if h.f = 0 then ⟨⟨true, h.W, h.X, h.B, h.F⟩, true⟩ else ⟨e0, false⟩
def lookS (n : Nat) (z : Nat → Int) (root p : Int) : Seen := if 0 ≤ p ∧ p < 4096 then seenOf (walkS n z root (p * 256) 0) else ⟨e0, false⟩
theorem join0 (p : Int) (w : World) (h0 : 0 ≤ p) (h1 : p < 4096) :
    Calls Tryz.prog 93 #[.int .i64 p, .int .i64 0] w fun e w' => e = .returned (.tuple #[.int .u32 (p * 256), .bool true]) ∧ w = w' := by
  have h := join_yes p 0 w h0 h1 (by decide) (by decide)
  rw [show p * 256 + 0 = p * 256 by omega] at h
  exact h
def SeenEnd (s : Seen) (w : World) (e : Ending) (w' : World) : Prop := e = .returned (.tuple #[s.e.val, .bool s.ok]) ∧ Below w.heap.size w w'
set_option maxHeartbeats 2000000 in
theorem look_any (m F n c : Nat) (z : Nat → Int) (root p : Int) (w : World) (hM : Mem w m F n c z) :
    Calls Tryz.prog 68 #[.pointer (some ⟨m, 0, none⟩), .int .i64 root, .int .i64 p] w (SeenEnd (lookS n z root p) w) := by
  have hb : Below w.heap.size w (w.alloc (.cells #[.bool false, .bool false, .bool false, .bool false, .int .i64 0] 62)) := (Below.refl _ _).alloc (Nat.le_refl _) _
  have M0 := Lib.hid (hM.kept (Only.of hb []) (by simp) (by simp))
  have B0 := Lib.hid hb
  have F0 := Lib.hid (five_new w false false false false 0 62)
  have G0 := Lib.hid (free_new w #[.bool false, .bool false, .bool false, .bool false, .int .i64 0] 62)
  have bb := hb
  obtain ⟨u, hu⟩ : ∃ u, u = w.alloc (.cells #[.bool false, .bool false, .bool false, .bool false, .int .i64 0] 62) := ⟨_, rfl⟩
  rw [← hu] at M0 B0 F0 G0
  have HU := Lib.hid hu
  clear hM hb bb hu
  by_cases hp : 0 ≤ p ∧ p < 4096
  · obtain ⟨⟨f, r, F', W, X, B⟩, hT⟩ : ∃ T, walkS n z root (p * 256) 0 = T := ⟨_, rfl⟩
    have T0 := Lib.hid (show lookS n z root p = seenOf ⟨f, r, F', W, X, B⟩ by unfold lookS; rw [if_pos hp, hT])
    have HT := Lib.hid hT
    obtain ⟨p0, p1⟩ := hp
    clear hT
    go_enter Tryz.func68, Tryz.ntmps68
    go_wp2_with (go_at_call 93; rw [← HU.out]; refine (join0 p _ p0 p1).mono ?_; rintro e w' ⟨rfl, rfl⟩)
    refine (walk_any m F n c z root (p * 256) 0 u M0.out (by omega) (by omega)).mono ?_
    rintro e u1 ⟨rfl, b1⟩
    rw [HT.out]
    simp only [Hit.val]
    have BB := Lib.hid (B0.out.trans (b1.mono B0.out.size))
    obtain ⟨c0, c1, c2, c3, c4⟩ := F0.out.kept' b1
    have lt2 := (G0.out.kept' b1).1
    have GG := (G0.out.kept' b1).2
    have g0 := GG 0
    have g1 := GG 1
    have g2 := GG 2
    have g3 := GG 3
    have g4 := GG 4
    clear M0 B0 F0 G0 b1 GG HU
    by_cases hf : f = 0
    · have T := Lib.hid (show lookS n z root p = ⟨⟨true, W, X, B, F'⟩, true⟩ by rw [T0.out]; unfold seenOf; rw [if_pos hf])
      subst hf
      clear T0 HT
      go_wp2
      refine bodyPost_ret (v := .tuple #[.agg #[.bool true, .bool W, .bool X, .bool B, .int .i64 F'], .bool true]) (by simp [results, Tryz.results68, go_sem, c0, c1, c2, c3, c4, lt2]) rfl ⟨by rw [T.out]; rfl, ?_⟩
      repeat' (first | (with_reducible exact BB.out) | (with_reducible refine drewB ?_ _) | (with_reducible refine Below.setCell ?_ ?_ _) | (with_reducible refine Below.alloc ?_ ?_ _) | (with_reducible exact Nat.le_refl _) | (simp; omega) | exact Nat.le_refl _ | omega)
    · have T := Lib.hid (show lookS n z root p = ⟨e0, false⟩ by rw [T0.out]; unfold seenOf; rw [if_neg hf])
      have df : (f != 0) = true := by simpa using hf
      clear T0 HT hf
      go_wp2
      refine bodyPost_ret (v := .tuple #[.agg #[.bool false, .bool false, .bool false, .bool false, .int .i64 0], .bool false]) (by simp [results, Tryz.results68, go_sem, c0, c1, c2, c3, c4, lt2]) rfl ⟨by rw [T.out]; rfl, ?_⟩
      repeat' (first | (with_reducible exact BB.out) | (with_reducible refine drewB ?_ _) | (with_reducible refine Below.setCell ?_ ?_ _) | (with_reducible refine Below.alloc ?_ ?_ _) | (with_reducible exact Nat.le_refl _) | (simp; omega) | exact Nat.le_refl _ | omega)
  · have T := Lib.hid (show lookS n z root p = ⟨e0, false⟩ by unfold lookS; rw [if_neg hp])
    have HP := Lib.hid hp
    clear hp
    go_enter Tryz.func68, Tryz.ntmps68
    go_wp2_with (go_at_call 93; rw [← HU.out]; refine (join_no p 0 _ (fun h => HP.out ⟨h.1, h.2.1⟩)).mono ?_; rintro e w' ⟨rfl, rfl⟩; obtain ⟨c0, c1, c2, c3, c4⟩ := F0.out; have GG := G0.out.2; have g0 := GG 0; have g1 := GG 1; have g2 := GG 2; have g3 := GG 3; have g4 := GG 4; clear GG F0 G0 M0)
    have BB := B0
    refine bodyPost_ret (v := .tuple #[.agg #[.bool false, .bool false, .bool false, .bool false, .int .i64 0], .bool false]) (by simp [results, Tryz.results68, go_sem, c0, c1, c2, c3, c4]) rfl ⟨by rw [T.out]; rfl, ?_⟩
    repeat' (first | (with_reducible exact BB.out) | (with_reducible refine drewB ?_ _) | (with_reducible refine Below.setCell ?_ ?_ _) | (with_reducible refine Below.alloc ?_ ?_ _) | (with_reducible exact Nat.le_refl _) | (simp; omega) | exact Nat.le_refl _ | omega)
end Wk
end Go.Proofs.YtiiggmfindfkfaaGreat
namespace Go.Proofs.YtiiggmfindfkfaaGreat
open Go.RowKit Nt
namespace Wk
open Ph En
theorem owns_kept {w w' : World} {B : Nat} {t : TypeId} {size : Nat} {v : Value} {n : Nat} {xs : List Value} {S : List Nat} (h : w.ownsRow B t size v n xs) (ho : Only S w w') (hs : ∀ x ∈ S, v.ownBlock ≠ some x) : w'.ownsRow B t size v n xs := by
  refine ⟨h.1, h.2.imp id ?_⟩
  rintro ⟨g, cap, cur, rfl, h2, h3, h4⟩
  refine ⟨g, cap, cur, rfl, h2, ?_, h4⟩
  rw [ho.block g (Array.getElem?_eq_some_iff.1 h3).1 (fun hx => hs g hx rfl)]
  exact h3
theorem ints_kept {w w' : World} {B : Nat} {v : Value} {l : List Nat} {S : List Nat} (h : Ints w B v l) (ho : Only S w w') (hs : ∀ x ∈ S, v.ownBlock ≠ some x) : Ints w' B v l := ⟨owns_kept h.own ho hs⟩
/-- The pages that are told, of the first k. -/
def pagesL (n : Nat) (z : Nat → Int) (root : Int) (k : Nat) : List Nat := (List.range k).filter (fun p => (lookS n z root (p : Int)).ok)
theorem pagesL_len (n : Nat) (z : Nat → Int) (root : Int) (k : Nat) : (pagesL n z root k).length ≤ k := by unfold pagesL; exact Nat.le_trans (List.length_filter_le _ _) (by simp)
theorem pagesL_succ (n : Nat) (z : Nat → Int) (root : Int) (k : Nat) : pagesL n z root (k + 1) = pagesL n z root k ++ (if (lookS n z root (k : Int)).ok = true then [k] else []) := by
  unfold pagesL
  rw [List.range_succ, List.filter_append]
  cases h : (lookS n z root (k : Int)).ok <;> simp [h]
set_option maxRecDepth 100000 in
set_option maxHeartbeats 2000000 in
theorem pages_any (m F n c : Nat) (z : Nat → Int) (root : Int) (w : World) (hM : Mem w m F n c z) :
    Calls Tryz.prog 83 #[.pointer (some ⟨m, 0, none⟩), .int .i64 root] w (DiffEnd (pagesL n z root 4096) w) := by
  obtain ⟨i0, hi, hz0, hz1, hz2⟩ := info_parts infoI
  have HM := Lib.hid hM
  clear hM
  go_enter Tryz.func83, Tryz.ntmps83
  go_wp2_with fail
  go_loopw [5, 9] (fun v i wr => ∃ k : Nat, k ≤ 4096 ∧ i = .int .i64 k ∧ Ints wr w.heap.size v (pagesL n z root k) ∧ Only [] w wr) (fun _ i _ => 4096 - (intOf i).toNat)
  case atStart => exact ⟨0, Nat.zero_le _, rfl, ⟨World.ownsRow_nil _ _ _ _⟩, Only.refl _ _⟩
  case round =>
    obtain ⟨k, hk, rfl, hI, hO⟩ := hrel
    have IH := Lib.hid hI
    have WO := Lib.hid hO
    clear hI hO
    by_cases hlt : k < 4096
    · have hds := pagesL_succ n z root k
      have hdn := pagesL_len n z root k
      obtain ⟨⟨⟨V, W, X, B, f⟩, ok⟩, hS⟩ : ∃ s, lookS n z root (k : Int) = s := ⟨_, rfl⟩
      have HS := Lib.hid hS
      rw [hS] at hds
      clear hS
      go_wp2_with fail
      refine (look_any m F n c z root k wr (HM.out.kept WO.out (by simp) (by simp))).mono ?_
      rintro e w2 ⟨rfl, b2⟩
      rw [HS.out]
      simp only [Ent.val]
      have bx : Only [] w2 (w2.alloc (.cells #[.bool V, .bool W, .bool X, .bool B, .int .i64 f] 62)) := Only.alloc _ _ _
      have I2 := Lib.hid ((ints_kept IH.out (Only.of b2 []) (by simp)))
      have O2 := Lib.hid (WO.out.trans (Only.of b2 []))
      have I3 := Lib.hid (ints_kept I2.out bx (by simp))
      have O3 := Lib.hid (O2.out.trans bx)
      clear IH WO b2 bx HS
      cases ok
      · rw [if_neg (by decide), List.append_nil] at hds
        have DS := Lib.hid hds
        clear hds
        go_wp2
        go_roundw
        case rel => exact ⟨k + 1, by omega, by go_num, by rw [DS.out]; exact I3.out, O3.out⟩
        case measure => simp [intOf]; omega
      · rw [if_pos rfl] at hds
        have DS := Lib.hid hds
        have cell1 := cells1 (w2.alloc (.cells #[.bool V, .bool W, .bool X, .bool B, .int .i64 f] 62)) (.int .i64 k) 3
        rw [World.size_alloc] at cell1
        have C1 := Lib.hid cell1
        have hz2' := O2.out.size
        clear hds cell1
        go_wp2_with (at_builtin; refine wpList_append_own _ rfl (.tmp 20) (.tmp 22) 42 rfl w.heap.size 3 i0 (.int .i64 0) 1 8 Tryz.underlying42 hi hz0 hz1 hz2 rfl (by decide) u5 (pagesL n z root k).length (ints (pagesL n z root k)) rfl (I3.out.own.alloc _) ⟨w2.heap.size + 1, 0, none⟩ 1 1 [.int .i64 k] rfl rfl C1.out (by simp [Value.oneCell']) (by unfold maxLen; omega) (by omega) (by simp; omega) ?_; intro v' w3 hown hgrow hnil; have OW := Lib.hid hown; have GR := Lib.hid hgrow; clear hown hgrow hnil)
        go_roundw
        case rel =>
          refine ⟨k + 1, by omega, by go_num, ⟨?_⟩, Only.of ?_ _⟩
          · rw [DS.out, List.length_append, ints_append]
            exact OW.out
          · exact (((O3.out.below (Nat.le_refl _) (by simp)).alloc O3.out.size _).grown GR.out (by simp; omega) (fun j hj => (I2.out.own.lt j hj).1))
        case measure => simp [intOf]; omega
    · have e : k = 4096 := by omega
      subst e
      obtain ⟨pa, cc, rfl, hR⟩ := IH.out.reads
      go_wp2
      go_ret
      exact ⟨pa, cc, rfl, hR, WO.out⟩
end Wk
end Go.Proofs.YtiiggmfindfkfaaGreat
