/-
  Meters as they lie in a world; what meter's known, Cost, cycles, has, state, Clock, Idle, Spent and Stopped answer. Conditions: that a meter lies there, and the table of costs.
-/
import Derived.Test.YtalaalpafafpbaaDoorRows
import Derived.WalkKit
import Derived.WalkSpells
import Derived.WalkLawsBesides
import Derived.Outline
import Derived.IntWalk
import Derived.Below
import Derived.Lib.Hide
import Derived.Deep.QuietTactic
import Derived.BigQuiet
import Derived.Laws.BitsAllLaws
import Derived.Deep.OwnRows
import Derived.Deep.MidRow
import Derived.Lib.QuietBelow
namespace Go.Proofs.YtalaalpafafpbaaDoor
open Go.RowKit
namespace Mt

/-! ### Worlds that differ in some blocks alone -/
/-- But for some blocks the world w' is as w was; the streams are as they were; no block has gone. -/
structure Only (S : List Nat) (w w' : World) : Prop where
  os : w'.os = w.os
  tape : w'.tape = w.tape
  output : w'.output = w.output
  size : w.heap.size ≤ w'.heap.size
  block : ∀ k, k < w.heap.size → k ∉ S → w'.heap[k]? = w.heap[k]?
theorem Only.refl (S : List Nat) (w : World) : Only S w w := ⟨rfl, rfl, rfl, Nat.le_refl _, fun _ _ _ => rfl⟩
theorem Only.trans {S : List Nat} {a b c : World} (h : Only S a b) (k : Only S b c) : Only S a c :=
  ⟨k.os.trans h.os, k.tape.trans h.tape, k.output.trans h.output, Nat.le_trans h.size k.size, fun i hi hs => (k.block i (Nat.lt_of_lt_of_le hi h.size) hs).trans (h.block i hi hs)⟩
theorem Only.mono {S S' : List Nat} {w w' : World} (h : Only S w w') (hs : ∀ x ∈ S, x ∈ S') : Only S' w w' :=
  ⟨h.os, h.tape, h.output, h.size, fun k hk hn => h.block k hk (fun x => hn (hs _ x))⟩
theorem Only.of {w w' : World} (h : Below w.heap.size w w') (S : List Nat) : Only S w w' := ⟨h.os, h.tape, h.output, h.size, fun k hk _ => h.block k hk⟩
theorem Only.drewN (S : List Nat) (w : World) (k : Nat) : Only S w (w.drewN k) := ⟨rfl, rfl, rfl, Nat.le_refl _, fun _ _ _ => rfl⟩
theorem Only.alloc (S : List Nat) (w : World) (o : Obj) : Only S w (w.alloc o) := Only.of ((Below.refl _ _).alloc (Nat.le_refl _) _) S
theorem Only.setCell {S : List Nat} (w : World) {b : Nat} (hb : b ∈ S) (j : Nat) (v : Value) : Only S w (w.setCell ⟨b, j, none⟩ v) :=
  ⟨rfl, rfl, rfl, by simp [World.setCell], fun k _ hk => Below.heap_setCell _ _ _ _ (fun e => hk (by rw [show k = b from e]; exact hb))⟩
theorem Only.below {S : List Nat} {w w' : World} (h : Only S w w') {B : Nat} (hB : B ≤ w.heap.size) (hs : ∀ x ∈ S, B ≤ x) : Below B w w' :=
  ⟨h.os, h.tape, h.output, h.size, fun k hk => h.block k (by omega) (fun x => by have := hs k x; omega)⟩
theorem Only.cell {S : List Nat} {w w' : World} (h : Only S w w') {b : Nat} (hb : b < w.heap.size) (hn : b ∉ S) (j : Nat) : w'.cell? ⟨b, j, none⟩ = w.cell? ⟨b, j, none⟩ :=
  World.cell?_of_block (w := w) (h.block b hb hn)
theorem Only.frozen {S : List Nat} {w w' : World} (h : Only S w w') {b : Nat} (hb : b < w.heap.size) (hn : b ∉ S) (j : Nat) : w'.frozen? ⟨b, j, none⟩ = w.frozen? ⟨b, j, none⟩ :=
  World.frozen?_of_block (w := w) (h.block b hb hn)
theorem Only.back {S S' : List Nat} {a b : World} {n : Nat} (h : Only S a b) (hs : ∀ x ∈ S, x ∈ S' ∨ n ≤ x) (hn : a.heap.size ≤ n) : Only S' a b :=
  ⟨h.os, h.tape, h.output, h.size, fun k hk hk' => h.block k hk (fun x => (hs k x).elim hk' (fun g => by omega))⟩

theorem Only.next {S T : List Nat} {a b c : World} (h : Only S a b) (k : Only T b c) (hs : ∀ x ∈ T, x ∈ S ∨ a.heap.size ≤ x) : Only S a c :=
  ⟨k.os.trans h.os, k.tape.trans h.tape, k.output.trans h.output, Nat.le_trans h.size k.size, fun i hi hn => (k.block i (Nat.lt_of_lt_of_le hi h.size) (fun x => (hs i x).elim hn (fun g => by omega))).trans (h.block i hi hn)⟩

/-! ### What was charged -/
/-- One charge: the core, the kind, the cycles. -/
structure Ent where
  core : Nat
  kind : Nat
  cyc : Int
/-- The sum of some. -/
def sumL (p : Ent → Bool) : List Ent → Int
  | [] => 0
  | e :: r => (if p e then e.cyc else 0) + sumL p r
theorem sumL_append (p : Ent → Bool) (a b : List Ent) : sumL p (a ++ b) = sumL p a + sumL p b := by
  induction a with
  | nil => simp [sumL]
  | cons e r ih => simp only [List.cons_append, sumL, ih]; omega
/-- A core's clock. -/
def clk (L : List Ent) (k : Nat) : Int := sumL (fun e => e.core == k) L
/-- What a kind took of it. -/
def knd (L : List Ent) (k j : Nat) : Int := sumL (fun e => e.core == k && e.kind == j) L
theorem clk_add (L : List Ent) (k c j : Nat) (x : Int) : clk (L ++ [⟨c, j, x⟩]) k = clk L k + if c = k then x else 0 := by
  unfold clk
  rw [sumL_append]
  simp [sumL]
theorem knd_add (L : List Ent) (k j c i : Nat) (x : Int) : knd (L ++ [⟨c, i, x⟩]) k j = knd L k j + if c = k ∧ i = j then x else 0 := by
  unfold knd
  rw [sumL_append]
  simp [sumL]
/-- What a meter's charges keep to. -/
structure Good (n : Nat) (L : List Ent) : Prop where
  ent : ∀ e ∈ L, e.core < n ∧ e.kind ≤ 8 ∧ 0 ≤ e.cyc
  clk : ∀ k, clk L k ≤ 4611686018427387904
theorem sumL_nonneg (p : Ent → Bool) (L : List Ent) (h : ∀ e ∈ L, 0 ≤ e.cyc) : 0 ≤ sumL p L := by
  induction L with
  | nil => simp [sumL]
  | cons e r ih =>
    have h1 := h e (List.mem_cons_self ..)
    have h2 := ih (fun x hx => h x (List.mem_cons_of_mem _ hx))
    simp only [sumL]
    split <;> omega
theorem sumL_le (p q : Ent → Bool) (L : List Ent) (h : ∀ e ∈ L, 0 ≤ e.cyc) (hpq : ∀ e, p e = true → q e = true) : sumL p L ≤ sumL q L := by
  induction L with
  | nil => simp [sumL]
  | cons e r ih =>
    have h1 := h e (List.mem_cons_self ..)
    have h2 := ih (fun x hx => h x (List.mem_cons_of_mem _ hx))
    simp only [sumL]
    have := hpq e
    cases hp : p e <;> cases hq : q e <;> simp_all <;> omega
theorem Good.clk0 {n : Nat} {L : List Ent} (h : Good n L) (k : Nat) : 0 ≤ Mt.clk L k := sumL_nonneg _ _ (fun e he => (h.ent e he).2.2)
theorem Good.knd0 {n : Nat} {L : List Ent} (h : Good n L) (k j : Nat) : 0 ≤ knd L k j := sumL_nonneg _ _ (fun e he => (h.ent e he).2.2)
theorem Good.kndle {n : Nat} {L : List Ent} (h : Good n L) (k j : Nat) : knd L k j ≤ Mt.clk L k := sumL_le _ _ _ (fun e he => (h.ent e he).2.2) (fun e he => by simp at he; simp [he.1])
/-- One more charge that goes up to the end at most. -/
theorem Good.add {n : Nat} {L : List Ent} (h : Good n L) (c j : Nat) (x : Int) (hc : c < n) (hj : j ≤ 8) (h0 : 0 ≤ x) (hx : Mt.clk L c + x ≤ 4611686018427387904) : Good n (L ++ [⟨c, j, x⟩]) := by
  refine ⟨fun e he => ?_, fun k => ?_⟩
  · rcases List.mem_append.1 he with h1 | h1
    · exact h.ent e h1
    · obtain rfl := List.mem_singleton.1 h1
      exact ⟨hc, hj, h0⟩
  · rw [clk_add]
    have := h.clk k
    split
    · rename_i e; subst e; exact hx
    · omega
/-- What lies in a meter's cells. -/
def zL (L : List Ent) (k i : Nat) : Int := if i = 0 then clk L k else if i = 1 then knd L k 0 else if i = 2 then 0 else knd L k (i - 2)
theorem zL_add_other (L : List Ent) (k c j i : Nat) (x : Int) (h : c ≠ k) : zL (L ++ [⟨c, j, x⟩]) k i = zL L k i := by
  unfold zL
  simp only [clk_add, knd_add, h, false_and, if_false, Int.add_zero]
/-- A meter: its own place, its cores' block, how many there are, the room; what was charged, whether it is stopped. -/
structure Met (w : World) (m F n c : Nat) (L : List Ent) (s : Bool) : Prop where
  lt : m < w.heap.size
  ltF : F < w.heap.size
  head : w.cell? ⟨m, 0, none⟩ = some (.slice (some ⟨F, 0, none⟩) n c)
  stop : w.cell? ⟨m, 1, none⟩ = some (.bool s)
  stopf : w.frozen? ⟨m, 1, none⟩ = false
  cell : ∀ k i, k < n → i < 11 → w.cell? ⟨F, k * 11 + i, none⟩ = some (.int .u64 (zL L k i))
  free : ∀ k i, k < n → i < 11 → w.frozen? ⟨F, k * 11 + i, none⟩ = false
  apart : m ≠ F
  few : n ≤ 4
  good : Good n L
theorem Met.kept {w w' : World} {m F n c : Nat} {L : List Ent} {s : Bool} {S : List Nat} (h : Met w m F n c L s) (ho : Only S w w') (hm : m ∉ S) (hF : F ∉ S) : Met w' m F n c L s :=
  ⟨Nat.lt_of_lt_of_le h.lt ho.size, Nat.lt_of_lt_of_le h.ltF ho.size, (ho.cell h.lt hm 0).trans h.head, (ho.cell h.lt hm 1).trans h.stop, (ho.frozen h.lt hm 1).trans h.stopf,
    fun k i hk hi => (ho.cell h.ltF hF _).trans (h.cell k i hk hi), fun k i hk hi => (ho.frozen h.ltF hF _).trans (h.free k i hk hi), h.apart, h.few, h.good⟩
/-- The table of costs. -/
def cost (k : Int) : Int := if k = 1 then 1 else if k = 2 then 2 else if k = 3 then 3 else if k = 4 then 20 else if k = 5 then 50 else if k = 6 then 30 else if k = 7 then 40 else if k = 8 then 64 else 0
def Costs (w : World) : Prop := 0 < w.heap.size ∧ ∀ j : Nat, j < 9 → w.cell? ⟨0, j, none⟩ = some (.int .u64 (cost j))
theorem Costs.kept {w w' : World} {S : List Nat} (h : Costs w) (ho : Only S w w') (hg : 0 ∉ S) : Costs w' :=
  ⟨Nat.lt_of_lt_of_le h.1 ho.size, fun j hj => (ho.cell h.1 hg j).trans (h.2 j hj)⟩
theorem cost_bounds (k : Int) : 0 ≤ cost k ∧ cost k ≤ 64 := by unfold cost; repeat (split; omega); omega
theorem cost_no (k : Int) (h : ¬ (1 ≤ k ∧ k ≤ 8)) : cost k = 0 := by
  unfold cost
  rw [if_neg (by omega), if_neg (by omega), if_neg (by omega), if_neg (by omega), if_neg (by omega), if_neg (by omega), if_neg (by omega), if_neg (by omega)]
theorem cost_yes (k : Int) (h : 1 ≤ k ∧ k ≤ 8) : 1 ≤ cost k := by unfold cost; repeat (split; omega); omega
/-- Does a number stand within the arrays of kinds? -/
def kn (k : Int) : Bool := decide (0 ≤ k ∧ k < 9)
theorem known_any (k : Int) (w : World) : Calls Tryd.prog 29 #[.int .i64 k] w fun e w' => e = .returned (.bool (kn k)) ∧ w = w' := by
  by_cases h0 : 0 ≤ k
  · by_cases h1 : k < 9
    · have d0 : decide (0 ≤ k) = true := by simpa using h0
      have d1 : decide (k < 9) = true := by simpa using h1
      have H := Lib.hid (show kn k = true by unfold kn; simp [h0, h1])
      go_enter Tryd.func29, Tryd.ntmps29
      go_wp2
      go_ret
      exact ⟨by rw [H.out] <;> rfl, rfl⟩
    · have d0 : decide (0 ≤ k) = true := by simpa using h0
      have d1 : decide (k < 9) = false := by simpa using h1
      have H := Lib.hid (show kn k = false by unfold kn; simp [h1])
      go_enter Tryd.func29, Tryd.ntmps29
      go_wp2
      go_ret
      exact ⟨by rw [H.out] <;> rfl, rfl⟩
  · have d0 : decide (0 ≤ k) = false := by simpa using h0
    have H := Lib.hid (show kn k = false by unfold kn; simp [h0])
    go_enter Tryd.func29, Tryd.ntmps29
    go_wp2
    go_ret
    exact ⟨by rw [H.out] <;> rfl, rfl⟩
theorem cost_any (k : Int) (w : World) (hC : Costs w) : Calls Tryd.prog 20 #[.int .i64 k] w fun e w' => e = .returned (.int .u64 (cost k)) ∧ w = w' := by
  by_cases h : 0 ≤ k ∧ k < 9
  · obtain ⟨j, rfl⟩ := Int.eq_ofNat_of_zero_le h.1
    have hj : j < 9 := by omega
    have hc := hC.2 j hj
    have H := Lib.hid (show kn j = true by unfold kn; simpa using h)
    clear hC h
    go_enter Tryd.func20, Tryd.ntmps20
    go_wp2_with (go_at_call 29; refine (known_any _ _).mono ?_; rintro e w' ⟨rfl, rfl⟩; rw [H.out])
    go_ret
    exact ⟨rfl, rfl⟩
  · have H := Lib.hid (show kn k = false by unfold kn; simpa using h)
    have e := Lib.hid (cost_no k (by omega))
    clear hC h
    go_enter Tryd.func20, Tryd.ntmps20
    go_wp2_with (go_at_call 29; refine (known_any _ _).mono ?_; rintro e w' ⟨rfl, rfl⟩; rw [H.out])
    go_ret
    exact ⟨by rw [e.out] <;> rfl, rfl⟩
end Mt
end Go.Proofs.YtalaalpafafpbaaDoor
