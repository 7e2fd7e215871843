/-
  A heap's items as a law sees them: a row in order; what each call answers and leaves, whatever a heap is made of: its blocks may grow, and nothing but them is written. Conditions: none.
-/
import Derived.Test.YtmeadkllbjkjbaaWhMath
import Derived.Test.YtmeadkllbjkjbaaPhBase
import Derived.Laws.MakeOwn
import Derived.Maps.AppendAt
import Derived.Deep.AppendLies
import Derived.Laws.OwnMore
import Derived.Deep.LoopGhost
import Derived.WalkMore
namespace Go.Proofs.Ytmeadkllbjkjbaa
open Go.RowKit
namespace Hq
open Ph (Only)
open Wh (Srt Uni ins del has mem_ins srt_ins uni_ins srt_filter uni_filter has_iff len_ins)

abbrev ItT := Nat × Nat
abbrev W64 (x : Int) : Prop := (Lit.int .i64 x).wf = true
theorem wf_nat {i : Nat} (h : i ≤ 1000) : W64 (i : Nat) := by unfold W64; simp [Lit.wf, IntKind.min, IntKind.max, IntKind.signed, IntKind.bits]; omega
/-- Numbers in a row that is read; its block is new. -/
def Seen (B : Nat) (w : World) (v : Value) (l : List Nat) : Prop :=
  ∃ a cap, v = .slice a l.length cap ∧ (a = none → cap = 0) ∧ (0 < l.length → ∃ b off, a = some ⟨b, off, none⟩ ∧ B ≤ b ∧ b < w.heap.size ∧ ∀ (i : Nat) (x : Nat), l[i]? = some x → w.cell? ⟨b, off + i, none⟩ = some (.int .i64 (x : Nat)))
theorem Seen.kept {B : Nat} {w w' : World} {v : Value} {l : List Nat} {S : List Nat} (h : Seen B w v l) (ho : Only S w w') (hs : ∀ x ∈ S, x < B ∨ w.heap.size ≤ x) : Seen B w' v l := by
  obtain ⟨a, cap, rfl, hn0, hr⟩ := h
  refine ⟨a, cap, rfl, hn0, fun hl => ?_⟩
  obtain ⟨b, off, rfl, hB, hlt, hc⟩ := hr hl
  have hn : b ∉ S := fun x => by
    rcases hs b x with h | h <;> omega
  exact ⟨b, off, rfl, hB, Nat.lt_of_lt_of_le hlt ho.size, fun i x hx => (ho.cell hlt hn _).trans (hc i x hx)⟩
theorem Seen.form {B : Nat} {w : World} {v : Value} {l : List Nat} (h : Seen B w v l) : ∃ a cap, v = .slice a l.length cap := by
  obtain ⟨a, cap, rfl, _⟩ := h
  exact ⟨a, cap, rfl⟩
theorem Seen.at {B : Nat} {w : World} {a : Option Addr} {n cap : Nat} {l : List Nat} (h : Seen B w (.slice a n cap) l) {i x : Nat} (hx : l[i]? = some x) : ∃ b off, a = some ⟨b, off, none⟩ ∧ b < w.heap.size ∧ B ≤ b ∧ w.cell? ⟨b, off + i, none⟩ = some (.int .i64 (x : Nat)) := by
  obtain ⟨a', cap', e, _, hr⟩ := h
  cases e
  have hl := (List.getElem?_eq_some_iff.1 hx).1
  obtain ⟨b, off, rfl, hB, hlt, hc⟩ := hr (by omega)
  exact ⟨b, off, rfl, hlt, hB, hc i x hx⟩

/-! ### What each call answers and leaves -/
structure Fine (l : List ItT) : Prop where
  srt : Srt l
  uni : Uni l
  ids : ∀ x ∈ l, x.1 ≤ 63
  keys : ∀ x ∈ l, x.2 < 18446744073709551616
theorem Fine.nil : Fine [] := ⟨List.Pairwise.nil, List.Pairwise.nil, by simp, by simp⟩
def pshE (d : Int) (l : List ItT) : Int := if d < 0 ∨ 63 < d then 11 else if has d.toNat l = true then 13 else 0
def pshL (d : Int) (k : Nat) (l : List ItT) : List ItT := if pshE d l = 0 then ins (d.toNat, k) l else l
def rmB (d : Int) (l : List ItT) : Bool := decide (0 ≤ d) && has d.toNat l
def rmL (d : Int) (l : List ItT) : List ItT := if rmB d l = true then del d.toNat l else l
def chE (d : Int) (l : List ItT) : Int := if d < 0 ∨ 63 < d then 11 else if has d.toNat l = true then 0 else 12
def chL (d : Int) (k : Nat) (l : List ItT) : List ItT := if chE d l = 0 then ins (d.toNat, k) (del d.toNat l) else l
def topI (l : List ItT) : Int := match l with
  | [] => -1
  | x :: _ => (x.1 : Nat)
def topK (l : List ItT) : Nat := match l with
  | [] => 0
  | x :: _ => x.2
def keyP (d : Int) (l : List ItT) : Option Nat := if 0 ≤ d then (l.find? (fun x => x.1 == d.toNat)).map (·.2) else none
theorem pshE_or (d : Int) (l : List ItT) : pshE d l = 0 ∨ pshE d l = 11 ∨ pshE d l = 13 := by
  unfold pshE
  split
  · exact Or.inr (Or.inl rfl)
  · split
    · exact Or.inr (Or.inr rfl)
    · exact Or.inl rfl
theorem chE_or (d : Int) (l : List ItT) : chE d l = 0 ∨ chE d l = 11 ∨ chE d l = 12 := by
  unfold chE
  split
  · exact Or.inr (Or.inl rfl)
  · split
    · exact Or.inl rfl
    · exact Or.inr (Or.inr rfl)
theorem pshE_ok {d : Int} {l : List ItT} (h : pshE d l = 0) : 0 ≤ d ∧ d ≤ 63 ∧ has d.toNat l = false := by
  unfold pshE at h
  split at h
  · cases h
  · split at h
    · cases h
    · rename_i h1 h2
      exact ⟨by omega, by omega, by simpa using h2⟩
theorem chE_ok {d : Int} {l : List ItT} (h : chE d l = 0) : 0 ≤ d ∧ d ≤ 63 ∧ has d.toNat l = true := by
  unfold chE at h
  split at h
  · cases h
  · split at h
    · rename_i h1 h2
      exact ⟨by omega, by omega, h2⟩
    · cases h
theorem Fine.ins {l : List ItT} (h : Fine l) {x : ItT} (h1 : x.1 ≤ 63) (h2 : x.2 < 18446744073709551616) (hn : has x.1 l = false) : Fine (Wh.ins x l) := by
  refine ⟨srt_ins h.srt (fun y hy e => ?_), uni_ins h.uni hn, fun y hy => ?_, fun y hy => ?_⟩
  · have : has x.1 l = true := has_iff.2 ⟨y, hy, by rw [e]⟩
    rw [hn] at this; cases this
  · rcases mem_ins.1 hy with rfl | hy
    · exact h1
    · exact h.ids y hy
  · rcases mem_ins.1 hy with rfl | hy
    · exact h2
    · exact h.keys y hy
theorem Fine.filter {l : List ItT} (h : Fine l) (p : ItT → Bool) : Fine (l.filter p) :=
  ⟨srt_filter h.srt p, uni_filter h.uni p, fun x hx => h.ids x (List.mem_filter.1 hx).1, fun x hx => h.keys x (List.mem_filter.1 hx).1⟩
theorem has_del_self (d : Nat) (l : List ItT) : has d (del d l) = false := by rw [Wh.has_del]; simp
theorem Fine.push {l : List ItT} (h : Fine l) (d : Int) {k : Nat} (hk : k < 18446744073709551616) : Fine (pshL d k l) := by
  unfold pshL
  split
  · rename_i h0
    obtain ⟨h1, h2, h3⟩ := pshE_ok h0
    exact h.ins (by show d.toNat ≤ 63; omega) hk h3
  · exact h
theorem Fine.change {l : List ItT} (h : Fine l) (d : Int) {k : Nat} (hk : k < 18446744073709551616) : Fine (chL d k l) := by
  unfold chL
  split
  · rename_i h0
    obtain ⟨h1, h2, h3⟩ := chE_ok h0
    exact (h.filter _).ins (by show d.toNat ≤ 63; omega) hk (has_del_self _ _)
  · exact h
theorem Fine.remove {l : List ItT} (h : Fine l) (d : Int) : Fine (rmL d l) := by
  unfold rmL
  split
  · exact h.filter _
  · exact h
theorem Fine.tail {l : List ItT} (h : Fine l) : Fine l.tail := by
  cases l with
  | nil => exact h
  | cons x r => exact ⟨(List.pairwise_cons.1 h.srt).2, (List.pairwise_cons.1 h.uni).2, fun y hy => h.ids y (by simp at hy; simp [hy]), fun y hy => h.keys y (by simp at hy; simp [hy])⟩
/-- Numbers below a bound, none twice, are no more than the bound. -/
theorem uni_few : ∀ (n : Nat) {l : List ItT}, Uni l → (∀ x ∈ l, x.1 < n) → l.length ≤ n
  | 0, [], _, _ => Nat.zero_le _
  | 0, x :: l, _, h => by have := h x (by simp); omega
  | n + 1, l, hu, h => by
    have h1 := uni_few n (l := l.filter (fun x => decide (x.1 < n))) (uni_filter hu _) (fun x hx => by simpa using (List.mem_filter.1 hx).2)
    have h2 : (l.filter (fun x => !decide (x.1 < n))).length ≤ 1 := by
      have hu2 := uni_filter hu (fun x => !decide (x.1 < n))
      have ha : ∀ x ∈ l.filter (fun x => !decide (x.1 < n)), x.1 = n := fun x hx => by
        obtain ⟨a, b⟩ := List.mem_filter.1 hx
        have := h x a
        simp at b
        omega
      revert hu2 ha
      generalize l.filter (fun x => !decide (x.1 < n)) = m
      intro hu2 ha
      match m, hu2, ha with
      | [], _, _ => simp
      | [x], _, _ => simp
      | x :: y :: r, hu2, ha =>
        have := (List.pairwise_cons.1 hu2).1 y (by simp)
        exact absurd ((ha x (by simp)).trans (ha y (by simp)).symm) this
    have h3 : l.length = (l.filter (fun x => decide (x.1 < n))).length + (l.filter (fun x => !decide (x.1 < n))).length := by
      clear h1 h2 h hu
      induction l with
      | nil => rfl
      | cons x l ih => by_cases e : x.1 < n <;> simp [e, ih] <;> omega
    omega
theorem Fine.len {l : List ItT} (h : Fine l) : l.length ≤ 64 := uni_few 64 h.uni (fun x hx => by have := h.ids x hx; omega)

/-! ### What a heap is asked for -/
/-- Blocks grew out of F. -/
def Grown (F : List Nat) (w w' : World) (Q : List Nat → Prop) : Prop := ∃ F', Q F' ∧ Only F w w' ∧ ∀ x ∈ F', x ∈ F ∨ w.heap.size ≤ x
/-- What is asked of a heap's functions. -/
structure Hk where
  Hp : World → Nat → List Nat → List ItT → Prop
  kept : ∀ {w w' : World} {p : Nat} {F : List Nat} {l : List ItT} {S : List Nat}, Hp w p F l → Only S w w' → (∀ x ∈ F, x ∉ S) → Hp w' p F l
  lt : ∀ {w : World} {p : Nat} {F : List Nat} {l : List ItT}, Hp w p F l → ∀ x ∈ F, x < w.heap.size
  fine : ∀ {w : World} {p : Nat} {F : List Nat} {l : List ItT}, Hp w p F l → Fine l
  new : ∀ (w : World), Calls Try.prog 8 #[] w fun e w' => ∃ p F, e = .returned (.pointer (some ⟨p, 0, none⟩)) ∧ Hp w' p F [] ∧ (∀ x ∈ F, w.heap.size ≤ x) ∧ Only [] w w'
  push : ∀ (w : World) (p : Nat) (F : List Nat) (l : List ItT) (d : Int) (k : Nat), Hp w p F l → W64 d → k < 18446744073709551616 → Calls Try.prog 9 #[.pointer (some ⟨p, 0, none⟩), .int .i64 d, .int .u64 (k : Nat)] w fun e w' => e = .returned (.int .i64 (pshE d l)) ∧ Grown F w w' fun F' => Hp w' p F' (pshL d k l)
  pop : ∀ (w : World) (p : Nat) (F : List Nat) (l : List ItT), Hp w p F l → Calls Try.prog 11 #[.pointer (some ⟨p, 0, none⟩)] w fun e w' => e = .returned (.tuple #[.int .i64 (topI l), .int .u64 (topK l : Nat), .bool (!l.isEmpty)]) ∧ Grown F w w' fun F' => Hp w' p F' l.tail
  min : ∀ (w : World) (p : Nat) (F : List Nat) (l : List ItT), Hp w p F l → Calls Try.prog 20 #[.pointer (some ⟨p, 0, none⟩)] w fun e w' => e = .returned (.tuple #[.int .i64 (topI l), .int .u64 (topK l : Nat), .bool (!l.isEmpty)]) ∧ Only [] w w'
  rem : ∀ (w : World) (p : Nat) (F : List Nat) (l : List ItT) (d : Int), Hp w p F l → W64 d → Calls Try.prog 13 #[.pointer (some ⟨p, 0, none⟩), .int .i64 d] w fun e w' => e = .returned (.bool (rmB d l)) ∧ Grown F w w' fun F' => Hp w' p F' (rmL d l)
  chg : ∀ (w : World) (p : Nat) (F : List Nat) (l : List ItT) (d : Int) (k : Nat), Hp w p F l → W64 d → k < 18446744073709551616 → Calls Try.prog 14 #[.pointer (some ⟨p, 0, none⟩), .int .i64 d, .int .u64 (k : Nat)] w fun e w' => e = .returned (.int .i64 (chE d l)) ∧ Grown F w w' fun F' => Hp w' p F' (chL d k l)
  key : ∀ (w : World) (p : Nat) (F : List Nat) (l : List ItT) (d : Int), Hp w p F l → W64 d → Calls Try.prog 21 #[.pointer (some ⟨p, 0, none⟩), .int .i64 d] w fun e w' => e = .returned (.tuple #[.int .u64 ((keyP d l).getD 0 : Nat), .bool (keyP d l).isSome]) ∧ Only [] w w'
  len : ∀ (w : World) (p : Nat) (F : List Nat) (l : List ItT), Hp w p F l → Calls Try.prog 17 #[.pointer (some ⟨p, 0, none⟩)] w fun e w' => e = .returned (.int .i64 (l.length : Nat)) ∧ w = w'
  list : ∀ (w : World) (p : Nat) (F : List Nat) (l : List ItT), Hp w p F l → Calls Try.prog 19 #[.pointer (some ⟨p, 0, none⟩)] w fun e w' => ∃ v, e = .returned v ∧ Seen w.heap.size w' v (l.map (·.1)) ∧ Only [] w w'

/-- A heap in a law's world: its blocks are new, and what lay stays. -/
structure On (K : Hk) (B : Nat) (w0 : World) (p : Nat) (F : List Nat) (l : List ItT) (w : World) : Prop where
  hp : K.Hp w p F l
  low : ∀ x ∈ F, B ≤ x
  below : Below B w0 w
section
variable {K : Hk} {B : Nat} {w0 w w' : World} {p : Nat} {F : List Nat} {l : List ItT}
theorem On.size (h : On K B w0 p F l w) (hB : B ≤ w0.heap.size) : B ≤ w.heap.size := Nat.le_trans hB h.below.size
theorem On.quiet (h : On K B w0 p F l w) (ho : Only [] w w') (hB : B ≤ w0.heap.size) : On K B w0 p F l w' := ⟨K.kept h.hp ho (by simp), h.low, h.below.trans (ho.below (h.size hB) (by simp))⟩
theorem On.grown {l' : List ItT} (h : On K B w0 p F l w) (hg : Grown F w w' fun F' => K.Hp w' p F' l') (hB : B ≤ w0.heap.size) : ∃ F', On K B w0 p F' l' w' ∧ Only F w w' ∧ ∀ x ∈ F', x ∈ F ∨ w.heap.size ≤ x := by
  obtain ⟨F', hw, ho, hf⟩ := hg
  exact ⟨F', ⟨hw, fun x hx => (hf x hx).elim (h.low x) (fun g => Nat.le_trans (h.size hB) g), h.below.trans (ho.below (h.size hB) h.low)⟩, ho, hf⟩
end
end Hq
end Go.Proofs.Ytmeadkllbjkjbaa
