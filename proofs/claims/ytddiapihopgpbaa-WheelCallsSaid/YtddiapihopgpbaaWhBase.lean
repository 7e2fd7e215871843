/-
  Timers as a law sees them: rows of timers that are read, and what a wheel is asked for, whatever it is made of: its blocks may grow, and nothing but them is written. Conditions: none.
-/
import Derived.Test.YtddiapihopgpbaaWhMath
import Derived.Test.YtddiapihopgpbaaPhBase
import Derived.Laws.MakeOwn
import Derived.Maps.AppendAt
import Derived.Deep.AppendLies
import Derived.Laws.OwnMore
import Derived.Deep.LoopGhost
import Derived.WalkMore
namespace Go.Proofs.Ytddiapihopgpbaa
open Go.RowKit
namespace Wh
open Ph (Only)

theorem add_eq (b off k : Nat) : ({ block := b, off := off } : Addr).add k = ⟨b, off + k, none⟩ := by simp [Addr.add]
abbrev dV (x : DuT) : Value := .agg #[.int .i64 (x.1 : Nat), .int .u64 (x.2 : Nat)]
/-- A timer's parts as they are. -/
abbrev PrT := Int × Int
abbrev pV (x : PrT) : Value := .agg #[.int .i64 x.1, .int .u64 x.2]
def encD (x : DuT) : List Value := [.int .i64 (x.1 : Nat), .int .u64 (x.2 : Nat)]
def flatD (l : List DuT) : List Value := l.flatMap encD
theorem flatD_snoc (l : List DuT) (x : DuT) : flatD (l ++ [x]) = flatD l ++ encD x := by simp [flatD]
theorem flatD_append (l m : List DuT) : flatD (l ++ m) = flatD l ++ flatD m := by simp [flatD]
theorem flatD_len : ∀ l : List DuT, (flatD l).length = l.length * 2
  | [] => rfl
  | x :: r => by
    have := flatD_len r
    show (encD x ++ flatD r).length = _
    rw [List.length_append, this]
    simp [encD]
    omega
theorem flatD_at : ∀ {l : List DuT} {i : Nat} {x : DuT}, l[i]? = some x → (flatD l)[i * 2]? = some (.int .i64 (x.1 : Nat)) ∧ (flatD l)[i * 2 + 1]? = some (.int .u64 (x.2 : Nat))
  | [], i, x, h => by simp at h
  | y :: r, 0, x, h => by
    obtain rfl : y = x := by simpa using h
    exact ⟨rfl, rfl⟩
  | y :: r, i + 1, x, h => by
    have := flatD_at (l := r) (i := i) (x := x) (by simpa using h)
    have e : flatD (y :: r) = encD y ++ flatD r := rfl
    rw [e]
    simp only [encD]
    rw [show (i + 1) * 2 = i * 2 + 2 by omega, show i * 2 + 2 + 1 = i * 2 + 1 + 2 by omega]
    exact this
/-- What lies behind B may have turned. -/
def past (B : Nat) (w : World) : List Nat := List.range' B (w.heap.size - B)
theorem below_only {B : Nat} {w w' : World} (h : Below B w w') : Only (past B w) w w' :=
  ⟨h.os, h.tape, h.output, h.size, fun k hk hn => h.block k (by
    by_cases e : k < B
    · exact e
    · exact absurd (List.mem_range'_1.2 ⟨by omega, by omega⟩) hn)⟩
theorem past_not {B : Nat} {w : World} {b : Nat} (h : b < B) : b ∉ past B w := fun x => by
  have := (List.mem_range'_1.1 x).1
  omega
theorem past_low {B : Nat} {w : World} {b : Nat} (h : b ∈ past B w) : B ≤ b := (List.mem_range'_1.1 h).1
/-- A row of timers that is read; its block is new, and is none of F. -/
def Seen (B : Nat) (F : List Nat) (w : World) (v : Value) (l : List DuT) : Prop :=
  ∃ a cap, v = .slice a l.length cap ∧ (a = none → cap = 0) ∧ (0 < l.length → ∃ b off, a = some ⟨b, off, none⟩ ∧ B ≤ b ∧ b ∉ F ∧ b < w.heap.size ∧ ∀ (i : Nat) (x : DuT), l[i]? = some x → w.cell? ⟨b, off + i * 2, none⟩ = some (.int .i64 (x.1 : Nat)) ∧ w.cell? ⟨b, off + i * 2 + 1, none⟩ = some (.int .u64 (x.2 : Nat)))
theorem Seen.kept {B : Nat} {F : List Nat} {w w' : World} {v : Value} {l : List DuT} {S : List Nat} (h : Seen B F w v l) (ho : Only S w w') (hs : ∀ x ∈ S, x ∈ F ∨ x < B ∨ w.heap.size ≤ x) : Seen B F w' v l := by
  obtain ⟨a, cap, rfl, hn0, hr⟩ := h
  refine ⟨a, cap, rfl, hn0, fun hl => ?_⟩
  obtain ⟨b, off, rfl, hB, hF, hlt, hc⟩ := hr hl
  have hn : b ∉ S := fun x => by
    rcases hs b x with h | h | h
    · exact hF h
    · omega
    · omega
  exact ⟨b, off, rfl, hB, hF, Nat.lt_of_lt_of_le hlt ho.size, fun i x hx => ⟨(ho.cell hlt hn _).trans (hc i x hx).1, (ho.cell hlt hn _).trans (hc i x hx).2⟩⟩
theorem Seen.form {B : Nat} {F : List Nat} {w : World} {v : Value} {l : List DuT} (h : Seen B F w v l) : ∃ a cap, v = .slice a l.length cap := by
  obtain ⟨a, cap, rfl, _⟩ := h
  exact ⟨a, cap, rfl⟩
theorem Seen.at {B : Nat} {F : List Nat} {w : World} {a : Option Addr} {n cap : Nat} {l : List DuT} (h : Seen B F w (.slice a n cap) l) {i : Nat} {x : DuT} (hx : l[i]? = some x) :
    ∃ b off, a = some ⟨b, off, none⟩ ∧ b < w.heap.size ∧ B ≤ b ∧ b ∉ F ∧ w.cell? ⟨b, off + i * 2, none⟩ = some (.int .i64 (x.1 : Nat)) ∧ w.cell? ⟨b, off + i * 2 + 1, none⟩ = some (.int .u64 (x.2 : Nat)) := by
  obtain ⟨a', cap', e, _, hr⟩ := h
  cases e
  have hl := (List.getElem?_eq_some_iff.1 hx).1
  obtain ⟨b, off, rfl, hB, hF, hlt, hc⟩ := hr (by omega)
  exact ⟨b, off, rfl, hlt, hB, hF, (hc i x hx).1, (hc i x hx).2⟩

/-! ### What each call answers and leaves -/
/-- Timers as a wheel may have them. -/
structure Fine (t : Nat) (l : List DuT) : Prop where
  srt : Srt l
  uni : Uni l
  ids : ∀ x ∈ l, x.1 ≤ 999
  ats : ∀ x ∈ l, x.2 ≤ 4611686018427387904
  time : t ≤ 4611686018427387904
def addE (d : Int) (a : Nat) (l : List DuT) : Int := if d < 0 ∨ 999 < d ∨ 4611686018427387904 < a then 11 else if has d.toNat l = true then 13 else 0
def addL (d : Int) (a : Nat) (l : List DuT) : List DuT := if addE d a l = 0 then ins (d.toNat, a) l else l
def canB (d : Int) (l : List DuT) : Bool := decide (0 ≤ d) && has d.toNat l
def canL (d : Int) (l : List DuT) : List DuT := if canB d l = true then del d.toNat l else l
def advT (t a : Nat) : Nat := if a ≤ 4611686018427387904 then max t a else t
def advO (t a : Nat) (l : List DuT) : List DuT := if a ≤ 4611686018427387904 then out (max t a) l else []
def advL (t a : Nat) (l : List DuT) : List DuT := if a ≤ 4611686018427387904 then rst (max t a) l else l
def nxt (l : List DuT) : DuT := l.headD (0, 0)
/-- When a number's timer is due. -/
def atP (d : Int) (l : List DuT) : Option Nat := if 0 ≤ d then (l.find? (fun x => x.1 == d.toNat)).map (·.2) else none
theorem addE_or (d : Int) (a : Nat) (l : List DuT) : addE d a l = 0 ∨ addE d a l = 11 ∨ addE d a l = 13 := by
  unfold addE
  split
  · exact Or.inr (Or.inl rfl)
  · split
    · exact Or.inr (Or.inr rfl)
    · exact Or.inl rfl
theorem addE_ok {d : Int} {a : Nat} {l : List DuT} (h : addE d a l = 0) : 0 ≤ d ∧ d ≤ 999 ∧ a ≤ 4611686018427387904 ∧ has d.toNat l = false := by
  unfold addE at h
  split at h
  · cases h
  · split at h
    · cases h
    · rename_i h1 h2
      exact ⟨by omega, by omega, by omega, by simpa using h2⟩
theorem Fine.add {t : Nat} {l : List DuT} (h : Fine t l) (d : Int) (a : Nat) : Fine t (addL d a l) := by
  unfold addL
  split
  · rename_i h0
    obtain ⟨h1, h2, h3, h4⟩ := addE_ok h0
    refine ⟨srt_ins h.srt (fun y hy e => ?_), uni_ins h.uni h4, fun x hx => ?_, fun x hx => ?_, h.time⟩
    · have : has d.toNat l = true := has_iff.2 ⟨y, hy, by rw [e]⟩
      rw [h4] at this; cases this
    · rcases mem_ins.1 hx with rfl | hx
      · show d.toNat ≤ 999; omega
      · exact h.ids x hx
    · rcases mem_ins.1 hx with rfl | hx
      · exact h3
      · exact h.ats x hx
  · exact h
theorem Fine.filter {t : Nat} {l : List DuT} (h : Fine t l) (p : DuT → Bool) : Fine t (l.filter p) :=
  ⟨srt_filter h.srt p, uni_filter h.uni p, fun x hx => h.ids x (List.mem_filter.1 hx).1, fun x hx => h.ats x (List.mem_filter.1 hx).1, h.time⟩
theorem Fine.can {t : Nat} {l : List DuT} (h : Fine t l) (d : Int) : Fine t (canL d l) := by
  unfold canL
  split
  · exact h.filter _
  · exact h
theorem Fine.adv {t : Nat} {l : List DuT} (h : Fine t l) (a : Nat) : Fine (advT t a) (advL t a l) := by
  unfold advT advL
  split
  · have := h.filter (fun x => !decide (x.2 ≤ max t a))
    exact ⟨this.srt, this.uni, this.ids, this.ats, by have := h.time; omega⟩
  · exact h

/-- Ahead of the first one's time nothing is due. -/
theorem adv_early {t : Nat} {x : DuT} {r : List DuT} (h : Fine t (x :: r)) (ht : t < x.2) : advO t (x.2 - 1) (x :: r) = [] ∧ advL t (x.2 - 1) (x :: r) = x :: r ∧ advT t (x.2 - 1) = x.2 - 1 := by
  have hx := h.ats x (by simp)
  have hm : max t (x.2 - 1) = x.2 - 1 := by omega
  have hs := List.pairwise_cons.1 h.srt
  obtain ⟨a, b⟩ := out_none (t := x.2 - 1) (l := x :: r) (fun y hy => by
    rcases List.mem_cons.1 hy with rfl | hy
    · omega
    · have := lt_at (hs.1 y hy); omega)
  unfold advO advL advT
  rw [if_pos (by omega), if_pos (by omega), if_pos (by omega), hm]
  exact ⟨a, b, rfl⟩
/-- At its time the first one is due, ahead of all. -/
theorem adv_first {t : Nat} {x : DuT} {r : List DuT} (h : Fine t (x :: r)) : ∃ o, advO t x.2 (x :: r) = x :: o ∧ (advL t x.2 (x :: r)).length ≤ r.length := by
  have hx := h.ats x (by simp)
  unfold advO advL
  rw [if_pos hx, if_pos hx]
  refine ⟨out (max t x.2) r, ?_, ?_⟩
  · unfold out
    rw [List.filter_cons_of_pos (by simp; omega)]
  · unfold rst
    rw [List.filter_cons_of_neg (by simp; omega)]
    exact List.length_filter_le _ _

/-! ### What a wheel is asked for -/
/-- Blocks grew out of F. -/
def Grown (F : List Nat) (w w' : World) (Q : List Nat → Prop) : Prop := ∃ F', Q F' ∧ Only F w w' ∧ ∀ x ∈ F', x ∈ F ∨ w.heap.size ≤ x
abbrev W64 (x : Int) : Prop := (Lit.int .i64 x).wf = true
/-- What is asked of a wheel's functions. -/
structure Wk where
  Wh : World → Nat → List Nat → Nat → List DuT → Prop
  kept : ∀ {w w' : World} {p : Nat} {F : List Nat} {t : Nat} {l : List DuT} {S : List Nat}, Wh w p F t l → Only S w w' → (∀ x ∈ F, x ∉ S) → Wh w' p F t l
  lt : ∀ {w : World} {p : Nat} {F : List Nat} {t : Nat} {l : List DuT}, Wh w p F t l → ∀ x ∈ F, x < w.heap.size
  fine : ∀ {w : World} {p : Nat} {F : List Nat} {t : Nat} {l : List DuT}, Wh w p F t l → Fine t l
  new_yes : ∀ (t : Nat) (w : World), t ≤ 4611686018427387904 → Calls Try.prog 9 #[.int .u64 (t : Nat)] w fun e w' => ∃ p F, e = .returned (.tuple #[.pointer (some ⟨p, 0, none⟩), .int .i64 0]) ∧ Wh w' p F t [] ∧ (∀ x ∈ F, w.heap.size ≤ x) ∧ Only [] w w'
  new_no : ∀ (t : Nat) (w : World), 4611686018427387904 < t → Calls Try.prog 9 #[.int .u64 (t : Nat)] w fun e w' => e = .returned (.tuple #[.pointer none, .int .i64 11]) ∧ Only [] w w'
  add : ∀ (w : World) (p : Nat) (F : List Nat) (t : Nat) (l : List DuT) (d : Int) (a : Nat), Wh w p F t l → W64 d → a < 18446744073709551616 → Calls Try.prog 10 #[.pointer (some ⟨p, 0, none⟩), .int .i64 d, .int .u64 (a : Nat)] w fun e w' => e = .returned (.int .i64 (addE d a l)) ∧ Grown F w w' fun F' => Wh w' p F' t (addL d a l)
  can : ∀ (w : World) (p : Nat) (F : List Nat) (t : Nat) (l : List DuT) (d : Int), Wh w p F t l → W64 d → Calls Try.prog 12 #[.pointer (some ⟨p, 0, none⟩), .int .i64 d] w fun e w' => e = .returned (.bool (canB d l)) ∧ Grown F w w' fun F' => Wh w' p F' t (canL d l)
  adv : ∀ (w : World) (p : Nat) (F : List Nat) (t : Nat) (l : List DuT) (a : Nat), Wh w p F t l → a < 18446744073709551616 → Calls Try.prog 15 #[.pointer (some ⟨p, 0, none⟩), .int .u64 (a : Nat)] w fun e w' => ∃ v, e = .returned v ∧ Grown F w w' fun F' => Wh w' p F' (advT t a) (advL t a l) ∧ Seen w.heap.size F' w' v (advO t a l)
  next : ∀ (w : World) (p : Nat) (F : List Nat) (t : Nat) (l : List DuT), Wh w p F t l → Calls Try.prog 17 #[.pointer (some ⟨p, 0, none⟩)] w fun e w' => e = .returned (.tuple #[dV (nxt l), .bool (!l.isEmpty)]) ∧ Only [] w w'
  now : ∀ (w : World) (p : Nat) (F : List Nat) (t : Nat) (l : List DuT), Wh w p F t l → Calls Try.prog 20 #[.pointer (some ⟨p, 0, none⟩)] w fun e w' => e = .returned (.int .u64 (t : Nat)) ∧ w = w'
  len : ∀ (w : World) (p : Nat) (F : List Nat) (t : Nat) (l : List DuT), Wh w p F t l → Calls Try.prog 21 #[.pointer (some ⟨p, 0, none⟩)] w fun e w' => e = .returned (.int .i64 (l.length : Nat)) ∧ w = w'
  at_ : ∀ (w : World) (p : Nat) (F : List Nat) (t : Nat) (l : List DuT) (d : Int), Wh w p F t l → W64 d → Calls Try.prog 18 #[.pointer (some ⟨p, 0, none⟩), .int .i64 d] w fun e w' => e = .returned (.tuple #[.int .u64 ((atP d l).getD 0 : Nat), .bool (atP d l).isSome]) ∧ Only [] w w'

theorem Wk.lenO (K : Wk) (w : World) (p : Nat) (F : List Nat) (t : Nat) (l : List DuT) (h : K.Wh w p F t l) : Calls Try.prog 21 #[.pointer (some ⟨p, 0, none⟩)] w fun e w' => e = .returned (.int .i64 (l.length : Nat)) ∧ Only [] w w' :=
  (K.len w p F t l h).mono fun _ _ ⟨a, b⟩ => ⟨a, by rw [← b]; exact Only.refl _ _⟩
/-- A wheel in a law's world: its blocks are new, and what lay stays. -/
structure On (K : Wk) (B : Nat) (w0 : World) (p : Nat) (F : List Nat) (t : Nat) (l : List DuT) (w : World) : Prop where
  wh : K.Wh w p F t l
  low : ∀ x ∈ F, B ≤ x
  below : Below B w0 w
section
variable {K : Wk} {B : Nat} {w0 w w' : World} {p : Nat} {F : List Nat} {t : Nat} {l : List DuT}
theorem On.size (h : On K B w0 p F t l w) (hB : B ≤ w0.heap.size) : B ≤ w.heap.size := Nat.le_trans hB h.below.size
theorem On.quiet (h : On K B w0 p F t l w) (ho : Only [] w w') (hB : B ≤ w0.heap.size) : On K B w0 p F t l w' := ⟨K.kept h.wh ho (by simp), h.low, h.below.trans (ho.below (h.size hB) (by simp))⟩
theorem On.step {F' : List Nat} {t' : Nat} {l' : List DuT} (h : On K B w0 p F t l w) (hw : K.Wh w' p F' t' l') (ho : Only F w w') (hf : ∀ x ∈ F', x ∈ F ∨ w.heap.size ≤ x) (hB : B ≤ w0.heap.size) : On K B w0 p F' t' l' w' :=
  ⟨hw, fun x hx => (hf x hx).elim (h.low x) (fun g => Nat.le_trans (h.size hB) g), h.below.trans (ho.below (h.size hB) h.low)⟩
theorem On.grown {t' : Nat} {l' : List DuT} (h : On K B w0 p F t l w) (hg : Grown F w w' fun F' => K.Wh w' p F' t' l') (hB : B ≤ w0.heap.size) : ∃ F', On K B w0 p F' t' l' w' ∧ Only F w w' ∧ ∀ x ∈ F', x ∈ F ∨ w.heap.size ≤ x := by
  obtain ⟨F', hw, ho, hf⟩ := hg
  exact ⟨F', ⟨hw, fun x hx => (hf x hx).elim (h.low x) (fun g => Nat.le_trans (h.size hB) g), h.below.trans (ho.below (h.size hB) h.low)⟩, ho, hf⟩
end
end Wh
end Go.Proofs.Ytddiapihopgpbaa
