/-
  What the document's own less and Index answer, and how its timers lie. Conditions: that its wheel lies there.
-/
import Derived.Test.YtddiapihopgpbaaWhRow
import Derived.BigQuiet
import Derived.Deep.RegionHeld3
import Derived.Deep.CutRange
import Derived.Deep.CutBlock
namespace Go.Proofs.Ytddiapihopgpbaa
open Go.RowKit
namespace Wh
open Ph (Only)
/-- The document's own wheel: its place, its blocks, its time, its timers in order. -/
structure RW (w : World) (r : Nat) (H : List Nat) (t : Nat) (l : List DuT) : Prop where
  lt : ∀ x ∈ H, x < w.heap.size
  mem : r ∈ H
  c0 : w.cell? ⟨r, 0, none⟩ = some (.int .u64 (t : Nat))
  f0 : w.frozen? ⟨r, 0, none⟩ = false
  f1 : w.frozen? ⟨r, 1, none⟩ = false
  row : ∃ v, w.cell? ⟨r, 1, none⟩ = some v ∧ w.ownsRow 0 50 2 v l.length (flatD l) ∧ ∀ g, v.ownBlock = some g → g ∈ H ∧ g ≠ r
theorem RW.kept {w w' : World} {r : Nat} {H : List Nat} {t : Nat} {l : List DuT} {S : List Nat} (h : RW w r H t l) (ho : Only S w w') (hn : ∀ x ∈ H, x ∉ S) : RW w' r H t l := by
  have hr := h.lt r h.mem
  have hnr := hn r h.mem
  obtain ⟨v, hv, hrow, hg⟩ := h.row
  exact ⟨fun x hx => Nat.lt_of_lt_of_le (h.lt x hx) ho.size, h.mem, (ho.cell hr hnr 0).trans h.c0, (ho.frozen hr hnr 0).trans h.f0, (ho.frozen hr hnr 1).trans h.f1, v, (ho.cell hr hnr 1).trans hv, own_only hrow ho (fun g e => hn g (hg g e).1), hg⟩
theorem own_form {w : World} {base : Nat} {e : TypeId} {size : Nat} {v : Value} {n : Nat} {xs : List Value} (h : w.ownsRow base e size v n xs) : ∃ a cap, v = .slice a n cap := by
  rcases h.2 with ⟨rfl, rfl⟩ | ⟨g, cap, cur, rfl, _⟩
  · exact ⟨_, _, rfl⟩
  · exact ⟨_, _, rfl⟩
/-- The place of a number, from one on; -1 if there is none. -/
def ixN (d : Int) : Nat → List DuT → Int
  | _, [] => -1
  | i, x :: r => if ((x.1 : Nat) : Int) = d then (i : Int) else ixN d (i + 1) r
theorem ixN_next {d : Int} {l : List DuT} {i : Nat} {x : DuT} (hx : l[i]? = some x) : ixN d i (l.drop i) = if ((x.1 : Nat) : Int) = d then (i : Int) else ixN d (i + 1) (l.drop (i + 1)) := by
  have hi := (List.getElem?_eq_some_iff.1 hx).1
  have e : l.drop i = x :: l.drop (i + 1) := by
    rw [List.drop_eq_getElem_cons hi, (List.getElem?_eq_some_iff.1 hx).2]
  rw [e]
  rfl
theorem ixN_low (d : Int) : ∀ (i : Nat) (l : List DuT), ixN d i l = -1 ∨ (i : Int) ≤ ixN d i l
  | i, [] => Or.inl rfl
  | i, x :: r => by
    unfold ixN
    split
    · exact Or.inr (Int.le_refl _)
    · rcases ixN_low d (i + 1) r with h | h
      · exact Or.inl h
      · exact Or.inr (by omega)
theorem ixN_none {d : Int} : ∀ {i : Nat} {l : List DuT}, ixN d i l = -1 → ∀ x ∈ l, ((x.1 : Nat) : Int) ≠ d
  | i, [], _, x, hx => by cases hx
  | i, y :: r, h, x, hx => by
    unfold ixN at h
    split at h
    · omega
    · rename_i hy
      rcases List.mem_cons.1 hx with rfl | hx
      · exact hy
      · exact ixN_none h x hx
theorem ixN_some {d : Int} : ∀ {i k : Nat} {l : List DuT}, ixN d i l = (k : Int) → ∃ x, i ≤ k ∧ l[k - i]? = some x ∧ ((x.1 : Nat) : Int) = d
  | i, k, [], h => by unfold ixN at h; omega
  | i, k, y :: r, h => by
    unfold ixN at h
    split at h
    · rename_i hy
      obtain rfl : i = k := by omega
      exact ⟨y, Nat.le_refl _, by simp, hy⟩
    · obtain ⟨x, h1, h2, h3⟩ := ixN_some h
      refine ⟨x, by omega, ?_, h3⟩
      rw [show k - i = (k - (i + 1)) + 1 by omega, List.getElem?_cons_succ]
      exact h2
/-- Is there a timer of that number? -/
theorem ix_can (d : Int) (l : List DuT) : decide (0 ≤ ixN d 0 l) = canB d l := by
  rcases ixN_low d 0 l with h | h
  · rw [h]
    have hn := ixN_none h
    unfold canB
    cases hd : decide (0 ≤ d) with
    | false => rfl
    | true =>
      cases hh : has d.toNat l with
      | false => rfl
      | true =>
        obtain ⟨x, hx, e⟩ := has_iff.1 hh
        have := of_decide_eq_true hd
        exact absurd (by omega) (hn x hx)
  · obtain ⟨k, hk⟩ : ∃ k : Nat, ixN d 0 l = (k : Int) := ⟨(ixN d 0 l).toNat, by omega⟩
    obtain ⟨x, _, hx, e⟩ := ixN_some hk
    have hm := List.mem_of_getElem? hx
    have h0 : has d.toNat l = true := has_iff.2 ⟨x, hm, by omega⟩
    unfold canB
    rw [h0, decide_eq_true (by omega : 0 ≤ d), decide_eq_true (by omega : 0 ≤ ixN d 0 l)]
    rfl
def ltB (x y : DuT) : Bool := decide (x.2 < y.2) || (decide (x.2 = y.2) && decide (x.1 < y.1))
theorem ltB_iff {x y : DuT} : ltB x y = true ↔ Hp.lt x y := by
  unfold ltB Hp.lt
  simp
theorem less_any (x y : DuT) (w : World) : Calls Try.prog 23 #[dV x, dV y] w fun e w' => e = .returned (.bool (ltB x y)) ∧ Only [] w w' := by
  obtain ⟨xd, xt⟩ := x
  obtain ⟨yd, yt⟩ := y
  have hO : Only [] w ((w.alloc (.cells #[.int .i64 (xd : Nat), .int .u64 (xt : Nat)] 50)).alloc (.cells #[.int .i64 (yd : Nat), .int .u64 (yt : Nat)] 50)) := (Only.alloc [] w _).trans (Only.alloc [] _ _)
  by_cases h1 : xt < yt
  · have e : ltB (xd, xt) (yd, yt) = true := by unfold ltB; simp [h1]
    have h1' : (xt : Int) < (yt : Int) := by omega
    rw [e]
    clear e
    go_enter Try.func23, Try.ntmps23
    go_wp2
    go_ret
    exact ⟨rfl, hO⟩
  · have h1' : ¬ (xt : Int) < (yt : Int) := by omega
    by_cases h2 : xt = yt
    · subst h2
      by_cases h3 : xd < yd
      · have e : ltB (xd, xt) (yd, xt) = true := by unfold ltB; simp [h3]
        have h3' : (xd : Int) < (yd : Int) := by omega
        rw [e]
        clear e h1
        go_enter Try.func23, Try.ntmps23
        go_wp2
        go_ret
        exact ⟨rfl, hO⟩
      · have e : ltB (xd, xt) (yd, xt) = false := by unfold ltB; simp; omega
        have h3' : ¬ (xd : Int) < (yd : Int) := by omega
        have h3d : decide (xd < yd) = false := decide_eq_false h3
        rw [e]
        clear e h1
        go_enter Try.func23, Try.ntmps23
        go_wp2
        go_ret
        exact ⟨rfl, hO⟩
    · have e : ltB (xd, xt) (yd, yt) = false := by unfold ltB; simp; omega
      have h2' : ((xt : Int) == (yt : Int)) = false := by simp; omega
      have h1d : decide (xt < yt) = false := decide_eq_false h1
      rw [e]
      clear e
      go_enter Try.func23, Try.ntmps23
      go_wp2
      go_ret
      exact ⟨rfl, hO⟩
set_option maxRecDepth 100000 in
theorem index_any (r : Nat) (H : List Nat) (t : Nat) (l : List DuT) (d : Int) (w : World) (hl : l.length ≤ 2000) (hR : RW w r H t l) :
    Calls Try.prog 19 #[.pointer (some ⟨r, 0, none⟩), .int .i64 d] w fun e w' => e = .returned (.int .i64 (ixN d 0 l)) ∧ w = w' := by
  obtain ⟨v, hv, hrow, _⟩ := hR.row
  have hlt := hR.lt r hR.mem
  obtain ⟨a, cap, rfl⟩ := own_form hrow
  have HS := Lib.hid (own_seen hrow)
  clear hrow hR
  go_enter Try.func19, Try.ntmps19
  go_wp2_with fail
  go_loopw [5] (fun c wr => ∃ i : Nat, c = .int .i64 i ∧ i ≤ l.length ∧ Hid (ixN d i (l.drop i) = ixN d 0 l) ∧ w = wr) (fun c _ => l.length - (intOf c).toNat)
  case atStart => exact ⟨0, rfl, Nat.zero_le _, Lib.hid (by rw [List.drop_zero]), rfl⟩
  case round =>
    obtain ⟨i, rfl, hi, HI, rfl⟩ := hrel
    by_cases hil : i < l.length
    · obtain ⟨x, hx⟩ : ∃ x, l[i]? = some x := ⟨l[i], List.getElem?_eq_getElem hil⟩
      obtain ⟨b, off, rfl, hb, -, -, x0, x1⟩ := HS.out.at hx
      have hn := ixN_next (d := d) hx
      obtain ⟨xd, xt⟩ := x
      simp only at x0 x1 hn
      clear hx
      by_cases hd : ((xd : Nat) : Int) = d
      · rw [if_pos hd] at hn
        have HE := Lib.hid (hn.symm.trans HI.out)
        subst hd
        clear hn
        go_wp2_with fail
        go_ret
        exact ⟨by rw [← HE.out]; rfl, rfl⟩
      · rw [if_neg hd] at hn
        have HE := Lib.hid (hn.symm.trans HI.out)
        have dd : (((xd : Nat) : Int) == d) = false := by simpa using hd
        clear hn hd
        go_wp2_with fail
        go_roundw
        case rel => exact ⟨i + 1, by push_cast; rfl, by omega, HE, by trivial⟩
        case measure => simp only [intOf]; omega
    · obtain rfl : i = l.length := by omega
      have HE := HI.out
      rw [List.drop_length] at HE
      have HF := Lib.hid HE
      clear HE HI
      go_wp2_with fail
      go_ret
      exact ⟨by rw [← HF.out]; rfl, rfl⟩
/-- How many of the first are due by a time. -/
def dueN (t : Nat) : List DuT → Nat
  | [] => 0
  | x :: r => if x.2 ≤ t then dueN t r + 1 else 0
theorem due_split {t : Nat} : ∀ {l : List DuT}, Srt l → l.take (dueN t l) = out t l ∧ l.drop (dueN t l) = rst t l
  | [], _ => ⟨rfl, rfl⟩
  | x :: r, h => by
    obtain ⟨h1, h2⟩ := List.pairwise_cons.1 h
    by_cases hx : x.2 ≤ t
    · obtain ⟨a, b⟩ := due_split h2 (t := t)
      have e : dueN t (x :: r) = dueN t r + 1 := by show (if x.2 ≤ t then _ else _) = _; rw [if_pos hx]
      rw [e]
      refine ⟨?_, ?_⟩
      · show x :: r.take _ = _
        rw [a]
        unfold out
        rw [List.filter_cons_of_pos (by simpa using hx)]
      · show r.drop _ = _
        rw [b]
        unfold rst
        rw [List.filter_cons_of_neg (by simpa using hx)]
    · have e : dueN t (x :: r) = 0 := by show (if x.2 ≤ t then _ else _) = _; rw [if_neg hx]
      obtain ⟨a, b⟩ := out_none (t := t) (l := x :: r) (fun y hy => by
        rcases List.mem_cons.1 hy with rfl | hy
        · omega
        · have := lt_at (h1 y hy); omega)
      rw [e, a, b]
      exact ⟨rfl, rfl⟩
theorem dueN_le (t : Nat) : ∀ l : List DuT, dueN t l ≤ l.length
  | [] => Nat.le_refl _
  | x :: r => by
    have := dueN_le t r
    show (if x.2 ≤ t then _ else _) ≤ _
    split
    · show _ ≤ r.length + 1; omega
    · exact Nat.zero_le _
theorem dueN_yes {t : Nat} : ∀ {l : List DuT} {k : Nat}, k < dueN t l → ∃ x, l[k]? = some x ∧ x.2 ≤ t
  | [], k, h => by cases h
  | x :: r, k, h => by
    by_cases hx : x.2 ≤ t
    · have e : dueN t (x :: r) = dueN t r + 1 := by show (if x.2 ≤ t then _ else _) = _; rw [if_pos hx]
      rw [e] at h
      cases k with
      | zero => exact ⟨x, rfl, hx⟩
      | succ k => exact dueN_yes (l := r) (by omega)
    · have e : dueN t (x :: r) = 0 := by show (if x.2 ≤ t then _ else _) = _; rw [if_neg hx]
      omega
theorem dueN_no {t : Nat} : ∀ {l : List DuT} {x : DuT}, l[dueN t l]? = some x → ¬ x.2 ≤ t
  | [], x, h => by cases h
  | y :: r, x, h => by
    by_cases hy : y.2 ≤ t
    · have e : dueN t (y :: r) = dueN t r + 1 := by show (if y.2 ≤ t then _ else _) = _; rw [if_pos hy]
      rw [e] at h
      exact dueN_no (l := r) h
    · have e : dueN t (y :: r) = 0 := by show (if y.2 ≤ t then _ else _) = _; rw [if_neg hy]
      rw [e] at h
      obtain rfl : y = x := by simpa using h
      exact hy
/-- How many of the first stand ahead of one. -/
def aheadN (x : DuT) : List DuT → Nat
  | [] => 0
  | y :: r => if Hp.lt y x then aheadN x r + 1 else 0
theorem ins_split (x : DuT) : ∀ l : List DuT, ins x l = l.take (aheadN x l) ++ x :: l.drop (aheadN x l)
  | [] => rfl
  | y :: r => by
    by_cases h : Hp.lt y x
    · have e : aheadN x (y :: r) = aheadN x r + 1 := by show (if Hp.lt y x then _ else _) = _; rw [if_pos h]
      rw [e]
      show (if Hp.lt y x then y :: ins x r else x :: y :: r) = _
      rw [if_pos h, ins_split x r]
      rfl
    · have e : aheadN x (y :: r) = 0 := by show (if Hp.lt y x then _ else _) = _; rw [if_neg h]
      rw [e]
      show (if Hp.lt y x then y :: ins x r else x :: y :: r) = _
      rw [if_neg h]
      rfl
theorem aheadN_le (x : DuT) : ∀ l : List DuT, aheadN x l ≤ l.length
  | [] => Nat.le_refl _
  | y :: r => by
    have := aheadN_le x r
    show (if Hp.lt y x then _ else _) ≤ _
    split
    · show _ ≤ r.length + 1; omega
    · exact Nat.zero_le _
theorem aheadN_yes {x : DuT} : ∀ {l : List DuT} {k : Nat}, k < aheadN x l → ∃ y, l[k]? = some y ∧ Hp.lt y x
  | [], k, h => by cases h
  | y :: r, k, h => by
    by_cases hy : Hp.lt y x
    · have e : aheadN x (y :: r) = aheadN x r + 1 := by show (if Hp.lt y x then _ else _) = _; rw [if_pos hy]
      rw [e] at h
      cases k with
      | zero => exact ⟨y, rfl, hy⟩
      | succ k => exact aheadN_yes (l := r) (by omega)
    · have e : aheadN x (y :: r) = 0 := by show (if Hp.lt y x then _ else _) = _; rw [if_neg hy]
      omega
theorem aheadN_no {x : DuT} : ∀ {l : List DuT} {y : DuT}, l[aheadN x l]? = some y → ¬ Hp.lt y x
  | [], y, h => by cases h
  | z :: r, y, h => by
    by_cases hz : Hp.lt z x
    · have e : aheadN x (z :: r) = aheadN x r + 1 := by show (if Hp.lt z x then _ else _) = _; rw [if_pos hz]
      rw [e] at h
      exact aheadN_no (l := r) h
    · have e : aheadN x (z :: r) = 0 := by show (if Hp.lt z x then _ else _) = _; rw [if_neg hz]
      rw [e] at h
      obtain rfl : z = y := by simpa using h
      exact hz
end Wh
end Go.Proofs.Ytddiapihopgpbaa
