/-
  What isa.lines hands over, at every text: its lines, without their line ends, and their numbers, one behind the other, until a round says no more; no condition but the text's length.
-/
import Derived.Test.YtlfhcnpbgbnadaaDoorIsaReads1
import Derived.RangeFuncNested
import Derived.RangeFuncBound
import Derived.RangeFuncCalls
import Derived.RangeFuncLeaves
import Derived.RangeFuncBox
import Derived.Shelf.Abstract
import Derived.Shelf.RegionOpen
import Derived.OwnWalkIn
import Derived.TacticsInMore
import Derived.LoopNIn
import Derived.LoopIn
import Derived.Maps.AppendAt
namespace Go.Proofs.YtlfhcnpbgbnadaaDoor
open Go.RowKit Go.Shelf Isa
attribute [local go_sem] Oper.semAt_some

theorem cutL_short (c : UInt8) (l : List UInt8) (h : l ≠ []) : (cutL c l).2.length < l.length := by
  unfold cutL
  simp only [List.length_drop]
  have h1 := List.Sublist.length_le (List.dropWhile_sublist (l := l) (fun x => x != c))
  have h2 : 0 < l.length := List.length_pos_iff.2 h
  omega
/-- A text's lines, and their numbers from n on. -/
def linesFrom (n : Nat) (l : List UInt8) : List (Nat × List UInt8) :=
  if h : l = [] then [] else (n, (cutL 10 l).1) :: linesFrom (n + 1) (cutL 10 l).2
termination_by l.length
decreasing_by exact cutL_short 10 l h
theorem linesFrom_nil (n : Nat) : linesFrom n [] = [] := by rw [linesFrom]; simp
theorem linesFrom_cons (n : Nat) (l : List UInt8) (h : l ≠ []) : linesFrom n l = (n, (cutL 10 l).1) :: linesFrom (n + 1) (cutL 10 l).2 := by rw [linesFrom, dif_neg h]
/-- The length of a string's value. -/
def strLen : Value → Nat
  | .string s => s.size
  | _ => 0
/-- A numbered line, of a length that a Go string may have. -/
abbrev LineX := { x : Nat × List UInt8 // x.2.length ≤ 140737488355328 }
def encX (x : LineX) : Array Value := #[.int .i64 x.1.1, .string (bs x.1.2)]
def plainX (xs : List LineX) : List (Nat × List UInt8) := xs.map (·.1)
theorem grown_drewN (w : World) (n : Nat) (row : Option Nat) : w.grownBy (w.drewN n) row := ⟨rfl, rfl, rfl, Nat.le_refl _, fun _ _ _ => rfl⟩
set_option maxRecDepth 100000 in
set_option maxHeartbeats 1000000 in
theorem lines1_stops (n : Nat) (hn : 1 ≤ n) (b : Nat) (s : ByteArray) (w : World) (hs : s.size ≤ 140737488355328) (hb : b < w.heap.size) (hc : w.cell? ⟨b, 0, none⟩ = some (.string s)) :
    SeqStopsK Fence.wide n Tryd.prog 55 #[.pointer (some ⟨b, 0, none⟩)] encX KeepsWalks
      (fun xs => plainX xs = linesFrom 1 s.data.toList) (fun pre => ∃ r, plainX pre ++ r = linesFrom 1 s.data.toList) (s.size + 1) w := fun l J Jx W hW hJ hJx hY h0 => by
  have hcW := (hW.cell (p := ⟨b, 0, none⟩) hb).trans hc
  refine callsIn_of_wp Tryd.func55 rfl trivial ?_ rfl
  simp only [Tryd.ntmps55, List.size_toArray, List.length_cons, List.length_nil, Nat.reduceAdd, Nat.reduceSub, Array.replicate_succ, Array.replicate_zero, List.push_toArray, List.append_toArray, List.nil_append, List.cons_append]
  gi_wp2
  gi_loopw [3, 4] (fun left m wr => ∃ (pre : List LineX) (rest : List UInt8), left = .string (bs rest) ∧ m = .int .i64 ((pre.length + 1 : Nat) : Int) ∧ Hid (plainX pre ++ linesFrom (pre.length + 1) rest = linesFrom 1 s.data.toList) ∧ rest.length + pre.length ≤ s.size ∧ Hid (J pre wr))
    (fun left _ _ => strLen left)
  case atStart => exact ⟨[], s.data.toList, by rw [bs_self], rfl, Lib.hid rfl, by rw [ba_len]; simp, Lib.hid h0⟩
  case round =>
    obtain ⟨pre, rest, rfl, rfl, hx, hl, hj⟩ := hrel
    by_cases hr : rest = []
    · subst hr
      have e0 : (bs []).toList = [] := by rw [Go.ByteArray.toList_eq]; rfl
      gi_wp2
      go_end0
      exact ⟨⟨_, rfl⟩, .inl ⟨pre, by have := hx.out; rw [linesFrom_nil, List.append_nil] at this; exact this, hj.out⟩⟩
    · have e0 : ¬ (bs rest).toList = [] := by rw [Go.ByteArray.toList_eq]; exact hr
      have e1 : (bs rest).toList.isEmpty = false := by rw [Go.ByteArray.toList_eq, bs_toList]; simpa using hr
      have HR := Lib.hid hr
      have hn1 := (cutL_len 10 rest).1
      have hn2 := cutL_short 10 rest hr
      have hsz : (bs rest).size ≤ 9223372036854775807 := by rw [bs_size]; omega
      clear hr
      gi_wp2
      refine ⟨trivial, (callsIn_wide.2 (cut_any _ _ _ hsz)).mono ?_⟩
      rintro e w1 ⟨f, rfl, k, rfl⟩
      rw [bs_toList]
      obtain ⟨fn, tmps, assign, body, hy, hR⟩ := hY pre ⟨(pre.length + 1, (cutL 10 rest).1), by show (cutL 10 rest).1.length ≤ _; omega⟩ (wr.drewN k) (hJ pre wr _ none hj.out (grown_drewN _ _ _) (fun r e => by cases e)) (by omega)
      dsimp only [encX] at hy
      push_cast at hy
      gi_wp2
      refine hR.mono ?_
      rintro e W3 (⟨rfl, hJ3, hk3⟩ | ⟨rfl, hJx3⟩)
      · gi_wp2
        go_roundw
        case rel => exact ⟨_, (cutL 10 rest).2, rfl, by simp, Lib.hid (by have := hx.out; rw [linesFrom_cons _ _ HR.out] at this; rw [← this]; simp [plainX]), by simp; omega, Lib.hid hJ3⟩
        case measure => simp only [strLen, bs_size]; omega
      · gi_wp2
        refine bodyPost_ret (results_none rfl _ _ _) rfl ?_
        exact ⟨⟨_, rfl⟩, .inr ⟨_, ⟨linesFrom (pre.length + 1 + 1) (cutL 10 rest).2, by have := hx.out; rw [linesFrom_cons _ _ HR.out] at this; rw [← this]; simp [plainX]⟩, hJx3⟩⟩
end Go.Proofs.YtlfhcnpbgbnadaaDoor
