/-
  A row of marks that a law makes; plain: what is pushed one by one, and what a pop leaves in order. Conditions: none.
-/
import Derived.Test.YtmeadkllbjkjbaaHqOpen
namespace Go.Proofs.Ytmeadkllbjkjbaa
open Go.RowKit
namespace Hq
open Ph (Only)
open Wh (Srt Uni ins del has mem_ins has_iff len_ins)
open Hp (lt lt_irr lt_asym le_trans lt_total)
/-- Marks in a block, which may be written. -/
structure BRow (w : World) (b n : Nat) (s : Nat → Bool) : Prop where
  lt : b < w.heap.size
  cell : ∀ j, j < n → w.cell? ⟨b, j, none⟩ = some (.bool (s j))
  free : ∀ j, j < n → w.frozen? ⟨b, j, none⟩ = false
theorem BRow.kept {w w' : World} {b n : Nat} {s : Nat → Bool} {S : List Nat} (h : BRow w b n s) (ho : Only S w w') (hb : b ∉ S) : BRow w' b n s :=
  ⟨Nat.lt_of_lt_of_le h.lt ho.size, fun j hj => (ho.cell h.lt hb j).trans (h.cell j hj), fun j hj => (ho.frozen h.lt hb j).trans (h.free j hj)⟩
def markB (s : Nat → Bool) (i : Nat) (j : Nat) : Bool := if j = i then true else s j
theorem BRow.set {w : World} {b n : Nat} {s : Nat → Bool} (h : BRow w b n s) (i : Nat) (hi : i < n) : BRow (w.setCell ⟨b, i, none⟩ (.bool true)) b n (markB s i) := by
  refine ⟨by rw [World.size_setCell]; exact h.lt, fun j hj => ?_, fun j hj => by rw [World.frozen?_setCell]; exact h.free j hj⟩
  unfold markB
  by_cases e : j = i
  · subst e
    rw [if_pos rfl, World.cell?_setCell_same' _ _ _ (by rw [h.cell j hj]; rfl)]
  · rw [if_neg e, World.cell?_setCell_other _ _ _ _ (fun x => e (by injection x with _ x; exact x.symm))]
    exact h.cell j hj
theorem infoBool : (Try.prog.info? 4).map (fun i => (i.zero, i.size, i.bytes)) = some (some (.bool false), 1, 1) := by kernel_rfl
theorem made_bools (n : Nat) (wx : World) (hn : n ≤ 64) :
    (Instr.makeSlice 43 (.int .i64 (n : Int)) (.int .i64 (n : Int))).run Try.prog wx = .ok (.slice (some ⟨wx.heap.size, 0, none⟩) n n) (wx.alloc (.cells (madeCells #[.bool false] n) 4)) := by
  obtain ⟨i, hi, hz0, hz1, hz2⟩ := info_parts infoBool
  have hr := run_make (P := Try.prog) wx 43 4 i _ Try.underlying43 hi hz0 .i64 .i64 n n (by omega) (Int.le_refl _) (by rw [hz2]; omega) (by omega)
  simp only [Int.toNat_natCast, hz1, Nat.mul_one] at hr
  exact hr
theorem made_row (n : Nat) (w : World) : BRow (w.alloc (.cells (madeCells #[.bool false] n) 4)) w.heap.size n (fun _ => false) := by
  refine ⟨by simp, fun j hj => ?_, fun j hj => World.frozen?_alloc_new w _ _ _⟩
  rw [World.cell?_alloc_new]
  unfold madeCells
  rw [Array.getElem?_map, Array.getElem?_range, if_pos (by omega)]
  simp [Nat.mod_one]
/-- What has been pushed: the first numbers, each with its key. -/
def Pushed (y : Nat → Int) (i : Nat) (l : List ItT) : Prop := l.length = i ∧ ∀ x ∈ l, x.1 < i ∧ y x.1 = (x.2 : Nat)
theorem Pushed.next {y : Nat → Int} {i z : Nat} {l : List ItT} (h : Pushed y i l) (hi : i < 64) (hz : y i = (z : Nat)) : pshE (i : Nat) l = 0 ∧ Pushed y (i + 1) (pshL (i : Nat) z l) := by
  have hn : has i l = false := by
    cases e : has i l with
    | false => rfl
    | true =>
      obtain ⟨x, hx, e⟩ := has_iff.1 e
      have := (h.2 x hx).1
      omega
  have he : pshE (i : Nat) l = 0 := by
    unfold pshE
    rw [if_neg (by omega), Int.toNat_natCast, hn]
    rfl
  refine ⟨he, ?_⟩
  unfold pshL
  rw [if_pos he, Int.toNat_natCast]
  refine ⟨by rw [len_ins, h.1], fun x hx => ?_⟩
  rcases mem_ins.1 hx with rfl | hx
  · exact ⟨by simp, hz⟩
  · exact ⟨by have := (h.2 x hx).1; omega, (h.2 x hx).2⟩
/-- What is still to be popped. -/
structure Left (y : Nat → Int) (n i : Nat) (s : Nat → Bool) (last : Nat) (bef : Int) (l : List ItT) : Prop where
  len : l.length + i = n
  it : ∀ x ∈ l, x.1 < n ∧ y x.1 = (x.2 : Nat) ∧ s x.1 = false
  first : i = 0 → last = 0 ∧ bef = -1
  past : 0 < i → ∀ x ∈ l, last < x.2 ∨ (last = x.2 ∧ bef < (x.1 : Nat))
theorem Left.next {y : Nat → Int} {n i : Nat} {s : Nat → Bool} {last : Nat} {bef : Int} {x : ItT} {r : List ItT} (h : Left y n i s last bef (x :: r)) (hf : Fine (x :: r)) : Left y n (i + 1) (markB s x.1) x.2 (x.1 : Nat) r := by
  refine ⟨by have := h.len; simp at this; omega, fun z hz => ?_, fun e => by omega, fun _ z hz => ?_⟩
  · obtain ⟨a, b, c⟩ := h.it z (by simp [hz])
    refine ⟨a, b, ?_⟩
    have hne := (List.pairwise_cons.1 hf.uni).1 z hz
    unfold markB
    rw [if_neg (Ne.symm hne)]
    exact c
  · have := (List.pairwise_cons.1 hf.srt).1 z hz
    unfold Hp.lt at this
    omega
end Hq
end Go.Proofs.Ytmeadkllbjkjbaa
