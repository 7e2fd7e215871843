/-
  The walk of warderlaw01.WordBytes.
-/
import Derived.Test.YtlbdklkocjlobaaCopy
import Derived.Test.YtlbdklkocjlobaaAlive
import Derived.Deep.DeepCutAuto
import Derived.StillTactics
import Derived.Laws.Pointers
import Derived.Deep.RegionHeld3
namespace Go.Proofs.Ytlbdklkocjlobaa
open Go.RowKit
namespace Cp
/-- A copy, at every slice of at most 2,000 bytes. -/
def CopyEnd (w : World) (n : Nat) (zs : List Int) (e : Ending) (w' : World) : Prop :=
  ∃ g c, e = .returned (.slice (some ⟨g, 0, none⟩) n c) ∧ w'.ownsRow w.heap.size 5 1 (.slice (some ⟨g, 0, none⟩) n c) n (vs zs) ∧ Below w.heap.size w w'
theorem copy_any (pa : Option Addr) (n cap : Nat) (zs : List Int) (w : World) (h2 : n ≤ 2000) (hr : Reads w pa n zs) :
    Calls Try.prog 18 #[.slice pa n cap] w (CopyEnd w n zs) := by
  obtain ⟨hl, hc⟩ := hr
  by_cases hn : 0 < n
  · obtain ⟨b, off, rfl, hcell⟩ := hc hn
    exact copy_pos b off n cap zs w hn h2 hl hcell
  · have e0 : n = 0 := by omega
    subst e0
    have ez : zs = [] := List.eq_nil_of_length_eq_zero hl
    subst ez
    refine (copy_zero pa cap w).mono ?_
    rintro e w' ⟨rfl, rfl⟩
    exact ⟨w.heap.size, 0, rfl, World.ownsRow_lit w #[] 0 (Nat.le_refl _) (by decide) rfl, (Below.refl _ _).alloc (Nat.le_refl _) _⟩
theorem Reads.keep {w w' : World} {pa : Option Addr} {n : Nat} {zs : List Int} (h : Reads w pa n zs) (hb : Below w.heap.size w w') : Reads w' pa n zs :=
  ⟨h.1, fun hn => by
    obtain ⟨b, off, e, hc⟩ := h.2 hn
    exact ⟨b, off, e, fun j hj => (hb.cell (p := ⟨b, off + j, none⟩) (World.block_lt_of_cell? w _ (hc j hj))).trans (hc j hj)⟩⟩
/-- A row of the call's own that is known whole. -/
theorem own_keep {w w' : World} {base n : Nat} {t : TypeId} {v : Value} {xs : List Value} (h : w.ownsRow base t 1 v n xs) (hb : Below w.heap.size w w') : w'.ownsRow base t 1 v n xs := by
  obtain ⟨h1, h2⟩ := h
  refine ⟨h1, ?_⟩
  rcases h2 with h2 | ⟨g, cap, cur, hv, hg, hb2, r⟩
  · exact Or.inl h2
  · refine Or.inr ⟨g, cap, cur, hv, hg, ?_, r⟩
    have lt : g < w.heap.size := by
      obtain ⟨hlt, _⟩ := Array.getElem?_eq_some_iff.1 hb2
      exact hlt
    rw [hb.block g lt]
    exact hb2
theorem vs_len (zs : List Int) : (vs zs).length = zs.length := by unfold vs; simp
theorem vs_at (zs : List Int) (j : Nat) (h : j < zs.length) : (vs zs)[j]? = some (.int .u8 (zs.getD j 0)) := by
  unfold vs
  rw [List.getElem?_map, List.getElem?_eq_getElem h, List.getD_eq_getElem?_getD, List.getElem?_eq_getElem h]
  rfl
/-- Two slices that own the same bytes are the same. -/
theorem same_own (g g' n c c' base base' : Nat) (zs : List Int) (w : World) (hn : zs.length = n) (h2 : n ≤ 5000)
    (h : w.ownsRow base 5 1 (.slice (some ⟨g, 0, none⟩) n c) n (vs zs)) (h' : w.ownsRow base' 5 1 (.slice (some ⟨g', 0, none⟩) n c') n (vs zs)) :
    Calls Try.prog 21 #[.slice (some ⟨g, 0, none⟩) n c, .slice (some ⟨g', 0, none⟩) n c'] w fun e w' => e = .returned (.bool true) ∧ ∃ k, w' = w.drewN k :=
  same_row g 0 g' 0 n c c' (fun j => zs.getD j 0) w (by omega)
    (fun j hj => by rw [Nat.zero_add, h.cellAt j (by omega), vs_at zs j (by omega)])
    (fun j hj => by rw [Nat.zero_add, h'.cellAt j (by omega), vs_at zs j (by omega)])
/-- The bytes with a word put in. -/
def putL (zs : List Int) (i : Nat) (x : Int) : List Int := zs.take i ++ [byte4 x 0, byte4 x 1, byte4 x 2, byte4 x 3] ++ zs.drop (i + 4)
theorem putL_len (zs : List Int) (i : Nat) (x : Int) (h : i + 4 ≤ zs.length) : (putL zs i x).length = zs.length := by unfold putL; simp; omega
theorem row_of_own {w : World} {base n c g : Nat} {t : TypeId} {xs : List Value} (h : w.ownsRow base t 1 (.slice (some ⟨g, 0, none⟩) n c) n xs) :
    ∃ f, w.rowIs g t c f ∧ n ≤ c ∧ c ≤ maxLen ∧ base ≤ g ∧ ∀ j, j < n → xs[j]? = some (f j) := by
  obtain ⟨h1, h2⟩ := h
  rcases h2 with ⟨h2, _⟩ | ⟨g2, cap, cur, hv, hg, hb2, hnc, hm, hs, ht⟩
  · cases h2
  · injection hv with e1 e2 e3
    injection e1 with e1
    injection e1 with e1
    subst e1 e3
    refine ⟨fun j => cur.getD j (.bool false), ⟨cur, hb2, by omega, fun i hi => ?_⟩, hnc, hm, hg, fun j hj => ?_⟩
    · show cur[i]? = some (cur.getD i (.bool false))
      rw [Array.getD_eq_getD_getElem?, Array.getElem?_eq_getElem (by omega)]
      rfl
    · show xs[j]? = some (cur.getD j (.bool false))
      rw [← ht, List.getElem?_take_of_lt (by omega), Array.getElem?_toList, Array.getD_eq_getD_getElem?, Array.getElem?_eq_getElem (by omega)]
      rfl
theorem own_of_row {w : World} {base n c g : Nat} {t : TypeId} {xs : List Value} {f : Nat → Value} (h : w.rowIs g t c f) (hn : n ≤ c) (hm : c ≤ maxLen) (hg : base ≤ g) (hl : xs.length = n) (hx : ∀ j, j < n → xs[j]? = some (f j)) :
    w.ownsRow base t 1 (.slice (some ⟨g, 0, none⟩) n c) n xs := by
  obtain ⟨cur, hb, hs, hc⟩ := h
  refine ⟨by omega, Or.inr ⟨g, c, cur, rfl, hg, hb, hn, hm, by omega, ?_⟩⟩
  apply List.ext_getElem?
  intro j
  by_cases hj : j < n
  · rw [List.getElem?_take_of_lt (by omega), Array.getElem?_toList, hc j (by omega), hx j hj]
  · rw [List.getElem?_eq_none (by simp; omega), List.getElem?_eq_none (by omega)]
theorem putL_at (zs : List Int) (i : Nat) (x : Int) (j : Nat) (h : i + 4 ≤ zs.length) : (putL zs i x).getD j 0 = if i ≤ j ∧ j < i + 4 then byte4 x (j - i) else zs.getD j 0 := by
  unfold putL
  simp only [List.getD_eq_getElem?_getD]
  by_cases h1 : j < i
  · rw [if_neg (by omega), List.append_assoc, List.getElem?_append_left (by simp; omega), List.getElem?_take_of_lt h1]
  · by_cases h2 : j < i + 4
    · rw [if_pos (by omega), List.getElem?_append_left (by simp; omega), List.getElem?_append_right (by simp; omega)]
      simp only [List.length_take, Nat.min_eq_left (show i ≤ zs.length by omega)]
      match hk : j - i, (show j - i < 4 by omega) with
      | 0, _ => rfl
      | 1, _ => rfl
      | 2, _ => rfl
      | 3, _ => rfl
    · rw [if_neg (by omega), List.getElem?_append_right (by simp; omega)]
      simp only [List.length_append, List.length_take, List.length_cons, List.length_nil, Nat.min_eq_left (show i ≤ zs.length by omega)]
      rw [List.getElem?_drop, show i + 4 + (j - (i + (0 + 1 + 1 + 1 + 1))) = j by omega]
theorem set_own (g n c base : Nat) (zs : List Int) (i x : Int) (w : World) (hl : zs.length = n) (h0 : 0 ≤ i) (hi : i + 4 ≤ n) (h2 : n ≤ 2000) (x0 : 0 ≤ x) (x1 : x < 4294967296)
    (h : w.ownsRow base 5 1 (.slice (some ⟨g, 0, none⟩) n c) n (vs zs)) :
    Calls Try.prog 19 #[.slice (some ⟨g, 0, none⟩) n c, .int .i64 i, .int .u32 x] w fun e w' => e = .returned (.bool true) ∧
      w'.ownsRow base 5 1 (.slice (some ⟨g, 0, none⟩) n c) n (vs (putL zs i.toNat x)) ∧ w' = set4 w g i.toNat x := by
  obtain ⟨f, hrow, hn, hm, hg, hx⟩ := row_of_own h
  refine (set_row g n c c 5 f i x w hrow h0 hi hn (by omega) x0 x1).mono ?_
  rintro e w' ⟨rfl, rfl⟩
  refine ⟨rfl, own_of_row (set4_row hrow x) hn hm hg (by rw [vs_len, putL_len _ _ _ (by omega)]; exact hl) ?_, rfl⟩
  intro j hj
  rw [vs_at _ _ (by rw [putL_len _ _ _ (by omega)]; omega), putL_at _ _ _ _ (by omega)]
  unfold put4
  by_cases hc : i.toNat ≤ j ∧ j < i.toNat + 4
  · rw [if_pos hc, if_pos hc]
  · rw [if_neg hc, if_neg hc, ← hx j hj, vs_at zs j (by omega)]
/-- The words' bytes, so far. -/
def bl (z : Nat → Int) (k : Nat) : List Int := (List.range (4 * k)).map (byteOf z)
theorem bl_len (z : Nat → Int) (k : Nat) : (bl z k).length = 4 * k := by unfold bl; simp
theorem bl_succ (z : Nat → Int) (k : Nat) : bl z (k + 1) = bl z k ++ [byte4 (z k) 0, byte4 (z k) 1, byte4 (z k) 2, byte4 (z k) 3] := by
  unfold bl
  rw [show 4 * (k + 1) = 4 * k + 1 + 1 + 1 + 1 by omega, List.range_succ, List.range_succ, List.range_succ, List.range_succ]
  simp only [List.map_append, List.map_cons, List.map_nil, List.append_assoc, List.cons_append, List.nil_append]
  unfold byteOf
  rw [show 4 * k / 4 = k by omega, show (4 * k + 1) / 4 = k by omega, show (4 * k + 1 + 1) / 4 = k by omega, show (4 * k + 1 + 1 + 1) / 4 = k by omega,
    show 4 * k % 4 = 0 by omega, show (4 * k + 1) % 4 = 1 by omega, show (4 * k + 1 + 1) % 4 = 2 by omega, show (4 * k + 1 + 1 + 1) % 4 = 3 by omega]
theorem vs_append (a b : List Int) : vs (a ++ b) = vs a ++ vs b := by unfold vs; simp
/-- A slice of words that came in. -/
def ReadsW (w : World) (pa : Option Addr) (m : Nat) (z : Nat → Int) : Prop :=
  0 < m → ∃ b off, pa = some ⟨b, off, none⟩ ∧ ∀ j, j < m → w.cell? ⟨b, off + j, none⟩ = some (.int .u32 (z j))
theorem ReadsW.keep {w w' : World} {pa : Option Addr} {m : Nat} {z : Nat → Int} (h : ReadsW w pa m z) (hb : Below w.heap.size w w') : ReadsW w' pa m z := fun hn => by
  obtain ⟨b, off, e, hc⟩ := h hn
  exact ⟨b, off, e, fun j hj => (hb.cell (p := ⟨b, off + j, none⟩) (World.block_lt_of_cell? w _ (hc j hj))).trans (hc j hj)⟩
theorem bytes_zero (pa : Option Addr) (cap : Nat) (w : World) :
    Calls Try.prog 22 #[.slice pa 0 cap] w fun e w' => e = .returned (.slice (some ⟨w.heap.size, 0, none⟩) 0 0) ∧ Below w.heap.size w w' := by
  have hmk := fun wx => run_make_row' (P := Try.prog) 28 5 (.int .u8 0) 1 Try.underlying28 info5 rfl .i64 .i64 0 (by omega) (by omega) wx
  simp only [Int.natCast_zero] at hmk
  go_enter Try.func22, Try.ntmps22
  go_wp2
  go_loopw [12] (fun i wr => i = .int .i64 0 ∧ wr = w.alloc (.cells (madeCells #[.int .u8 0] 0) 5)) (fun _ _ => 0)
  case atStart => exact ⟨rfl, rfl⟩
  case round =>
    obtain ⟨rfl, rfl⟩ := hrel
    go_wp2
    go_ret
    exact ⟨rfl, (Below.refl _ _).alloc (Nat.le_refl _) _⟩
end Cp
end Go.Proofs.Ytlbdklkocjlobaa
