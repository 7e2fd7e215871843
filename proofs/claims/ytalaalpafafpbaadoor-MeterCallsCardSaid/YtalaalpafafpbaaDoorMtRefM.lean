/-
  What the document's own meter does; conditions: that such a meter lies there, and that each argument is of its Go type.
-/
import Derived.Test.YtalaalpafafpbaaDoorMtOpen
import Derived.Test.YtalaalpafafpbaaDoorMtRefMul
namespace Go.Proofs.YtalaalpafafpbaaDoor
open Go.RowKit
namespace Mt
/-! ### Charges as cells -/
/-- Charges as cells. -/
def cellsL (L : List Ent) : List Value := L.flatMap fun e => [.int .i64 e.core, .int .i64 e.kind, .int .u64 e.cyc]
theorem cellsL_cons (e : Ent) (L : List Ent) : cellsL (e :: L) = [.int .i64 e.core, .int .i64 e.kind, .int .u64 e.cyc] ++ cellsL L := rfl
theorem cellsL_len (L : List Ent) : (cellsL L).length = L.length * 3 := by
  induction L with
  | nil => rfl
  | cons e r ih => rw [cellsL_cons, List.length_append, ih]; simp; omega
theorem cellsL_app (L : List Ent) (e : Ent) : cellsL (L ++ [e]) = cellsL L ++ [.int .i64 e.core, .int .i64 e.kind, .int .u64 e.cyc] := by
  unfold cellsL
  rw [List.flatMap_append]
  rfl
theorem cellsL_at : ∀ (L : List Ent) (i : Nat) (e : Ent), L[i]? = some e → (cellsL L)[i * 3]? = some (.int .i64 e.core) ∧ (cellsL L)[i * 3 + 1]? = some (.int .i64 e.kind) ∧ (cellsL L)[i * 3 + 2]? = some (.int .u64 e.cyc)
  | [], i, e, h => by simp at h
  | a :: L, 0, e, h => by
    simp at h
    subst h
    exact ⟨rfl, rfl, rfl⟩
  | a :: L, i + 1, e, h => by
    have ih := cellsL_at L i e (by simpa using h)
    rw [cellsL_cons]
    have e0 : ∀ q, ([.int .i64 a.core, .int .i64 a.kind, .int .u64 a.cyc] ++ cellsL L)[(i + 1) * 3 + q]? = (cellsL L)[i * 3 + q]? := fun q => by
      rw [List.getElem?_append_right (by simp; omega)]
      congr 1
      simp
      omega
    exact ⟨(e0 0).trans ih.1, (e0 1).trans ih.2.1, (e0 2).trans ih.2.2⟩
/-- A row of charges lies so: nothing, or a block from its head on. -/
theorem own_shape {w : World} {B : Nat} {t : TypeId} {v : Value} {L : List Ent} (h : w.ownsRow B t 3 v L.length (cellsL L)) :
    ∃ pa cap, v = .slice pa L.length cap ∧ ∀ i e, L[i]? = some e → ∃ g, pa = some ⟨g, 0, none⟩ ∧ w.cell? ⟨g, i * 3, none⟩ = some (.int .i64 e.core) ∧ w.cell? ⟨g, i * 3 + 1, none⟩ = some (.int .i64 e.kind) ∧ w.cell? ⟨g, i * 3 + 2, none⟩ = some (.int .u64 e.cyc) := by
  obtain ⟨h1, h2⟩ := h
  rcases h2 with ⟨rfl, h2⟩ | ⟨g, cap, cur, rfl, hg, hb, hnc, hm, hs, ht⟩
  · rw [h2]
    refine ⟨none, 0, rfl, fun i e he => ?_⟩
    rw [List.getElem?_eq_none (by omega)] at he
    cases he
  · refine ⟨some ⟨g, 0, none⟩, cap, rfl, fun i e he => ⟨g, rfl, ?_⟩⟩
    have hi : i < L.length := by
      rcases Nat.lt_or_ge i L.length with h | h
      · exact h
      · rw [List.getElem?_eq_none h] at he; cases he
    have hc : ∀ j, j < L.length * 3 → w.cell? ⟨g, j, none⟩ = (cellsL L)[j]? := fun j hj => by
      have : w.cell? ⟨g, j, none⟩ = cur[j]? := by simp [World.cell?, hb]
      rw [this, ← Array.getElem?_toList, ← ht, List.getElem?_take_of_lt hj]
    obtain ⟨a0, a1, a2⟩ := cellsL_at L i e he
    exact ⟨(hc _ (by omega)).trans a0, (hc _ (by omega)).trans a1, (hc _ (by omega)).trans a2⟩
/-- The document's own meter: its place; A: blocks that are none of its. -/
structure RMet (A : List Nat) (B : Nat) (w : World) (r n : Nat) (L : List Ent) (s : Bool) : Prop where
  lt : r < w.heap.size
  ge : B ≤ r
  c0 : w.cell? ⟨r, 0, none⟩ = some (.int .i64 n)
  c2 : w.cell? ⟨r, 2, none⟩ = some (.bool s)
  f1 : w.frozen? ⟨r, 1, none⟩ = false
  f2 : w.frozen? ⟨r, 2, none⟩ = false
  lst : ∃ v, w.cell? ⟨r, 1, none⟩ = some v ∧ w.ownsRow B 61 3 v L.length (cellsL L) ∧ v.ownBlock ≠ some r ∧ ∀ x ∈ A, v.ownBlock ≠ some x
  al : ∀ x ∈ A, x < w.heap.size ∧ x ≠ r
  good : Good n L
  small : n ≤ 4
theorem owns_kept {w w' : World} {B : Nat} {t : TypeId} {size : Nat} {v : Value} {n : Nat} {xs : List Value} {S : List Nat} (h : w.ownsRow B t size v n xs) (ho : Only S w w') (hs : ∀ x ∈ S, v.ownBlock ≠ some x) : w'.ownsRow B t size v n xs := by
  obtain ⟨h1, h2⟩ := h
  refine ⟨h1, ?_⟩
  rcases h2 with h2 | ⟨g, cap, cur, rfl, hg, hb, hnc⟩
  · exact .inl h2
  · have hlt : g < w.heap.size := by
      obtain ⟨hlt, _⟩ := Array.getElem?_eq_some_iff.1 hb
      exact hlt
    exact .inr ⟨g, cap, cur, rfl, hg, by rw [ho.block g hlt (fun x => hs g x rfl)]; exact hb, hnc⟩
theorem RMet.kept {A : List Nat} {B : Nat} {w w' : World} {r n : Nat} {L : List Ent} {s : Bool} {S : List Nat} (h : RMet A B w r n L s) (ho : Only S w w') (hs : ∀ x ∈ S, x ∈ A) : RMet A B w' r n L s := by
  have hr : r ∉ S := fun x => (h.al r (hs r x)).2 rfl
  obtain ⟨v, h1, h2, h3, h4⟩ := h.lst
  exact ⟨Nat.lt_of_lt_of_le h.lt ho.size, h.ge, (ho.cell h.lt hr 0).trans h.c0, (ho.cell h.lt hr 2).trans h.c2, (ho.frozen h.lt hr 1).trans h.f1, (ho.frozen h.lt hr 2).trans h.f2,
    ⟨v, (ho.cell h.lt hr 1).trans h1, owns_kept h2 ho (fun x hx => h4 x (hs x hx)), h3, h4⟩, fun x hx => ⟨Nat.lt_of_lt_of_le (h.al x hx).1 ho.size, (h.al x hx).2⟩, h.good, h.small⟩
theorem RMet.more {A : List Nat} {B : Nat} {w w' : World} {r n : Nat} {L : List Ent} {s : Bool} (h : RMet A B w r n L s) (ho : Only [] w w') (c : Nat) (hc : w.heap.size ≤ c) (hc2 : c < w'.heap.size) : RMet (c :: A) B w' r n L s := by
  have hk := h.kept ho (fun x hx => by cases hx)
  obtain ⟨v, h1, h2, h3, h4⟩ := h.lst
  have hlt := h.lt
  have vb : v.ownBlock ≠ some c := fun e => by have := (h2.lt c e).2; omega
  exact ⟨hk.lt, hk.ge, hk.c0, hk.c2, hk.f1, hk.f2, ⟨v, (ho.cell h.lt (by simp) 1).trans h1, owns_kept h2 ho (by simp), h3, fun x hx => by
    rcases List.mem_cons.1 hx with rfl | hx
    · exact vb
    · exact h4 x hx⟩, fun x hx => by
    rcases List.mem_cons.1 hx with rfl | hx
    · exact ⟨hc2, by omega⟩
    · exact hk.al x hx, h.good, h.small⟩
theorem RMet.less {A : List Nat} {B : Nat} {w : World} {r n : Nat} {L : List Ent} {s : Bool} {c : Nat} (h : RMet (c :: A) B w r n L s) : RMet A B w r n L s := by
  obtain ⟨v, h1, h2, h3, h4⟩ := h.lst
  exact ⟨h.lt, h.ge, h.c0, h.c2, h.f1, h.f2, ⟨v, h1, h2, h3, fun x hx => h4 x (List.mem_cons_of_mem _ hx)⟩, fun x hx => h.al x (List.mem_cons_of_mem _ hx), h.good, h.small⟩

/-! ### Its sums -/
/-- Does a charge count? -/
def cnt (k j : Int) (e : Ent) : Bool := (e.core : Int) == k && (decide (j < 0) || (e.kind : Int) == j)
theorem cnt_core {k j : Int} {e : Ent} (h : cnt k j e = true) : (e.core : Int) = k := by unfold cnt at h; simp at h; exact h.1
theorem sum_take (p : Ent → Bool) (L : List Ent) (i : Nat) (e : Ent) (h : L[i]? = some e) : sumL p (L.take (i + 1)) = sumL p (L.take i) + if p e then e.cyc else 0 := by
  rw [List.take_add_one, h, sumL_append]
  simp [sumL]
theorem sumL_zero (p : Ent → Bool) (L : List Ent) (h : ∀ e ∈ L, p e = false) : sumL p L = 0 := by
  induction L with
  | nil => rfl
  | cons e r ih =>
    simp only [sumL]
    rw [h e (List.mem_cons_self ..), ih (fun x hx => h x (List.mem_cons_of_mem _ hx))]
    simp
theorem sumL_congr (p q : Ent → Bool) (L : List Ent) (h : ∀ e ∈ L, p e = q e) : sumL p L = sumL q L := by
  induction L with
  | nil => rfl
  | cons e r ih =>
    simp only [sumL]
    rw [h e (List.mem_cons_self ..), ih (fun x hx => h x (List.mem_cons_of_mem _ hx))]
theorem sumR_bounds {n : Nat} {L : List Ent} (h : Good n L) (k j : Int) (i : Nat) : 0 ≤ sumL (cnt k j) (L.take i) ∧ sumL (cnt k j) (L.take i) ≤ 4611686018427387904 := by
  have hm : ∀ e ∈ L.take i, 0 ≤ e.cyc := fun e he => (h.ent e (List.mem_of_mem_take he)).2.2
  refine ⟨sumL_nonneg _ _ hm, ?_⟩
  by_cases hk : 0 ≤ k
  · obtain ⟨q, rfl⟩ := Int.eq_ofNat_of_zero_le hk
    have h1 : sumL (cnt q j) (L.take i) ≤ sumL (fun e => e.core == q) (L.take i) := sumL_le _ _ _ hm (fun e he => by have := cnt_core he; simp; omega)
    have h2 : sumL (fun e => e.core == q) L = sumL (fun e => e.core == q) (L.take i) + sumL (fun e => e.core == q) (L.drop i) := by rw [← sumL_append, List.take_append_drop]
    have h3 : 0 ≤ sumL (fun e : Ent => e.core == q) (L.drop i) := sumL_nonneg _ _ (fun e he => (h.ent e (List.mem_of_mem_drop he)).2.2)
    have h4 := h.clk q
    unfold clk at h4
    omega
  · rw [sumL_zero _ _ (fun e _ => by
      cases g : cnt k j e
      · rfl
      · have := cnt_core g; omega)]
    decide
theorem sumR_clk {n : Nat} {L : List Ent} (h : Good n L) (k : Int) : sumL (cnt k (-1)) L = clkA n L k := by
  unfold clkA
  cases hb : inR n k
  · rw [if_neg (by simp)]
    refine sumL_zero _ _ (fun e he => ?_)
    cases g : cnt k (-1) e
    · rfl
    · have := cnt_core g
      have := (h.ent e he).1
      have := inR_no hb
      omega
  · rw [if_pos rfl]
    obtain ⟨q, rfl, hq⟩ := inR_yes hb
    refine sumL_congr _ _ _ (fun e _ => ?_)
    unfold cnt
    rw [Bool.eq_iff_iff]
    simp
    omega
theorem sumR_knd {n : Nat} {L : List Ent} (h : Good n L) (k : Int) (j : Nat) : sumL (cnt k j) L = if inR n k = true then knd L k.toNat j else 0 := by
  cases hb : inR n k
  · rw [if_neg (by simp)]
    refine sumL_zero _ _ (fun e he => ?_)
    cases g : cnt k j e
    · rfl
    · have := cnt_core g
      have := (h.ent e he).1
      have := inR_no hb
      omega
  · rw [if_pos rfl]
    obtain ⟨q, rfl, hq⟩ := inR_yes hb
    refine sumL_congr _ _ _ (fun e _ => ?_)
    unfold cnt
    rw [Bool.eq_iff_iff]
    simp
    omega
theorem knd_none {n : Nat} {L : List Ent} (h : Good n L) (k j : Nat) (hj : 8 < j) : knd L k j = 0 := by
  refine sumL_zero _ _ (fun e he => ?_)
  have := (h.ent e he).2.1
  simp
  omega
set_option maxHeartbeats 1000000 in
theorem sum_any (A : List Nat) (B r n : Nat) (L : List Ent) (s : Bool) (k j : Int) (w : World) (hM : RMet A B w r n L s) (hl : L.length ≤ 1000) :
    Calls Tryd.prog 28 #[.pointer (some ⟨r, 0, none⟩), .int .i64 k, .int .i64 j] w fun e w' => e = .returned (.int .u64 (sumL (cnt k j) L)) ∧ w = w' := by
  obtain ⟨v, h1, h2, _, _⟩ := hM.lst
  obtain ⟨pa, cap, rfl, hc⟩ := own_shape h2
  have G := Lib.hid hM.good
  have HC := Lib.hid hc
  clear hM h2 hc
  go_enter Tryd.func28, Tryd.ntmps28
  go_wp2
  go_loop [7, 8] (fun m i => ∃ q : Nat, q ≤ L.length ∧ i = .int .i64 q ∧ m = .int .u64 (sumL (cnt k j) (L.take q))) (fun _ i => L.length - (intOf i).toNat)
  case atStart => exact ⟨0, by omega, rfl, rfl⟩
  case round =>
    obtain ⟨q, hq, rfl, rfl⟩ := hrel
    by_cases hlt : q < L.length
    · obtain ⟨e, he⟩ : ∃ e, L[q]? = some e := ⟨_, List.getElem?_eq_getElem hlt⟩
      obtain ⟨g, rfl, a0, a1, a2⟩ := HC.out q e he
      have S0 := sumR_bounds G.out k j q
      have S1 := sumR_bounds G.out k j (q + 1)
      have E := sum_take (cnt k j) L q e he
      have hql : (q : Int) < L.length := by omega
      have em := Lib.hid (G.out.ent e (List.mem_of_getElem? he)).2.2
      generalize sumL (cnt k j) (L.take q) = m at *
      cases d1 : ((e.core : Int) == k)
      · have E2 := Lib.hid (show sumL (cnt k j) (L.take (q + 1)) = m by rw [E]; unfold cnt; rw [d1]; simp)
        clear E S1
        go_wp2
        go_round
        case rel => exact ⟨q + 1, by omega, by go_num, by rw [E2.out]⟩
        case measure => simp [intOf]; omega
      · cases d2 : decide (j < 0)
        · cases d3 : ((e.kind : Int) == j)
          · have E2 := Lib.hid (show sumL (cnt k j) (L.take (q + 1)) = m by rw [E]; unfold cnt; rw [d1, d2, d3]; simp)
            clear E S1
            go_wp2
            go_round
            case rel => exact ⟨q + 1, by omega, by go_num, by rw [E2.out]⟩
            case measure => simp [intOf]; omega
          · have E2 := (show sumL (cnt k j) (L.take (q + 1)) = m + e.cyc by rw [E]; unfold cnt; rw [d1, d2, d3]; simp)
            rw [E2] at S1
            have E3 := Lib.hid E2
            have em2 := em.out
            clear E E2
            go_wp2
            go_round
            case rel => exact ⟨q + 1, by omega, by go_num, by rw [E3.out]⟩
            case measure => simp [intOf]; omega
        · have E2 := (show sumL (cnt k j) (L.take (q + 1)) = m + e.cyc by rw [E]; unfold cnt; rw [d1, d2]; simp)
          rw [E2] at S1
          have E3 := Lib.hid E2
          have em2 := em.out
          clear E E2
          go_wp2
          go_round
          case rel => exact ⟨q + 1, by omega, by go_num, by rw [E3.out]⟩
          case measure => simp [intOf]; omega
    · have e : q = L.length := by omega
      have E := Lib.hid (show sumL (cnt k j) (L.take q) = sumL (cnt k j) L by rw [e, List.take_length])
      clear e
      go_wp2
      go_ret
      exact ⟨by rw [← E.out]; rfl, rfl⟩
theorem rclock_any (A : List Nat) (B r n : Nat) (L : List Ent) (s : Bool) (k : Int) (w : World) (hM : RMet A B w r n L s) (hl : L.length ≤ 1000) :
    Calls Tryd.prog 15 #[.pointer (some ⟨r, 0, none⟩), .int .i64 k] w fun e w' => e = .returned (.int .u64 (clkA n L k)) ∧ w = w' := by
  have E := Lib.hid (sumR_clk hM.good k)
  have M := Lib.hid hM
  clear hM
  go_enter Tryd.func15, Tryd.ntmps15
  go_wp2_with (go_at_call 28; refine (sum_any A B r n L s k (-1) _ M.out hl).mono ?_; rintro e w' ⟨rfl, rfl⟩; rw [E.out])
  go_ret
  exact ⟨rfl, rfl⟩
/-- What the document's Spent answers. -/
def rspentA (L : List Ent) (k j : Int) : Int := sumL (cnt k (max j 0)) L
theorem rspent_any (A : List Nat) (B r n : Nat) (L : List Ent) (s : Bool) (k j : Int) (w : World) (hM : RMet A B w r n L s) (hl : L.length ≤ 1000) :
    Calls Tryd.prog 17 #[.pointer (some ⟨r, 0, none⟩), .int .i64 k, .int .i64 j] w fun e w' => e = .returned (.int .u64 (rspentA L k j)) ∧ w = w' := by
  have M := Lib.hid hM
  clear hM
  by_cases h : j < 0
  · have E := Lib.hid (show rspentA L k j = sumL (cnt k 0) L by unfold rspentA; rw [Int.max_eq_right (by omega)])
    go_enter Tryd.func17, Tryd.ntmps17
    go_wp2_with (go_at_call 28; refine (sum_any A B r n L s k _ _ M.out hl).mono ?_; rintro e w' ⟨rfl, rfl⟩)
    go_ret
    exact ⟨by rw [E.out] <;> rfl, rfl⟩
  · have E := Lib.hid (show rspentA L k j = sumL (cnt k j) L by unfold rspentA; rw [Int.max_eq_left (by omega)])
    go_enter Tryd.func17, Tryd.ntmps17
    go_wp2_with (go_at_call 28; refine (sum_any A B r n L s k _ _ M.out hl).mono ?_; rintro e w' ⟨rfl, rfl⟩)
    go_ret
    exact ⟨by rw [E.out] <;> rfl, rfl⟩
theorem rspent_idle {n : Nat} {L : List Ent} (h : Good n L) (k : Int) : rspentA L k 0 = idleA n L k := by
  unfold rspentA idleA
  exact sumR_knd h k 0
theorem rspent_spent {n : Nat} {L : List Ent} (h : Good n L) (k j : Int) (hj : 0 < j) : rspentA L k j = spentA n L k j := by
  unfold rspentA spentA
  obtain ⟨q, rfl⟩ := Int.eq_ofNat_of_zero_le (show 0 ≤ j by omega)
  rw [Int.max_eq_left (by omega), sumR_knd h k q, Int.toNat_natCast]
  by_cases hq : (q : Int) < 9
  · cases hb : inR n k
    · rw [if_neg (by simp), if_neg (by simp)]
    · rw [if_pos rfl, if_pos ⟨rfl, by omega, hq⟩]
  · rw [if_neg (show ¬ (inR n k = true ∧ 1 ≤ (q : Int) ∧ (q : Int) < 9) from fun g => hq g.2.2)]
    split
    · exact knd_none h _ _ (by omega)
    · rfl
theorem rcost_any (k : Int) (w : World) : Calls Tryd.prog 21 #[.int .i64 k] w fun e w' => e = .returned (.int .u64 (cost k)) ∧ Only [] w w' := by
  have ho := Only.alloc [] w (.cells #[.int .u64 0, .int .u64 1, .int .u64 2, .int .u64 3, .int .u64 20, .int .u64 50, .int .u64 30, .int .u64 40, .int .u64 64] 33)
  by_cases h : 1 ≤ k ∧ k ≤ 8
  · have d1 : decide (k < 1) = false := by simp; omega
    have d2 : decide (8 < k) = false := by simp; omega
    obtain ⟨j, rfl⟩ := Int.eq_ofNat_of_zero_le (show 0 ≤ k by omega)
    have hj : j < 9 := by omega
    have hj1 : 1 ≤ j := by omega
    have hc : (w.alloc (.cells #[.int .u64 0, .int .u64 1, .int .u64 2, .int .u64 3, .int .u64 20, .int .u64 50, .int .u64 30, .int .u64 40, .int .u64 64] 33)).cell? ⟨w.heap.size, j, none⟩ = some (.int .u64 (cost j)) := by
      rw [World.cell?_alloc_new]
      match j, hj with
      | 0, _ => rfl
      | 1, _ => rfl
      | 2, _ => rfl
      | 3, _ => rfl
      | 4, _ => rfl
      | 5, _ => rfl
      | 6, _ => rfl
      | 7, _ => rfl
      | 8, _ => rfl
    have HO := Lib.hid ho
    clear h ho
    go_enter Tryd.func21, Tryd.ntmps21
    go_wp2_with fail
    go_ret
    exact ⟨rfl, HO.out⟩
  · have E := Lib.hid (cost_no k h)
    have HO := Lib.hid ho
    by_cases h1 : k < 1
    · have d1 : decide (k < 1) = true := by simpa using h1
      clear h ho
      go_enter Tryd.func21, Tryd.ntmps21
      go_wp2
      go_ret
      exact ⟨by rw [E.out] <;> rfl, HO.out⟩
    · have d1 : decide (k < 1) = false := by simpa using h1
      have d2 : decide (8 < k) = true := by simp; omega
      clear h ho
      go_enter Tryd.func21, Tryd.ntmps21
      go_wp2
      go_ret
      exact ⟨by rw [E.out] <;> rfl, HO.out⟩
end Mt
end Go.Proofs.YtalaalpafafpbaaDoor
