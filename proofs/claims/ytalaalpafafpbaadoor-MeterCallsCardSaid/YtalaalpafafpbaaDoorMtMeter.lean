/-
  What meter's cycles, has, state, Clock, Idle, Spent, Stopped, advance, Charge and Wait do with a meter. Conditions: that a meter lies there, the table of costs, and that each argument is of its Go type.
-/
import Derived.Test.YtalaalpafafpbaaDoorMtBase
import Derived.Test.YtalaalpafafpbaaDoorMtWide
namespace Go.Proofs.YtalaalpafafpbaaDoor
open Go.RowKit
namespace Mt
/-! ### Cells that are set -/
theorem cell_set {w : World} {b o : Nat} {v : Value} {b' o' : Nat} {u : Value} (hs : w.cell? ⟨b, o, none⟩ = some u) : (w.setCell ⟨b, o, none⟩ v).cell? ⟨b', o', none⟩ = if b' = b ∧ o' = o then some v else w.cell? ⟨b', o', none⟩ := by
  by_cases h : b' = b ∧ o' = o
  · obtain ⟨rfl, rfl⟩ := h
    rw [if_pos ⟨rfl, rfl⟩, World.cell?_setCell_same' _ _ _ (by rw [hs]; rfl)]
  · rw [if_neg h, World.cell?_setCell_other _ _ _ _ (fun x => h (by injection x with x y; exact ⟨x.symm, y.symm⟩))]
/-- The meter is stopped. -/
theorem Met.halt {w : World} {m F n c : Nat} {L : List Ent} {s : Bool} (h : Met w m F n c L s) : Met (w.setCell ⟨m, 1, none⟩ (.bool true)) m F n c L true := by
  have ha := h.apart
  refine ⟨by rw [World.size_setCell]; exact h.lt, by rw [World.size_setCell]; exact h.ltF, ?_, ?_, by rw [World.frozen?_setCell]; exact h.stopf, fun k i hk hi => ?_, fun k i hk hi => by rw [World.frozen?_setCell]; exact h.free k i hk hi, ha, h.few, h.good⟩
  · rw [cell_set h.stop, if_neg (by simp)]; exact h.head
  · rw [cell_set h.stop, if_pos ⟨rfl, rfl⟩]
  · rw [cell_set h.stop, if_neg (fun x => ha x.1.symm)]; exact h.cell k i hk hi
/-- Where a kind's cycles stand in a core's cells; the kind 0: what was idle. -/
def plc (j : Nat) : Nat := if j = 0 then 1 else j + 2
theorem zL_clk (L : List Ent) (k : Nat) : zL L k 0 = clk L k := rfl
theorem zL_idle (L : List Ent) (k : Nat) : zL L k 1 = knd L k 0 := rfl
theorem zL_knd (L : List Ent) (k j : Nat) (h : 1 ≤ j) : zL L k (2 + j) = knd L k j := by
  unfold zL
  rw [if_neg (by omega), if_neg (by omega), if_neg (by omega), show 2 + j - 2 = j by omega]
theorem zL_add_same (L : List Ent) (k j i : Nat) (x : Int) : zL (L ++ [⟨k, j, x⟩]) k i = if i = plc j then knd L k j + x else if i = 0 then clk L k + x else zL L k i := by
  unfold zL plc
  rw [clk_add, knd_add, knd_add]
  by_cases h0 : i = 0
  · subst h0
    rw [if_pos rfl, if_pos rfl, if_neg (by split <;> omega), if_pos rfl]
  · rw [if_neg h0, if_neg h0, if_neg h0]
    by_cases h1 : i = 1
    · subst h1
      rw [if_pos rfl, if_pos rfl]
      by_cases hj : j = 0
      · subst hj; simp
      · rw [if_neg (fun g => hj g.2), if_neg (by rw [if_neg hj]; omega)]; omega
    · rw [if_neg h1, if_neg h1]
      by_cases h2 : i = 2
      · subst h2
        rw [if_pos rfl, if_neg (by split <;> omega)]
        rfl
      · rw [if_neg h2, if_neg h2]
        by_cases hj : i = j + 2
        · subst hj
          rw [if_neg (show ¬ j = 0 by omega)]
          simp
        · rw [if_neg (show ¬ i = _ by split <;> omega), if_neg (fun g => by omega)]; omega
theorem plc_pos (j : Nat) : 0 < plc j := by unfold plc; split <;> omega
theorem plc_lt (j : Nat) (h : j ≤ 8) : plc j < 11 := by unfold plc; split <;> omega
theorem zL_plc (L : List Ent) (k j : Nat) : zL L k (plc j) = knd L k j := by
  unfold plc
  by_cases h : j = 0
  · subst h; rfl
  · rw [if_neg h, Nat.add_comm]; exact zL_knd L k j (by omega)
/-- One more charge. -/
theorem Met.add {w : World} {m F n c : Nat} {L : List Ent} {s : Bool} (h : Met w m F n c L s) (k j : Nat) (x : Int) (hk : k < n) (hj : j ≤ 8) (h0 : 0 ≤ x) (hx : clk L k + x ≤ 4611686018427387904) :
    Met ((w.setCell ⟨F, k * 11, none⟩ (.int .u64 (clk L k + x))).setCell ⟨F, k * 11 + plc j, none⟩ (.int .u64 (knd L k j + x))) m F n c (L ++ [⟨k, j, x⟩]) s := by
  have ha := h.apart
  have p0 := plc_pos j
  have p1 := plc_lt j hj
  have c0 := h.cell k 0 hk (by omega)
  rw [Nat.add_zero] at c0
  have c1 : (w.setCell ⟨F, k * 11, none⟩ (.int .u64 (clk L k + x))).cell? ⟨F, k * 11 + plc j, none⟩ = some (.int .u64 (zL L k (plc j))) := by
    rw [cell_set c0, if_neg (fun g => by omega)]; exact h.cell k _ hk p1
  refine ⟨by rw [World.size_setCell, World.size_setCell]; exact h.lt, by rw [World.size_setCell, World.size_setCell]; exact h.ltF, ?_, ?_, by rw [World.frozen?_setCell, World.frozen?_setCell]; exact h.stopf, fun k' i hk' hi => ?_, fun k i hk hi => by rw [World.frozen?_setCell, World.frozen?_setCell]; exact h.free k i hk hi, ha, h.few, h.good.add k j x hk hj h0 hx⟩
  · rw [cell_set c1, if_neg (fun g => ha g.1), cell_set c0, if_neg (fun g => ha g.1)]; exact h.head
  · rw [cell_set c1, if_neg (fun g => ha g.1), cell_set c0, if_neg (fun g => ha g.1)]; exact h.stop
  · rw [cell_set c1, cell_set c0]
    by_cases e : k' = k
    · subst e
      rw [zL_add_same]
      by_cases e1 : i = plc j
      · rw [if_pos ⟨rfl, by rw [e1]⟩, if_pos e1]
      · rw [if_neg (fun g => by omega), if_neg e1]
        by_cases e2 : i = 0
        · rw [if_pos ⟨rfl, by rw [e2]; rfl⟩, if_pos e2]
        · rw [if_neg (fun g => by omega), if_neg e2]; exact h.cell _ _ hk hi
    · rw [if_neg (fun g => by omega), if_neg (fun g => by omega), zL_add_other _ _ _ _ _ _ (fun g => e g.symm)]
      exact h.cell _ _ hk' hi

/-! ### Questions -/
/-- Is there such a core? -/
def inR (n : Nat) (k : Int) : Bool := decide (0 ≤ k ∧ k < n)
theorem inR_yes {n : Nat} {k : Int} (h : inR n k = true) : ∃ j : Nat, k = j ∧ j < n := by
  unfold inR at h
  have h := of_decide_eq_true h
  obtain ⟨j, rfl⟩ := Int.eq_ofNat_of_zero_le h.1
  exact ⟨j, rfl, by omega⟩
theorem inR_nat (n j : Nat) (h : j < n) : inR n j = true := by unfold inR; simp; omega
theorem inR_no {n : Nat} {k : Int} (h : inR n k = false) : ¬ (0 ≤ k ∧ k < n) := by
  unfold inR at h
  exact of_decide_eq_false h
theorem has_any (m F n c : Nat) (k : Int) (w : World) (hh : w.cell? ⟨m, 0, none⟩ = some (.slice (some ⟨F, 0, none⟩) n c)) :
    Calls Tryd.prog 22 #[.pointer (some ⟨m, 0, none⟩), .int .i64 k] w fun e w' => e = .returned (.bool (inR n k)) ∧ w = w' := by
  by_cases h0 : 0 ≤ k
  · have d0 : decide (0 ≤ k) = true := by simpa using h0
    by_cases h1 : k < n
    · have d1 : decide (k < (n : Int)) = true := by simpa using h1
      have H := Lib.hid (show inR n k = true by unfold inR; simp [h0, h1])
      go_enter Tryd.func22, Tryd.ntmps22
      go_wp2
      go_ret
      exact ⟨by rw [H.out] <;> rfl, rfl⟩
    · have d1 : decide (k < (n : Int)) = false := by simpa using h1
      have H := Lib.hid (show inR n k = false by unfold inR; simp [h1])
      go_enter Tryd.func22, Tryd.ntmps22
      go_wp2
      go_ret
      exact ⟨by rw [H.out] <;> rfl, rfl⟩
  · have d0 : decide (0 ≤ k) = false := by simpa using h0
    have H := Lib.hid (show inR n k = false by unfold inR; simp [h0])
    go_enter Tryd.func22, Tryd.ntmps22
    go_wp2
    go_ret
    exact ⟨by rw [H.out] <;> rfl, rfl⟩
/-- ErrStop, or OK. -/
def st (b : Bool) : Int := if b = true then 22 else 0
theorem state_any (m : Nat) (s : Bool) (w : World) (hh : w.cell? ⟨m, 1, none⟩ = some (.bool s)) :
    Calls Tryd.prog 24 #[.pointer (some ⟨m, 0, none⟩)] w fun e w' => e = .returned (.int .i64 (st s)) ∧ w = w' := by
  cases s
  · go_enter Tryd.func24, Tryd.ntmps24
    go_wp2
    go_ret
    exact ⟨rfl, rfl⟩
  · go_enter Tryd.func24, Tryd.ntmps24
    go_wp2
    go_ret
    exact ⟨rfl, rfl⟩
theorem stopped_any (m : Nat) (s : Bool) (w : World) (hh : w.cell? ⟨m, 1, none⟩ = some (.bool s)) :
    Calls Tryd.prog 13 #[.pointer (some ⟨m, 0, none⟩)] w fun e w' => e = .returned (.bool s) ∧ w = w' := by
  go_enter Tryd.func13, Tryd.ntmps13
  go_wp2
  go_ret
  exact ⟨rfl, rfl⟩
/-- What Clock answers. -/
def clkA (n : Nat) (L : List Ent) (k : Int) : Int := if inR n k = true then clk L k.toNat else 0
def idleA (n : Nat) (L : List Ent) (k : Int) : Int := if inR n k = true then knd L k.toNat 0 else 0
def spentA (n : Nat) (L : List Ent) (k j : Int) : Int := if inR n k = true ∧ 1 ≤ j ∧ j < 9 then knd L k.toNat j.toNat else 0
theorem clock_any (m F n c : Nat) (L : List Ent) (s : Bool) (k : Int) (w : World) (hM : Met w m F n c L s) :
    Calls Tryd.prog 14 #[.pointer (some ⟨m, 0, none⟩), .int .i64 k] w fun e w' => e = .returned (.int .u64 (clkA n L k)) ∧ w = w' := by
  have hh := hM.head
  cases hb : inR n k
  · have E := Lib.hid (show clkA n L k = 0 by unfold clkA; rw [hb]; rfl)
    have H := Lib.hid hb
    clear hb hM
    go_enter Tryd.func14, Tryd.ntmps14
    go_wp2_with (go_at_call 22; refine (has_any m F n c _ _ hh).mono ?_; rintro e w' ⟨rfl, rfl⟩; rw [H.out])
    go_ret
    exact ⟨by rw [E.out] <;> rfl, rfl⟩
  · obtain ⟨q, rfl, hq⟩ := inR_yes hb
    have E := Lib.hid (show clkA n L q = clk L q by unfold clkA; rw [if_pos hb]; rfl)
    have H := Lib.hid hb
    have hc := hM.cell q 0 hq (by decide)
    rw [Nat.add_zero, zL_clk] at hc
    have hf := hM.few
    clear hb hM
    go_enter Tryd.func14, Tryd.ntmps14
    go_wp2_with (go_at_call 22; refine (has_any m F n c _ _ hh).mono ?_; rintro e w' ⟨rfl, rfl⟩; rw [H.out])
    go_ret
    exact ⟨by rw [E.out] <;> rfl, rfl⟩
theorem idle_any (m F n c : Nat) (L : List Ent) (s : Bool) (k : Int) (w : World) (hM : Met w m F n c L s) :
    Calls Tryd.prog 16 #[.pointer (some ⟨m, 0, none⟩), .int .i64 k] w fun e w' => e = .returned (.int .u64 (idleA n L k)) ∧ w = w' := by
  have hh := hM.head
  cases hb : inR n k
  · have E := Lib.hid (show idleA n L k = 0 by unfold idleA; rw [hb]; rfl)
    have H := Lib.hid hb
    clear hb hM
    go_enter Tryd.func16, Tryd.ntmps16
    go_wp2_with (go_at_call 22; refine (has_any m F n c _ _ hh).mono ?_; rintro e w' ⟨rfl, rfl⟩; rw [H.out])
    go_ret
    exact ⟨by rw [E.out] <;> rfl, rfl⟩
  · obtain ⟨q, rfl, hq⟩ := inR_yes hb
    have E := Lib.hid (show idleA n L q = knd L q 0 by unfold idleA; rw [if_pos hb]; rfl)
    have H := Lib.hid hb
    have hc := hM.cell q 1 hq (by decide)
    rw [zL_idle] at hc
    have hf := hM.few
    clear hb hM
    go_enter Tryd.func16, Tryd.ntmps16
    go_wp2_with (go_at_call 22; refine (has_any m F n c _ _ hh).mono ?_; rintro e w' ⟨rfl, rfl⟩; rw [H.out])
    go_ret
    exact ⟨by rw [E.out] <;> rfl, rfl⟩
theorem spent_any (m F n c : Nat) (L : List Ent) (s : Bool) (k j : Int) (w : World) (hM : Met w m F n c L s) :
    Calls Tryd.prog 18 #[.pointer (some ⟨m, 0, none⟩), .int .i64 k, .int .i64 j] w fun e w' => e = .returned (.int .u64 (spentA n L k j)) ∧ w = w' := by
  have hh := hM.head
  cases hb : inR n k
  · have E := Lib.hid (show spentA n L k j = 0 by unfold spentA; rw [hb]; simp)
    have H := Lib.hid hb
    clear hb hM
    go_enter Tryd.func18, Tryd.ntmps18
    go_wp2_with (go_at_call 22; refine (has_any m F n c _ _ hh).mono ?_; rintro e w' ⟨rfl, rfl⟩; rw [H.out])
    go_ret
    exact ⟨by rw [E.out] <;> rfl, rfl⟩
  · obtain ⟨q, rfl, hq⟩ := inR_yes hb
    cases hk : kn j
    · have E := Lib.hid (show spentA n L q j = 0 by unfold spentA; rw [if_neg]; intro g; unfold kn at hk; simp at hk; omega)
      have H := Lib.hid hb
      have K := Lib.hid hk
      clear hb hM hk
      go_enter Tryd.func18, Tryd.ntmps18
      go_wp2_with (first | (go_at_call 22; refine (has_any m F n c _ _ hh).mono ?_; rintro e w' ⟨rfl, rfl⟩; rw [H.out]) | (go_at_call 29; refine (known_any _ _).mono ?_; rintro e w' ⟨rfl, rfl⟩; rw [K.out]))
      go_ret
      exact ⟨by rw [E.out] <;> rfl, rfl⟩
    · have hj : 0 ≤ j ∧ j < 9 := by unfold kn at hk; simpa using hk
      obtain ⟨i, rfl⟩ := Int.eq_ofNat_of_zero_le hj.1
      have hi : i < 9 := by omega
      have E := Lib.hid (show spentA n L q i = zL L q (2 + i) by
        unfold spentA
        by_cases h0 : i = 0
        · subst h0; rw [if_neg (by omega)]; rfl
        · rw [if_pos ⟨hb, by omega, by omega⟩, zL_knd _ _ _ (by omega)]; rfl)
      have H := Lib.hid hb
      have K := Lib.hid hk
      have hc := hM.cell q (2 + i) hq (by omega)
      have hc' : w.cell? ⟨F, q * 11 + 2 + i, none⟩ = some (.int .u64 (zL L q (2 + i))) := by rw [Nat.add_assoc]; exact hc
      have hf := hM.few
      clear hb hM hk hc hj
      go_enter Tryd.func18, Tryd.ntmps18
      go_wp2_with (first | (go_at_call 22; refine (has_any m F n c _ _ hh).mono ?_; rintro e w' ⟨rfl, rfl⟩; rw [H.out]) | (go_at_call 29; refine (known_any _ _).mono ?_; rintro e w' ⟨rfl, rfl⟩; rw [K.out]))
      go_ret
      exact ⟨by rw [E.out] <;> rfl, rfl⟩
/-- So many times a kind's cost. -/
def amt (k t : Int) : Int := if 18446744073709551616 ≤ cost k * t then 4611686018427387904 else cost k * t
theorem amt_bounds (k t : Int) (t0 : 0 ≤ t) : 0 ≤ amt k t ∧ amt k t < 18446744073709551616 := by
  have := Int.mul_nonneg (cost_bounds k).1 t0
  unfold amt
  split <;> omega
theorem cycles_any (k t : Int) (w : World) (hC : Costs w) (t0 : 0 ≤ t) (t1 : t < 18446744073709551616) : Calls Tryd.prog 26 #[.int .i64 k, .int .u64 t] w fun e w' => e = .returned (.int .u64 (amt k t)) ∧ w = w' := by
  have hb := cost_bounds k
  have hp := Int.mul_nonneg hb.1 t0
  have C := Lib.hid hC
  have W1 : Hid (W64 (cost k)) := ⟨hb.1, by omega⟩
  have W2 : Hid (W64 t) := ⟨t0, t1⟩
  by_cases h : 18446744073709551616 ≤ cost k * t
  · have E := Lib.hid (show amt k t = 4611686018427387904 from if_pos h)
    have d : decide (0 < cost k * t / 18446744073709551616) = true := by simp; omega
    clear hC hb hp h t0 t1
    go_enter Tryd.func26, Tryd.ntmps26
    go_wp2_with (first | (go_at_call 20; refine (cost_any _ _ C.out).mono ?_; rintro e w' ⟨rfl, rfl⟩) | (go_at_call 30; refine (mul64_any _ _ W1.out W2.out _).mono ?_; rintro e w' ⟨rfl, rfl⟩))
    go_ret
    exact ⟨by rw [E.out] <;> rfl, rfl⟩
  · have E := Lib.hid (show amt k t = cost k * t % 18446744073709551616 by unfold amt; rw [if_neg h]; omega)
    have d : decide (0 < cost k * t / 18446744073709551616) = false := by simp; omega
    clear hC hb hp h t0 t1
    go_enter Tryd.func26, Tryd.ntmps26
    go_wp2_with (first | (go_at_call 20; refine (cost_any _ _ C.out).mono ?_; rintro e w' ⟨rfl, rfl⟩) | (go_at_call 30; refine (mul64_any _ _ W1.out W2.out _).mono ?_; rintro e w' ⟨rfl, rfl⟩))
    go_ret
    exact ⟨by rw [E.out] <;> rfl, rfl⟩
end Mt
end Go.Proofs.YtalaalpafafpbaaDoor
