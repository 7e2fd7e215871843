/-
  What meter's New, advance, Charge and Wait do with a meter. Conditions: that a meter lies there, the table of costs, and that each argument is of its Go type.
-/
import Derived.Test.YtalaalpafafpbaaDoorMtMeter
namespace Go.Proofs.YtalaalpafafpbaaDoor
open Go.RowKit
namespace Mt
/-- The world behind advance. -/
def advW (w : World) (m F k : Nat) (L : List Ent) (x : Int) : World :=
  if 4611686018427387904 - clk L k ≤ x then (w.setCell ⟨m, 1, none⟩ (.bool true)).setCell ⟨F, k * 11, none⟩ (.int .u64 (clk L k + (4611686018427387904 - clk L k))) else w.setCell ⟨F, k * 11, none⟩ (.int .u64 (clk L k + x))
/-- By how many cycles a clock goes on. -/
def cut (L : List Ent) (k : Nat) (x : Int) : Int := if 4611686018427387904 - clk L k ≤ x then 4611686018427387904 - clk L k else x
theorem advance_any (m F n c k : Nat) (L : List Ent) (s : Bool) (x : Int) (w : World) (hM : Met w m F n c L s) (hk : k < n) (x0 : 0 ≤ x) (x1 : x < 18446744073709551616) :
    Calls Tryd.prog 23 #[.pointer (some ⟨m, 0, none⟩), .int .i64 k, .int .u64 x] w fun e w' => e = .returned (.int .u64 (cut L k x)) ∧ w' = advW w m F k L x := by
  have hh := hM.head
  have hs := hM.stop
  have hz := hM.stopf
  have hc := hM.cell k 0 hk (by decide)
  have hfz := hM.free k 0 hk (by decide)
  rw [Nat.add_zero, zL_clk] at hc
  rw [Nat.add_zero] at hfz
  have hf := hM.few
  have b0 := hM.good.clk0 k
  have b1 := hM.good.clk k
  have ha := hM.apart
  have ha' := Ne.symm ha
  clear hM
  by_cases h : 4611686018427387904 - clk L k ≤ x
  · have E := Lib.hid (show cut L k x = 4611686018427387904 - clk L k from if_pos h)
    have EW := Lib.hid (show advW w m F k L x = _ from if_pos h)
    generalize clk L k = q at *
    go_enter Tryd.func23, Tryd.ntmps23
    go_wp2
    go_ret
    exact ⟨by rw [E.out] <;> rfl, by rw [EW.out]⟩
  · have E := Lib.hid (show cut L k x = x from if_neg h)
    have EW := Lib.hid (show advW w m F k L x = _ from if_neg h)
    generalize clk L k = q at *
    go_enter Tryd.func23, Tryd.ntmps23
    go_wp2
    go_ret
    exact ⟨by rw [E.out] <;> rfl, by rw [EW.out]⟩
theorem cut_bounds {n : Nat} {L : List Ent} (h : Good n L) (k : Nat) (x : Int) (x0 : 0 ≤ x) : 0 ≤ cut L k x ∧ clk L k + cut L k x ≤ 4611686018427387904 := by
  have := h.clk k
  have := h.clk0 k
  unfold cut
  split <;> omega
/-- Is the end come to? -/
def onS (L : List Ent) (k : Nat) (x : Int) : Bool := decide (4611686018427387904 - clk L k ≤ x)
theorem adv_add {w : World} {m F n c k : Nat} {L : List Ent} {s : Bool} (h : Met w m F n c L s) (j : Nat) (x : Int) (hk : k < n) (hj : j ≤ 8) (x0 : 0 ≤ x) :
    Met ((advW w m F k L x).setCell ⟨F, k * 11 + plc j, none⟩ (.int .u64 (knd L k j + cut L k x))) m F n c (L ++ [⟨k, j, cut L k x⟩]) (s || onS L k x) := by
  have hb := cut_bounds h.good k x x0
  by_cases g : 4611686018427387904 - clk L k ≤ x
  · have e1 : cut L k x = 4611686018427387904 - clk L k := if_pos g
    have e2 : advW w m F k L x = _ := if_pos g
    have e3 : onS L k x = true := by unfold onS; simpa using g
    rw [e2, e3, Bool.or_true]
    have := h.halt.add k j (cut L k x) hk hj hb.1 hb.2
    rw [e1] at this ⊢
    exact this
  · have e1 : cut L k x = x := if_neg g
    have e2 : advW w m F k L x = _ := if_neg g
    have e3 : onS L k x = false := by unfold onS; simpa using g
    rw [e2, e3, Bool.or_false]
    have := h.add k j (cut L k x) hk hj hb.1 hb.2
    rw [e1] at this ⊢
    exact this
/-- What stands behind advance. -/
structure Adv (w2 : World) (m F n c k : Nat) (L : List Ent) (b : Bool) : Prop where
  head : w2.cell? ⟨m, 0, none⟩ = some (.slice (some ⟨F, 0, none⟩) n c)
  stop : w2.cell? ⟨m, 1, none⟩ = some (.bool b)
  cell : ∀ i, 0 < i → i < 11 → w2.cell? ⟨F, k * 11 + i, none⟩ = some (.int .u64 (zL L k i))
  free : ∀ i, i < 11 → w2.frozen? ⟨F, k * 11 + i, none⟩ = false
theorem adv_facts {w : World} {m F n c k : Nat} {L : List Ent} {s : Bool} (h : Met w m F n c L s) (x : Int) (hk : k < n) : Adv (advW w m F k L x) m F n c k L (s || onS L k x) ∧ Only [m, F] w (advW w m F k L x) := by
  have ha := h.apart
  have c0 := h.cell k 0 hk (by decide)
  rw [Nat.add_zero] at c0
  have c0' : (w.setCell ⟨m, 1, none⟩ (.bool true)).cell? ⟨F, k * 11, none⟩ = some (.int .u64 (zL L k 0)) := by rw [cell_set h.stop, if_neg (fun g => ha g.1.symm)]; exact c0
  by_cases g : 4611686018427387904 - clk L k ≤ x
  · have e2 : advW w m F k L x = _ := if_pos g
    have e3 : onS L k x = true := by unfold onS; simpa using g
    rw [e2, e3, Bool.or_true]
    refine ⟨⟨?_, ?_, fun i hi hi2 => ?_, fun i hi => ?_⟩, (Only.setCell w (by simp) _ _).trans (Only.setCell _ (by simp) _ _)⟩
    · rw [cell_set c0', if_neg (fun g => ha g.1), cell_set h.stop, if_neg (by simp)]; exact h.head
    · rw [cell_set c0', if_neg (fun g => ha g.1), cell_set h.stop, if_pos ⟨rfl, rfl⟩]
    · rw [cell_set c0', if_neg (fun g => by omega), cell_set h.stop, if_neg (fun g => ha g.1.symm)]; exact h.cell k i hk hi2
    · rw [World.frozen?_setCell, World.frozen?_setCell]; exact h.free k i hk hi
  · have e2 : advW w m F k L x = _ := if_neg g
    have e3 : onS L k x = false := by unfold onS; simpa using g
    rw [e2, e3, Bool.or_false]
    refine ⟨⟨?_, ?_, fun i hi hi2 => ?_, fun i hi => ?_⟩, Only.setCell _ (by simp) _ _⟩
    · rw [cell_set c0, if_neg (fun g => ha g.1)]; exact h.head
    · rw [cell_set c0, if_neg (fun g => ha g.1)]; exact h.stop
    · rw [cell_set c0, if_neg (fun g => by omega)]; exact h.cell k i hk hi2
    · rw [World.frozen?_setCell]; exact h.free k i hk hi
/-- What a call comes to: its answer, what was charged then, whether the meter is stopped then. -/
structure Res where
  e : Int
  L : List Ent
  s : Bool
/-- A clock goes on. -/
def on (L : List Ent) (k j : Nat) (x : Int) : Res := ⟨st (onS L k x), L ++ [⟨k, j, cut L k x⟩], onS L k x⟩
def charge (n : Nat) (L : List Ent) (s : Bool) (k j t : Int) : Res := if inR n k = true ∧ 1 ≤ j ∧ j ≤ 8 then if s then ⟨22, L, s⟩ else on L k.toNat j.toNat (amt j t) else ⟨11, L, s⟩
def wait (n : Nat) (L : List Ent) (s : Bool) (k t : Int) : Res := if inR n k = true then if s then ⟨22, L, s⟩ else if t ≤ clk L k.toNat then ⟨0, L, s⟩ else on L k.toNat 0 (t - clk L k.toNat) else ⟨11, L, s⟩
/-- How a call that changes a meter ends. -/
def MetEnd (m F n c : Nat) (w : World) (r : Res) (e : Ending) (w' : World) : Prop := e = .returned (.int .i64 r.e) ∧ Met w' m F n c r.L r.s ∧ Only [m, F] w w'
set_option maxHeartbeats 1000000 in
theorem charge_run (m F n c k j : Nat) (L : List Ent) (t : Int) (w : World) (hM : Met w m F n c L false) (hC : Costs w) (hk : k < n) (j1 : 1 ≤ j) (j2 : j ≤ 8) (t0 : 0 ≤ t) (t1 : t < 18446744073709551616) :
    Calls Tryd.prog 11 #[.pointer (some ⟨m, 0, none⟩), .int .i64 k, .int .i64 j, .int .u64 t] w (MetEnd m F n c w (on L k j (amt j t))) := by
  have hh := hM.head
  have hs := hM.stop
  have hf := hM.few
  have H := Lib.hid (inR_nat n k hk)
  have M := Lib.hid hM
  have C := Lib.hid hC
  have hc1 := cost_yes j ⟨by omega, by omega⟩
  have d0 : (cost (j : Int) == 0) = false := by simp; omega
  obtain ⟨a0, a1⟩ := amt_bounds j t t0
  obtain ⟨hA, hO⟩ := adv_facts hM (amt j t) hk
  have hD := adv_add hM j (amt j t) hk j2 a0
  have ep : plc j = 2 + j := by unfold plc; rw [if_neg (by omega), Nat.add_comm]
  rw [ep, Bool.false_or] at hD
  have gh := hA.head
  have gs := hA.stop
  have gc := hA.cell (2 + j) (by omega) (by omega)
  have gf := hA.free (2 + j) (by omega)
  rw [zL_knd L k j j1] at gc
  rw [← Nat.add_assoc] at gc gf hD
  rw [Bool.false_or] at gs
  have cb := cut_bounds hM.good k (amt j t) a0
  have kb := hM.good.knd0 k j
  have kc := hM.good.kndle k j
  have ov : knd L k j + cut L k (amt j t) < 18446744073709551616 := by omega
  have ov0 : 0 ≤ knd L k j + cut L k (amt j t) := by omega
  have D := Lib.hid hD
  have O := Lib.hid hO
  have A0 := Lib.hid a0
  have A1 := Lib.hid a1
  have ha := hM.apart
  have ha' := Ne.symm ha
  clear hD hO hA ep hM hC cb kb kc hc1 a0 a1
  go_enter Tryd.func11, Tryd.ntmps11
  go_wp2_with (first | (go_at_call 22; refine (has_any m F n c _ _ hh).mono ?_; rintro e w' ⟨rfl, rfl⟩; rw [H.out]) | (go_at_call 20; refine (cost_any _ _ C.out).mono ?_; rintro e w' ⟨rfl, rfl⟩) | (go_at_call 26; refine (cycles_any _ _ _ C.out t0 t1).mono ?_; rintro e w' ⟨rfl, rfl⟩) | (go_at_call 23; refine (advance_any m F n c k L false (amt j t) _ M.out hk A0.out A1.out).mono ?_; rintro e w' ⟨rfl, rfl⟩))
  generalize advW w m F k L (amt j t) = w2 at *
  generalize hx : cut L k (amt j t) = x at *
  generalize knd L k j = y at *
  go_region
  have D2 := Lib.hid (D.out.kept (Only.drewN [] _ 1) (by simp) (by simp))
  have O2 := Lib.hid ((O.out.trans (Only.setCell w2 (b := F) (by simp) (k * 11 + 2 + j) (.int .u64 (y + x)))).trans (Only.drewN _ _ 1))
  clear O D gh gs gc gf
  go_wp2_with (go_at_call 24; refine (state_any m _ _ D2.out.stop).mono ?_; rintro e w' ⟨rfl, rfl⟩)
  go_ret
  exact ⟨rfl, by have := D2.out; rw [← hx] at this; rw [← hx]; exact this, O2.out⟩
theorem charge_any (m F n c : Nat) (k j : Int) (L : List Ent) (s : Bool) (t : Int) (w : World) (hM : Met w m F n c L s) (hC : Costs w) (t0 : 0 ≤ t) (t1 : t < 18446744073709551616) :
    Calls Tryd.prog 11 #[.pointer (some ⟨m, 0, none⟩), .int .i64 k, .int .i64 j, .int .u64 t] w (MetEnd m F n c w (charge n L s k j t)) := by
  have hh := hM.head
  have hs := hM.stop
  have C := Lib.hid hC
  have M := Lib.hid hM
  cases hb : inR n k
  · have E := Lib.hid (show charge n L s k j t = ⟨11, L, s⟩ by unfold charge; rw [if_neg (by rw [hb]; simp)])
    have H := Lib.hid hb
    clear hb hM hC
    go_enter Tryd.func11, Tryd.ntmps11
    go_wp2_with (go_at_call 22; refine (has_any m F n c _ _ hh).mono ?_; rintro e w' ⟨rfl, rfl⟩; rw [H.out])
    go_ret
    rw [E.out]
    exact ⟨rfl, M.out, Only.refl _ _⟩
  · by_cases hj : 1 ≤ j ∧ j ≤ 8
    · cases s
      · obtain ⟨q, rfl, hq⟩ := inR_yes hb
        obtain ⟨i, rfl⟩ := Int.eq_ofNat_of_zero_le (show 0 ≤ j by omega)
        have E : charge n L false q i t = on L q i (amt i t) := by unfold charge; rw [if_pos ⟨hb, hj⟩]; rfl
        rw [E]
        exact charge_run m F n c q i L t w hM hC hq (by omega) (by omega) t0 t1
      · have E := Lib.hid (show charge n L true k j t = ⟨22, L, true⟩ by unfold charge; rw [if_pos ⟨hb, hj⟩]; rfl)
        have H := Lib.hid hb
        have hc1 := cost_yes j hj
        have d0 : (cost j == 0) = false := by simp; omega
        clear hb hM hC hc1 hj
        go_enter Tryd.func11, Tryd.ntmps11
        go_wp2_with (first | (go_at_call 22; refine (has_any m F n c _ _ hh).mono ?_; rintro e w' ⟨rfl, rfl⟩; rw [H.out]) | (go_at_call 20; refine (cost_any _ _ C.out).mono ?_; rintro e w' ⟨rfl, rfl⟩))
        go_ret
        rw [E.out]
        exact ⟨rfl, M.out, Only.refl _ _⟩
    · have E := Lib.hid (show charge n L s k j t = ⟨11, L, s⟩ by unfold charge; rw [if_neg (fun g => hj g.2)])
      have H := Lib.hid hb
      have c0 := cost_no j hj
      have d0 : (cost j == 0) = true := by simp [c0]
      clear hb hM hC hj c0
      go_enter Tryd.func11, Tryd.ntmps11
      go_wp2_with (first | (go_at_call 22; refine (has_any m F n c _ _ hh).mono ?_; rintro e w' ⟨rfl, rfl⟩; rw [H.out]) | (go_at_call 20; refine (cost_any _ _ C.out).mono ?_; rintro e w' ⟨rfl, rfl⟩))
      go_ret
      rw [E.out]
      exact ⟨rfl, M.out, Only.refl _ _⟩
set_option maxHeartbeats 1000000 in
theorem wait_run (m F n c k : Nat) (L : List Ent) (t : Int) (w : World) (hM : Met w m F n c L false) (hk : k < n) (t0 : clk L k < t) (t1 : t < 18446744073709551616) :
    Calls Tryd.prog 9 #[.pointer (some ⟨m, 0, none⟩), .int .i64 k, .int .u64 t] w (MetEnd m F n c w (on L k 0 (t - clk L k))) := by
  have hh := hM.head
  have hs := hM.stop
  have hf := hM.few
  have H := Lib.hid (inR_nat n k hk)
  have M := Lib.hid hM
  have q0 := hM.good.clk0 k
  have a0 : 0 ≤ t - clk L k := by omega
  have a1 : t - clk L k < 18446744073709551616 := by omega
  obtain ⟨hA, hO⟩ := adv_facts hM (t - clk L k) hk
  have hD := adv_add hM 0 (t - clk L k) hk (by omega) a0
  rw [show plc 0 = 1 from rfl, Bool.false_or] at hD
  have gh := hA.head
  have gs := hA.stop
  have gc := hA.cell 1 (by omega) (by omega)
  have gf := hA.free 1 (by omega)
  rw [zL_idle] at gc
  rw [Bool.false_or] at gs
  have cb := cut_bounds hM.good k (t - clk L k) a0
  have kb := hM.good.knd0 k 0
  have kc := hM.good.kndle k 0
  have ov : knd L k 0 + cut L k (t - clk L k) < 18446744073709551616 := by omega
  have ov0 : 0 ≤ knd L k 0 + cut L k (t - clk L k) := by omega
  have hc := hM.cell k 0 hk (by decide)
  rw [Nat.add_zero, zL_clk] at hc
  have d0 : decide (t ≤ clk L k) = false := by simp; omega
  have D := Lib.hid hD
  have O := Lib.hid hO
  have A0 := Lib.hid a0
  have A1 := Lib.hid a1
  have ha := hM.apart
  have ha' := Ne.symm ha
  clear hD hO hA hM cb kb kc
  go_enter Tryd.func9, Tryd.ntmps9
  go_wp2_with (first | (go_at_call 22; refine (has_any m F n c _ _ hh).mono ?_; rintro e w' ⟨rfl, rfl⟩; rw [H.out]) | (go_at_call 23; refine (advance_any m F n c k L false (t - clk L k) _ M.out hk A0.out A1.out).mono ?_; rintro e w' ⟨rfl, rfl⟩; generalize hw2 : advW w m F k L (t - clk L k) = w2 at *; generalize hx : cut L k (t - clk L k) = x at *; generalize hy : knd L k 0 = y at *) | (go_at_call 24; refine (state_any m _ _ D.out.stop).mono ?_; rintro e w' ⟨rfl, rfl⟩))
  go_ret
  exact ⟨rfl, by have := D.out; rw [← hx] at this; rw [← hx]; exact this, O.out.trans (Only.setCell w2 (b := F) (by simp) _ _)⟩
theorem wait_any (m F n c : Nat) (k : Int) (L : List Ent) (s : Bool) (t : Int) (w : World) (hM : Met w m F n c L s) (t1 : t < 18446744073709551616) :
    Calls Tryd.prog 9 #[.pointer (some ⟨m, 0, none⟩), .int .i64 k, .int .u64 t] w (MetEnd m F n c w (wait n L s k t)) := by
  have hh := hM.head
  have hs := hM.stop
  have hf := hM.few
  have M := Lib.hid hM
  cases hb : inR n k
  · have E := Lib.hid (show wait n L s k t = ⟨11, L, s⟩ by unfold wait; rw [if_neg (by rw [hb]; simp)])
    have H := Lib.hid hb
    clear hb hM
    go_enter Tryd.func9, Tryd.ntmps9
    go_wp2_with (go_at_call 22; refine (has_any m F n c _ _ hh).mono ?_; rintro e w' ⟨rfl, rfl⟩; rw [H.out])
    go_ret
    rw [E.out]
    exact ⟨rfl, M.out, Only.refl _ _⟩
  · cases s
    · obtain ⟨q, rfl, hq⟩ := inR_yes hb
      by_cases h : t ≤ clk L q
      · have E := Lib.hid (show wait n L false q t = ⟨0, L, false⟩ by unfold wait; rw [if_pos hb, if_neg (by simp)]; exact if_pos h)
        have H := Lib.hid hb
        have hc := hM.cell q 0 hq (by decide)
        rw [Nat.add_zero, zL_clk] at hc
        have d0 : decide (t ≤ clk L q) = true := by simpa using h
        clear hb hM
        go_enter Tryd.func9, Tryd.ntmps9
        go_wp2_with (go_at_call 22; refine (has_any m F n c _ _ hh).mono ?_; rintro e w' ⟨rfl, rfl⟩; rw [H.out])
        go_ret
        rw [E.out]
        exact ⟨rfl, M.out, Only.refl _ _⟩
      · have E : wait n L false q t = on L q 0 (t - clk L q) := by unfold wait; rw [if_pos hb, if_neg (by simp)]; exact if_neg h
        rw [E]
        exact wait_run m F n c q L t w hM hq (by omega) t1
    · have E := Lib.hid (show wait n L true k t = ⟨22, L, true⟩ by unfold wait; rw [if_pos hb]; rfl)
      have H := Lib.hid hb
      clear hb hM
      go_enter Tryd.func9, Tryd.ntmps9
      go_wp2_with (go_at_call 22; refine (has_any m F n c _ _ hh).mono ?_; rintro e w' ⟨rfl, rfl⟩; rw [H.out])
      go_ret
      rw [E.out]
      exact ⟨rfl, M.out, Only.refl _ _⟩
/-! ### A new meter -/
/-- A core's noughts. -/
def zeroL : List Value := List.replicate 11 (.int .u64 0)
theorem infoA : (Tryd.prog.info? 52).map (fun i => (i.zero, i.size, i.bytes)) = some (some (.agg zeroL.toArray), 11, 88) := by kernel_rfl
theorem zeroL_at (j : Nat) (h : j < 11) : zeroL[j]? = some (.int .u64 0) := by unfold zeroL; rw [List.getElem?_replicate, if_pos h]
theorem made_cores (n : Nat) (wx : World) (hn : n ≤ 4) :
    (Instr.makeSlice 46 (.int .i64 (n : Int)) (.int .i64 (n : Int))).run Tryd.prog wx = .ok (.slice (some ⟨wx.heap.size, 0, none⟩) n n) (wx.alloc (.cells (madeCells zeroL.toArray (n * 11)) 52)) := by
  obtain ⟨i, hi, hz0, hz1, hz2⟩ := info_parts infoA
  have hr := run_make (P := Tryd.prog) wx 46 52 i _ Tryd.underlying46 hi hz0 .i64 .i64 n n (by omega) (Int.le_refl _) (by rw [hz2]; omega) (by omega)
  simp only [Int.toNat_natCast, hz1] at hr
  exact hr
theorem made_cell (n : Nat) (w : World) (k i : Nat) (hk : k < n) (hi : i < 11) : (w.alloc (.cells (madeCells zeroL.toArray (n * 11)) 52)).cell? ⟨w.heap.size, k * 11 + i, none⟩ = some (.int .u64 0) := by
  rw [World.cell?_alloc_new]
  unfold madeCells
  rw [Array.getElem?_map, Array.getElem?_range, if_pos (by omega)]
  have e : zeroL.toArray.size = 11 := rfl
  have := zeroL_at ((k * 11 + i) % 11) (by omega)
  simp only [Option.map_some, e]
  rw [getElem!_def, List.getElem?_toArray, this]
theorem new_run (n : Nat) (w : World) (h1 : 1 ≤ n) (hn : n ≤ 4) :
    Calls Tryd.prog 8 #[.int .i64 n] w fun e w' => e = .returned (.tuple #[.pointer (some ⟨w.heap.size + 1, 0, none⟩), .int .i64 0]) ∧
      w' = (w.alloc (.cells (madeCells zeroL.toArray (n * 11)) 52)).alloc (.cells #[.slice (some ⟨w.heap.size, 0, none⟩) n n, .bool false] 48) := by
  have d1 : decide ((n : Int) < 1) = false := by simp; omega
  have d2 : decide ((4 : Int) < (n : Int)) = false := by simp; omega
  have hmk := fun wx => made_cores n wx hn
  go_enter Tryd.func8, Tryd.ntmps8
  go_wp2
  go_ret2
  exact ⟨rfl, rfl⟩
theorem new_no (n : Int) (w : World) (h : n < 1 ∨ 4 < n) :
    Calls Tryd.prog 8 #[.int .i64 n] w fun e w' => e = .returned (.tuple #[.pointer none, .int .i64 11]) ∧ w = w' := by
  by_cases h1 : n < 1
  · have d1 : decide (n < 1) = true := by simpa using h1
    clear h
    go_enter Tryd.func8, Tryd.ntmps8
    go_wp2
    go_ret2
    exact ⟨rfl, rfl⟩
  · have d1 : decide (n < 1) = false := by simpa using h1
    have d2 : decide (4 < n) = true := by simp; omega
    clear h
    go_enter Tryd.func8, Tryd.ntmps8
    go_wp2
    go_ret2
    exact ⟨rfl, rfl⟩
/-- How a call that makes a meter ends. -/
def NewEnd (n : Nat) (w : World) (e : Ending) (w' : World) : Prop :=
  ∃ m F c, e = .returned (.tuple #[.pointer (some ⟨m, 0, none⟩), .int .i64 0]) ∧ Met w' m F n c [] false ∧ Only [] w w' ∧ w.heap.size ≤ m ∧ w.heap.size ≤ F
theorem good_nil (n : Nat) : Good n [] := { ent := fun _ he => absurd he List.not_mem_nil, clk := fun _ => (by decide : (0 : Int) ≤ 4611686018427387904) }
theorem zL_nil (k i : Nat) : zL [] k i = 0 := by
  unfold zL
  split
  · rfl
  · split
    · rfl
    · split <;> rfl
theorem new_any (n : Nat) (w : World) (h1 : 1 ≤ n) (hn : n ≤ 4) : Calls Tryd.prog 8 #[.int .i64 n] w (NewEnd n w) := by
  refine (new_run n w h1 hn).mono ?_
  rintro e w' ⟨rfl, rfl⟩
  have ho := Only.alloc [] w (.cells (madeCells zeroL.toArray (n * 11)) 52)
  have ho2 := Only.alloc [] (w.alloc (.cells (madeCells zeroL.toArray (n * 11)) 52)) (.cells #[.slice (some ⟨w.heap.size, 0, none⟩) n n, .bool false] 48)
  refine ⟨w.heap.size + 1, w.heap.size, n, rfl, ⟨by simp, by simp; omega, by simp, by simp, by simp, fun k i hk hi => ?_, fun k i hk hi => ?_, by omega, hn, good_nil n⟩, ho.trans ho2, by omega, Nat.le_refl _⟩
  · rw [ho2.cell (by simp) (by simp), made_cell n w k i hk hi, zL_nil]
  · rw [ho2.frozen (by simp) (by simp)]; exact World.frozen?_alloc_new w _ _ _
end Mt
end Go.Proofs.YtalaalpafafpbaaDoor
