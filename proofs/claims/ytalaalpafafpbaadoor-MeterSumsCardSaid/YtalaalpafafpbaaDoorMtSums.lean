/-
  MeterSums: a clock is the sum of what was spent and idle, never falls, and never goes beyond the end: for every input true, and the input reads as it did. Condition: what the program's text lays (the table of costs).
-/
import Derived.Test.YtalaalpafafpbaaDoorMtOpen
namespace Go.Proofs.YtalaalpafafpbaaDoor
open Go.ChangeShapes Go.WideShapes Go.ChangeAt Go.RowKit Go.Deep
namespace Mt
/-! ### What a call comes to -/
/-- What a call that waits, or charges, comes to. -/
def step (n : Nat) (L : List Ent) (s : Bool) (u : Bool) (k j t : Int) : Res := if u = true then wait n L s k t else charge n L s k j t
/-- What holds of whatever a call comes to. -/
structure Just (n : Nat) (L : List Ent) (s : Bool) (r : Res) : Prop where
  mono : ∀ k, clk L k ≤ clk r.L k
  held : s = true → r.e ≠ 0 ∧ r.L = L
  ends : r.e = 22 → r.s = true
theorem fair_same (n : Nat) (L : List Ent) (s : Bool) (e : Int) (h : s = true → e ≠ 0) (h2 : e = 22 → s = true) : Just n L s ⟨e, L, s⟩ := ⟨fun _ => Int.le_refl _, fun g => ⟨h g, rfl⟩, h2⟩
theorem fair_on (n : Nat) (L : List Ent) (k j : Nat) (x : Int) (hg : Good n L) (x0 : 0 ≤ x) : Just n L false (on L k j x) := by
  have hb := cut_bounds hg k x x0
  refine ⟨fun q => ?_, (by intro h; cases h), fun h => ?_⟩
  · show clk L q ≤ clk (L ++ [⟨k, j, cut L k x⟩]) q
    rw [clk_add]
    split <;> omega
  · show onS L k x = true
    have h : st (onS L k x) = 22 := h
    cases g : onS L k x
    · rw [g] at h; exact absurd h (by decide)
    · rfl
theorem fair_step (n : Nat) (L : List Ent) (s u : Bool) (k j t : Int) (hg : Good n L) (t0 : 0 ≤ t) : Just n L s (step n L s u k j t) := by
  unfold step
  cases u
  · rw [if_neg (by decide)]
    unfold charge
    split
    · cases s
      · exact fair_on n L _ _ _ hg (amt_bounds j t t0).1
      · exact fair_same n L true 22 (by decide) (fun _ => rfl)
    · exact fair_same n L s 11 (fun _ => by decide) (fun h => absurd h (by decide))
  · rw [if_pos rfl]
    unfold wait
    split
    · cases s
      · rw [if_neg (by decide)]
        split
        · exact fair_same n L false 0 (fun h => by cases h) (fun h => absurd h (by decide))
        · exact fair_on n L _ _ _ hg (by omega)
      · exact fair_same n L true 22 (by decide) (fun _ => rfl)
    · exact fair_same n L s 11 (fun _ => by decide) (fun h => absurd h (by decide))
theorem Just.clkA {n : Nat} {L : List Ent} {s : Bool} {r : Res} (h : Just n L s r) (k : Int) : Mt.clkA n L k ≤ Mt.clkA n r.L k := by
  unfold Mt.clkA
  split
  · exact h.mono _
  · exact Int.le_refl _
/-- The sum of the first kinds. -/
def sumK (L : List Ent) (k : Nat) : Nat → Int
  | 0 => 0
  | j + 1 => sumK L k j + knd L k j
theorem sumK_eq (L : List Ent) (k J : Nat) : sumK L k J = sumL (fun e => e.core == k && decide (e.kind < J)) L := by
  induction J with
  | zero =>
    show 0 = _
    induction L with
    | nil => rfl
    | cons e r ih => simp only [sumL]; rw [← ih]; simp
  | succ J ih =>
    show sumK L k J + knd L k J = _
    rw [ih]
    unfold knd
    clear ih
    induction L with
    | nil => rfl
    | cons e r ih =>
      simp only [sumL]
      rw [← ih]
      by_cases h1 : e.core = k
      · by_cases h2 : e.kind = J
        · simp [h1, h2]; omega
        · by_cases h3 : e.kind < J
          · simp [h1, h2, h3, show e.kind < J + 1 by omega]; omega
          · simp [h1, h2, h3, show ¬ e.kind < J + 1 by omega]
      · simp [h1]
theorem sumK_all {n : Nat} {L : List Ent} (h : Good n L) (k : Nat) : sumK L k 9 = clk L k := by
  rw [sumK_eq]
  unfold clk
  have he := h.ent
  clear h
  induction L with
  | nil => rfl
  | cons e r ih =>
    have h1 := he e (List.mem_cons_self ..)
    simp only [sumL]
    rw [ih (fun x hx => he x (List.mem_cons_of_mem _ hx))]
    simp [show e.kind < 9 by omega]
theorem sumK_bounds {n : Nat} {L : List Ent} (h : Good n L) (k J : Nat) : 0 ≤ sumK L k J ∧ sumK L k J ≤ 4611686018427387904 := by
  rw [sumK_eq]
  refine ⟨sumL_nonneg _ _ (fun e he => (h.ent e he).2.2), Int.le_trans (sumL_le _ (fun e => e.core == k) _ (fun e he => (h.ent e he).2.2) (fun e he => by simp at he; simp [he.1])) (h.clk k)⟩
end Mt
namespace meterSums
open Mt
set_option maxRecDepth 100000 in
set_option maxHeartbeats 2000000 in
theorem walk (pc : Option Addr) (len cap : Nat) (x : Cs) (w : World) (hl : len ≤ maxLen) (hc : Mt.CallsIn w.heap.size w pc len x) (hC : Costs w) :
    Calls Tryd.prog 4 #[.slice pc len cap] w fun e w' => e = .returned (.bool true) ∧ Only [] w w' := by
  unfold maxLen at hl
  have HC := Lib.hid hc
  have C0 := Lib.hid hC
  have hg := hC.1
  clear hc hC
  go_enter Tryd.func4, Tryd.ntmps4
  by_cases h60 : 60 < len
  · have d : decide ((60 : Int) < (len : Int)) = true := by simp; omega
    go_wp2_with (go_at_call 7; refine (alive_any _ C0.out).mono ?_; rintro e w0 ⟨rfl, O0⟩)
    go_ret
    exact ⟨rfl, O0⟩
  have d : decide ((60 : Int) < (len : Int)) = false := by simp; omega
  go_wp2_with (go_at_call 7; refine (alive_any _ C0.out).mono ?_; rintro e w0 ⟨rfl, O0⟩)
  refine (new_any 3 w0 (by decide) (by decide)).mono ?_
  rintro e w1 ⟨m, F, c, rfl, hM, hO, hm, hF⟩
  have M1 := Lib.hid hM
  have O1 := Lib.hid (O0.next hO (by simp))
  have s0 := O0.size
  clear hM hO O0
  go_wp2_with fail
  go_loopw [5, 6, 7, 8, 9, 10, 11, 12] (fun i _ _ _ _ _ _ _ wr => ∃ k : Nat, k ≤ len ∧ i = .int .i64 k ∧ (∃ L s, Met wr m F 3 c L s) ∧ Only [] w wr) (fun i _ _ _ _ _ _ _ _ => len - (intOf i).toNat)
  case atStart => exact ⟨0, by omega, rfl, ⟨_, _, M1.out⟩, O1.out⟩
  case round =>
    obtain ⟨k, hk, rfl, ⟨L, s, hM⟩, hO⟩ := hrel
    have MH := Lib.hid hM
    have OH := Lib.hid hO
    clear hM hO M1 O1
    by_cases hlt : k < len
    · obtain ⟨b, off, epa, hbB, hcc⟩ := HC.out.kept OH.out (by simp) (by omega)
      subst epa
      have ck := hcc k hlt
      have c0 := ck.c0
      have c1 := ck.c1
      have c2 := ck.c2
      have c3 := ck.c3
      have t0 := ck.t0
      have t1 := ck.t1
      have CH := Lib.hid (C0.out.kept OH.out (by simp))
      have lm := MH.out.lt
      have lF := MH.out.ltF
      clear hcc ck
      go_wp2_with fail
      have ha := Only.alloc [] wr (.cells #[.int .i64 (x.co k), .int .i64 (x.kd k), .int .u64 (x.ti k), .bool (x.wt k)] 35)
      have MA := Lib.hid (MH.out.kept ha (by simp) (by simp))
      have OA := Lib.hid (OH.out.next ha (by simp))
      have CA := Lib.hid (CH.out.kept ha (by simp))
      have a0 : (wr.alloc (.cells #[.int .i64 (x.co k), .int .i64 (x.kd k), .int .u64 (x.ti k), .bool (x.wt k)] 35)).cell? ⟨wr.heap.size, 0, none⟩ = some (.int .i64 (x.co k)) := by simp
      have a1 : (wr.alloc (.cells #[.int .i64 (x.co k), .int .i64 (x.kd k), .int .u64 (x.ti k), .bool (x.wt k)] 35)).cell? ⟨wr.heap.size, 1, none⟩ = some (.int .i64 (x.kd k)) := by simp
      have a2 : (wr.alloc (.cells #[.int .i64 (x.co k), .int .i64 (x.kd k), .int .u64 (x.ti k), .bool (x.wt k)] 35)).cell? ⟨wr.heap.size, 2, none⟩ = some (.int .u64 (x.ti k)) := by simp
      have a3 : (wr.alloc (.cells #[.int .i64 (x.co k), .int .i64 (x.kd k), .int .u64 (x.ti k), .bool (x.wt k)] 35)).cell? ⟨wr.heap.size, 3, none⟩ = some (.bool (x.wt k)) := by simp
      have la : wr.heap.size < (wr.alloc (.cells #[.int .i64 (x.co k), .int .i64 (x.kd k), .int .u64 (x.ti k), .bool (x.wt k)] 35)).heap.size := by simp
      clear ha MH OH c0 c1 c2 c3
      generalize (wr.alloc (.cells #[.int .i64 (x.co k), .int .i64 (x.kd k), .int .u64 (x.ti k), .bool (x.wt k)] 35)) = wa at *
      refine (clock_any m F 3 c L s (x.co k) wa MA.out).mono ?_
      rintro _ w' ⟨rfl, rfl⟩
      go_wp2_with fail
      refine (stopped_any m s wa MA.out.stop).mono ?_
      rintro _ w' ⟨rfl, rfl⟩
      cases hu : x.wt k
      · rw [hu] at a3
        go_wp2_with fail
        have FR : Just 3 L s (charge 3 L s (x.co k) (x.kd k) (x.ti k)) := fair_step 3 L s false (x.co k) (x.kd k) (x.ti k) MA.out.good t0
        refine (charge_any m F 3 c (x.co k) (x.kd k) L s (x.ti k) wa MA.out CA.out t0 t1).mono ?_
        rintro _ w2 ⟨rfl, hM, hO⟩
        generalize charge 3 L s (x.co k) (x.kd k) (x.ti k) = r at *
        obtain ⟨e, L', s'⟩ := r
        have M2 := Lib.hid hM
        have O2 := Lib.hid (OA.out.next hO (by simp; omega))
        have b0 := (hO.cell (b := wr.heap.size) (by omega) (by simp; omega) 0).trans a0
        have F2 := Lib.hid FR
        have d1 : decide (clkA 3 L' (x.co k) < clkA 3 L (x.co k)) = false := by have := FR.clkA (x.co k); simp; omega
        have hsE : s = true → (e == 0) = false ∧ (clkA 3 L' (x.co k) != clkA 3 L (x.co k)) = false := fun h => by
          have := FR.held h
          have e1 : L' = L := this.2
          have e2 : e ≠ 0 := this.1
          exact ⟨by simpa using e2, by rw [e1]; simp⟩
        have hsF : (e == 22) = true → s' = true := fun h => FR.ends (by simpa using h)
        have K := Lib.hid hsE
        have K2 := Lib.hid hsF
        clear hM hO FR hsE hsF MA OA CA a0 a1 a2 a3 HC C0 CH
        have FIN : Hid (∀ P : Prop, (s = false → (e == 22) = false → P) → (s = false → (e == 22) = true → s' = true → P) → (s = true → (e == 0) = false → (clkA 3 L' (x.co k) != clkA 3 L (x.co k)) = false → (e == 22) = false → P) → (s = true → (e == 0) = false → (clkA 3 L' (x.co k) != clkA 3 L (x.co k)) = false → (e == 22) = true → s' = true → P) → P) := fun P h1 h2 h3 h4 => by
          cases s
          · cases g : (e == 22)
            · exact h1 rfl g
            · exact h2 rfl g (K2.out g)
          · cases g : (e == 22)
            · exact h3 rfl (K.out rfl).1 (K.out rfl).2 g
            · exact h4 rfl (K.out rfl).1 (K.out rfl).2 g (K2.out g)
        clear K K2 F2
        go_wp2_with fail
        refine (clock_any m F 3 c L' s' (x.co k) w2 M2.out).mono ?_
        rintro _ w' ⟨rfl, rfl⟩
        refine FIN.out _ ?_ ?_ ?_ ?_
        · intro es g1
          subst es
          go_wp2_with (first | (go_at_call 14; refine (clock_any m F 3 c L' _ (x.co k) _ M2.out).mono ?_; rintro _ w' ⟨rfl, rfl⟩) | (go_at_call 13; refine (stopped_any m _ _ M2.out.stop).mono ?_; rintro _ w' ⟨rfl, rfl⟩))
          go_loop [10, 11, 12] (fun q _ _ => ∃ j : Nat, j ≤ 3 ∧ q = .int .i64 j) (fun q _ _ => 3 - (intOf q).toNat)
          case atStart => exact ⟨0, by omega, rfl⟩
          case round =>
            obtain ⟨j, hj, rfl⟩ := hrel
            by_cases hj3 : j < 3
            · have iq : idleA 3 L' j = sumK L' j 1 := by unfold idleA; rw [if_pos (inR_nat 3 j hj3)]; show knd L' j 0 = 0 + knd L' j 0; omega
              go_wp2_with (go_at_call 16; refine (idle_any m F 3 c L' _ j _ M2.out).mono ?_; rintro _ w' ⟨rfl, rfl⟩; rw [iq])
              go_loop [11, 12] (fun sm kd => ∃ i : Nat, 1 ≤ i ∧ i ≤ 9 ∧ kd = .int .i64 i ∧ sm = .int .u64 (sumK L' j i)) (fun _ kd => 9 - (intOf kd).toNat)
              case atStart => exact ⟨1, by omega, by omega, rfl, rfl⟩
              case round =>
                obtain ⟨i, hi1, hi9, rfl, rfl⟩ := hrel
                by_cases hi8 : i ≤ 8
                · have sp : spentA 3 L' j i = knd L' j i := by unfold spentA; rw [if_pos ⟨inR_nat 3 j hj3, by omega, by omega⟩]; rfl
                  have e1 : sumK L' j (i + 1) = sumK L' j i + knd L' j i := rfl
                  have sb := sumK_bounds M2.out.good j (i + 1)
                  have sb0 := sumK_bounds M2.out.good j i
                  have kb := M2.out.good.knd0 j i
                  rw [e1] at sb
                  have E1 := Lib.hid e1
                  clear e1
                  go_wp2_with (go_at_call 18; refine (spent_any m F 3 c L' _ j i _ M2.out).mono ?_; rintro _ w' ⟨rfl, rfl⟩; rw [sp])
                  go_round
                  case rel => exact ⟨i + 1, by omega, by omega, by go_num, by rw [E1.out]⟩
                  case measure => simp [intOf]; omega
                · have e9 : i = 9 := by omega
                  subst e9
                  have cq : clkA 3 L' j = clk L' j := by unfold clkA; rw [if_pos (inR_nat 3 j hj3)]; rfl
                  have sa := sumK_all M2.out.good j
                  have sb := M2.out.good.clk j
                  rw [sa]
                  have nx : (clk L' j != clk L' j) = false := by simp
                  have gx : decide ((4611686018427387904 : Int) < clk L' j) = false := by simp; omega
                  clear sa
                  go_wp2_with (go_at_call 14; refine (clock_any m F 3 c L' _ j _ M2.out).mono ?_; rintro _ w' ⟨rfl, rfl⟩; rw [cq])
                  go_round
                  case rel => exact ⟨j + 1, by omega, by go_num⟩
                  case measure => simp [intOf]; omega
            · go_wp2
              go_roundw
              case rel => exact ⟨k + 1, by omega, by go_num, ⟨_, _, M2.out⟩, O2.out⟩
              case measure => simp [intOf]; omega
        · intro es g1 g2
          subst es g2
          go_wp2_with (first | (go_at_call 14; refine (clock_any m F 3 c L' _ (x.co k) _ M2.out).mono ?_; rintro _ w' ⟨rfl, rfl⟩) | (go_at_call 13; refine (stopped_any m _ _ M2.out.stop).mono ?_; rintro _ w' ⟨rfl, rfl⟩))
          go_loop [10, 11, 12] (fun q _ _ => ∃ j : Nat, j ≤ 3 ∧ q = .int .i64 j) (fun q _ _ => 3 - (intOf q).toNat)
          case atStart => exact ⟨0, by omega, rfl⟩
          case round =>
            obtain ⟨j, hj, rfl⟩ := hrel
            by_cases hj3 : j < 3
            · have iq : idleA 3 L' j = sumK L' j 1 := by unfold idleA; rw [if_pos (inR_nat 3 j hj3)]; show knd L' j 0 = 0 + knd L' j 0; omega
              go_wp2_with (go_at_call 16; refine (idle_any m F 3 c L' _ j _ M2.out).mono ?_; rintro _ w' ⟨rfl, rfl⟩; rw [iq])
              go_loop [11, 12] (fun sm kd => ∃ i : Nat, 1 ≤ i ∧ i ≤ 9 ∧ kd = .int .i64 i ∧ sm = .int .u64 (sumK L' j i)) (fun _ kd => 9 - (intOf kd).toNat)
              case atStart => exact ⟨1, by omega, by omega, rfl, rfl⟩
              case round =>
                obtain ⟨i, hi1, hi9, rfl, rfl⟩ := hrel
                by_cases hi8 : i ≤ 8
                · have sp : spentA 3 L' j i = knd L' j i := by unfold spentA; rw [if_pos ⟨inR_nat 3 j hj3, by omega, by omega⟩]; rfl
                  have e1 : sumK L' j (i + 1) = sumK L' j i + knd L' j i := rfl
                  have sb := sumK_bounds M2.out.good j (i + 1)
                  have sb0 := sumK_bounds M2.out.good j i
                  have kb := M2.out.good.knd0 j i
                  rw [e1] at sb
                  have E1 := Lib.hid e1
                  clear e1
                  go_wp2_with (go_at_call 18; refine (spent_any m F 3 c L' _ j i _ M2.out).mono ?_; rintro _ w' ⟨rfl, rfl⟩; rw [sp])
                  go_round
                  case rel => exact ⟨i + 1, by omega, by omega, by go_num, by rw [E1.out]⟩
                  case measure => simp [intOf]; omega
                · have e9 : i = 9 := by omega
                  subst e9
                  have cq : clkA 3 L' j = clk L' j := by unfold clkA; rw [if_pos (inR_nat 3 j hj3)]; rfl
                  have sa := sumK_all M2.out.good j
                  have sb := M2.out.good.clk j
                  rw [sa]
                  have nx : (clk L' j != clk L' j) = false := by simp
                  have gx : decide ((4611686018427387904 : Int) < clk L' j) = false := by simp; omega
                  clear sa
                  go_wp2_with (go_at_call 14; refine (clock_any m F 3 c L' _ j _ M2.out).mono ?_; rintro _ w' ⟨rfl, rfl⟩; rw [cq])
                  go_round
                  case rel => exact ⟨j + 1, by omega, by go_num⟩
                  case measure => simp [intOf]; omega
            · go_wp2
              go_roundw
              case rel => exact ⟨k + 1, by omega, by go_num, ⟨_, _, M2.out⟩, O2.out⟩
              case measure => simp [intOf]; omega
        · intro es g0 gc g1
          subst es
          go_wp2_with (first | (go_at_call 14; refine (clock_any m F 3 c L' _ (x.co k) _ M2.out).mono ?_; rintro _ w' ⟨rfl, rfl⟩) | (go_at_call 13; refine (stopped_any m _ _ M2.out.stop).mono ?_; rintro _ w' ⟨rfl, rfl⟩))
          go_loop [10, 11, 12] (fun q _ _ => ∃ j : Nat, j ≤ 3 ∧ q = .int .i64 j) (fun q _ _ => 3 - (intOf q).toNat)
          case atStart => exact ⟨0, by omega, rfl⟩
          case round =>
            obtain ⟨j, hj, rfl⟩ := hrel
            by_cases hj3 : j < 3
            · have iq : idleA 3 L' j = sumK L' j 1 := by unfold idleA; rw [if_pos (inR_nat 3 j hj3)]; show knd L' j 0 = 0 + knd L' j 0; omega
              go_wp2_with (go_at_call 16; refine (idle_any m F 3 c L' _ j _ M2.out).mono ?_; rintro _ w' ⟨rfl, rfl⟩; rw [iq])
              go_loop [11, 12] (fun sm kd => ∃ i : Nat, 1 ≤ i ∧ i ≤ 9 ∧ kd = .int .i64 i ∧ sm = .int .u64 (sumK L' j i)) (fun _ kd => 9 - (intOf kd).toNat)
              case atStart => exact ⟨1, by omega, by omega, rfl, rfl⟩
              case round =>
                obtain ⟨i, hi1, hi9, rfl, rfl⟩ := hrel
                by_cases hi8 : i ≤ 8
                · have sp : spentA 3 L' j i = knd L' j i := by unfold spentA; rw [if_pos ⟨inR_nat 3 j hj3, by omega, by omega⟩]; rfl
                  have e1 : sumK L' j (i + 1) = sumK L' j i + knd L' j i := rfl
                  have sb := sumK_bounds M2.out.good j (i + 1)
                  have sb0 := sumK_bounds M2.out.good j i
                  have kb := M2.out.good.knd0 j i
                  rw [e1] at sb
                  have E1 := Lib.hid e1
                  clear e1
                  go_wp2_with (go_at_call 18; refine (spent_any m F 3 c L' _ j i _ M2.out).mono ?_; rintro _ w' ⟨rfl, rfl⟩; rw [sp])
                  go_round
                  case rel => exact ⟨i + 1, by omega, by omega, by go_num, by rw [E1.out]⟩
                  case measure => simp [intOf]; omega
                · have e9 : i = 9 := by omega
                  subst e9
                  have cq : clkA 3 L' j = clk L' j := by unfold clkA; rw [if_pos (inR_nat 3 j hj3)]; rfl
                  have sa := sumK_all M2.out.good j
                  have sb := M2.out.good.clk j
                  rw [sa]
                  have nx : (clk L' j != clk L' j) = false := by simp
                  have gx : decide ((4611686018427387904 : Int) < clk L' j) = false := by simp; omega
                  clear sa
                  go_wp2_with (go_at_call 14; refine (clock_any m F 3 c L' _ j _ M2.out).mono ?_; rintro _ w' ⟨rfl, rfl⟩; rw [cq])
                  go_round
                  case rel => exact ⟨j + 1, by omega, by go_num⟩
                  case measure => simp [intOf]; omega
            · go_wp2
              go_roundw
              case rel => exact ⟨k + 1, by omega, by go_num, ⟨_, _, M2.out⟩, O2.out⟩
              case measure => simp [intOf]; omega
        · intro es g0 gc g1 g2
          subst es g2
          go_wp2_with (first | (go_at_call 14; refine (clock_any m F 3 c L' _ (x.co k) _ M2.out).mono ?_; rintro _ w' ⟨rfl, rfl⟩) | (go_at_call 13; refine (stopped_any m _ _ M2.out.stop).mono ?_; rintro _ w' ⟨rfl, rfl⟩))
          go_loop [10, 11, 12] (fun q _ _ => ∃ j : Nat, j ≤ 3 ∧ q = .int .i64 j) (fun q _ _ => 3 - (intOf q).toNat)
          case atStart => exact ⟨0, by omega, rfl⟩
          case round =>
            obtain ⟨j, hj, rfl⟩ := hrel
            by_cases hj3 : j < 3
            · have iq : idleA 3 L' j = sumK L' j 1 := by unfold idleA; rw [if_pos (inR_nat 3 j hj3)]; show knd L' j 0 = 0 + knd L' j 0; omega
              go_wp2_with (go_at_call 16; refine (idle_any m F 3 c L' _ j _ M2.out).mono ?_; rintro _ w' ⟨rfl, rfl⟩; rw [iq])
              go_loop [11, 12] (fun sm kd => ∃ i : Nat, 1 ≤ i ∧ i ≤ 9 ∧ kd = .int .i64 i ∧ sm = .int .u64 (sumK L' j i)) (fun _ kd => 9 - (intOf kd).toNat)
              case atStart => exact ⟨1, by omega, by omega, rfl, rfl⟩
              case round =>
                obtain ⟨i, hi1, hi9, rfl, rfl⟩ := hrel
                by_cases hi8 : i ≤ 8
                · have sp : spentA 3 L' j i = knd L' j i := by unfold spentA; rw [if_pos ⟨inR_nat 3 j hj3, by omega, by omega⟩]; rfl
                  have e1 : sumK L' j (i + 1) = sumK L' j i + knd L' j i := rfl
                  have sb := sumK_bounds M2.out.good j (i + 1)
                  have sb0 := sumK_bounds M2.out.good j i
                  have kb := M2.out.good.knd0 j i
                  rw [e1] at sb
                  have E1 := Lib.hid e1
                  clear e1
                  go_wp2_with (go_at_call 18; refine (spent_any m F 3 c L' _ j i _ M2.out).mono ?_; rintro _ w' ⟨rfl, rfl⟩; rw [sp])
                  go_round
                  case rel => exact ⟨i + 1, by omega, by omega, by go_num, by rw [E1.out]⟩
                  case measure => simp [intOf]; omega
                · have e9 : i = 9 := by omega
                  subst e9
                  have cq : clkA 3 L' j = clk L' j := by unfold clkA; rw [if_pos (inR_nat 3 j hj3)]; rfl
                  have sa := sumK_all M2.out.good j
                  have sb := M2.out.good.clk j
                  rw [sa]
                  have nx : (clk L' j != clk L' j) = false := by simp
                  have gx : decide ((4611686018427387904 : Int) < clk L' j) = false := by simp; omega
                  clear sa
                  go_wp2_with (go_at_call 14; refine (clock_any m F 3 c L' _ j _ M2.out).mono ?_; rintro _ w' ⟨rfl, rfl⟩; rw [cq])
                  go_round
                  case rel => exact ⟨j + 1, by omega, by go_num⟩
                  case measure => simp [intOf]; omega
            · go_wp2
              go_roundw
              case rel => exact ⟨k + 1, by omega, by go_num, ⟨_, _, M2.out⟩, O2.out⟩
              case measure => simp [intOf]; omega
      · rw [hu] at a3
        go_wp2_with fail
        have FR : Just 3 L s (wait 3 L s (x.co k) (x.ti k)) := fair_step 3 L s true (x.co k) (x.kd k) (x.ti k) MA.out.good t0
        refine (wait_any m F 3 c (x.co k) L s (x.ti k) wa MA.out t1).mono ?_
        rintro _ w2 ⟨rfl, hM, hO⟩
        generalize wait 3 L s (x.co k) (x.ti k) = r at *
        obtain ⟨e, L', s'⟩ := r
        have M2 := Lib.hid hM
        have O2 := Lib.hid (OA.out.next hO (by simp; omega))
        have b0 := (hO.cell (b := wr.heap.size) (by omega) (by simp; omega) 0).trans a0
        have F2 := Lib.hid FR
        have d1 : decide (clkA 3 L' (x.co k) < clkA 3 L (x.co k)) = false := by have := FR.clkA (x.co k); simp; omega
        have hsE : s = true → (e == 0) = false ∧ (clkA 3 L' (x.co k) != clkA 3 L (x.co k)) = false := fun h => by
          have := FR.held h
          have e1 : L' = L := this.2
          have e2 : e ≠ 0 := this.1
          exact ⟨by simpa using e2, by rw [e1]; simp⟩
        have hsF : (e == 22) = true → s' = true := fun h => FR.ends (by simpa using h)
        have K := Lib.hid hsE
        have K2 := Lib.hid hsF
        clear hM hO FR hsE hsF MA OA CA a0 a1 a2 a3 HC C0 CH
        have FIN : Hid (∀ P : Prop, (s = false → (e == 22) = false → P) → (s = false → (e == 22) = true → s' = true → P) → (s = true → (e == 0) = false → (clkA 3 L' (x.co k) != clkA 3 L (x.co k)) = false → (e == 22) = false → P) → (s = true → (e == 0) = false → (clkA 3 L' (x.co k) != clkA 3 L (x.co k)) = false → (e == 22) = true → s' = true → P) → P) := fun P h1 h2 h3 h4 => by
          cases s
          · cases g : (e == 22)
            · exact h1 rfl g
            · exact h2 rfl g (K2.out g)
          · cases g : (e == 22)
            · exact h3 rfl (K.out rfl).1 (K.out rfl).2 g
            · exact h4 rfl (K.out rfl).1 (K.out rfl).2 g (K2.out g)
        clear K K2 F2
        go_wp2_with fail
        refine (clock_any m F 3 c L' s' (x.co k) w2 M2.out).mono ?_
        rintro _ w' ⟨rfl, rfl⟩
        refine FIN.out _ ?_ ?_ ?_ ?_
        · intro es g1
          subst es
          go_wp2_with (first | (go_at_call 14; refine (clock_any m F 3 c L' _ (x.co k) _ M2.out).mono ?_; rintro _ w' ⟨rfl, rfl⟩) | (go_at_call 13; refine (stopped_any m _ _ M2.out.stop).mono ?_; rintro _ w' ⟨rfl, rfl⟩))
          go_loop [10, 11, 12] (fun q _ _ => ∃ j : Nat, j ≤ 3 ∧ q = .int .i64 j) (fun q _ _ => 3 - (intOf q).toNat)
          case atStart => exact ⟨0, by omega, rfl⟩
          case round =>
            obtain ⟨j, hj, rfl⟩ := hrel
            by_cases hj3 : j < 3
            · have iq : idleA 3 L' j = sumK L' j 1 := by unfold idleA; rw [if_pos (inR_nat 3 j hj3)]; show knd L' j 0 = 0 + knd L' j 0; omega
              go_wp2_with (go_at_call 16; refine (idle_any m F 3 c L' _ j _ M2.out).mono ?_; rintro _ w' ⟨rfl, rfl⟩; rw [iq])
              go_loop [11, 12] (fun sm kd => ∃ i : Nat, 1 ≤ i ∧ i ≤ 9 ∧ kd = .int .i64 i ∧ sm = .int .u64 (sumK L' j i)) (fun _ kd => 9 - (intOf kd).toNat)
              case atStart => exact ⟨1, by omega, by omega, rfl, rfl⟩
              case round =>
                obtain ⟨i, hi1, hi9, rfl, rfl⟩ := hrel
                by_cases hi8 : i ≤ 8
                · have sp : spentA 3 L' j i = knd L' j i := by unfold spentA; rw [if_pos ⟨inR_nat 3 j hj3, by omega, by omega⟩]; rfl
                  have e1 : sumK L' j (i + 1) = sumK L' j i + knd L' j i := rfl
                  have sb := sumK_bounds M2.out.good j (i + 1)
                  have sb0 := sumK_bounds M2.out.good j i
                  have kb := M2.out.good.knd0 j i
                  rw [e1] at sb
                  have E1 := Lib.hid e1
                  clear e1
                  go_wp2_with (go_at_call 18; refine (spent_any m F 3 c L' _ j i _ M2.out).mono ?_; rintro _ w' ⟨rfl, rfl⟩; rw [sp])
                  go_round
                  case rel => exact ⟨i + 1, by omega, by omega, by go_num, by rw [E1.out]⟩
                  case measure => simp [intOf]; omega
                · have e9 : i = 9 := by omega
                  subst e9
                  have cq : clkA 3 L' j = clk L' j := by unfold clkA; rw [if_pos (inR_nat 3 j hj3)]; rfl
                  have sa := sumK_all M2.out.good j
                  have sb := M2.out.good.clk j
                  rw [sa]
                  have nx : (clk L' j != clk L' j) = false := by simp
                  have gx : decide ((4611686018427387904 : Int) < clk L' j) = false := by simp; omega
                  clear sa
                  go_wp2_with (go_at_call 14; refine (clock_any m F 3 c L' _ j _ M2.out).mono ?_; rintro _ w' ⟨rfl, rfl⟩; rw [cq])
                  go_round
                  case rel => exact ⟨j + 1, by omega, by go_num⟩
                  case measure => simp [intOf]; omega
            · go_wp2
              go_roundw
              case rel => exact ⟨k + 1, by omega, by go_num, ⟨_, _, M2.out⟩, O2.out⟩
              case measure => simp [intOf]; omega
        · intro es g1 g2
          subst es g2
          go_wp2_with (first | (go_at_call 14; refine (clock_any m F 3 c L' _ (x.co k) _ M2.out).mono ?_; rintro _ w' ⟨rfl, rfl⟩) | (go_at_call 13; refine (stopped_any m _ _ M2.out.stop).mono ?_; rintro _ w' ⟨rfl, rfl⟩))
          go_loop [10, 11, 12] (fun q _ _ => ∃ j : Nat, j ≤ 3 ∧ q = .int .i64 j) (fun q _ _ => 3 - (intOf q).toNat)
          case atStart => exact ⟨0, by omega, rfl⟩
          case round =>
            obtain ⟨j, hj, rfl⟩ := hrel
            by_cases hj3 : j < 3
            · have iq : idleA 3 L' j = sumK L' j 1 := by unfold idleA; rw [if_pos (inR_nat 3 j hj3)]; show knd L' j 0 = 0 + knd L' j 0; omega
              go_wp2_with (go_at_call 16; refine (idle_any m F 3 c L' _ j _ M2.out).mono ?_; rintro _ w' ⟨rfl, rfl⟩; rw [iq])
              go_loop [11, 12] (fun sm kd => ∃ i : Nat, 1 ≤ i ∧ i ≤ 9 ∧ kd = .int .i64 i ∧ sm = .int .u64 (sumK L' j i)) (fun _ kd => 9 - (intOf kd).toNat)
              case atStart => exact ⟨1, by omega, by omega, rfl, rfl⟩
              case round =>
                obtain ⟨i, hi1, hi9, rfl, rfl⟩ := hrel
                by_cases hi8 : i ≤ 8
                · have sp : spentA 3 L' j i = knd L' j i := by unfold spentA; rw [if_pos ⟨inR_nat 3 j hj3, by omega, by omega⟩]; rfl
                  have e1 : sumK L' j (i + 1) = sumK L' j i + knd L' j i := rfl
                  have sb := sumK_bounds M2.out.good j (i + 1)
                  have sb0 := sumK_bounds M2.out.good j i
                  have kb := M2.out.good.knd0 j i
                  rw [e1] at sb
                  have E1 := Lib.hid e1
                  clear e1
                  go_wp2_with (go_at_call 18; refine (spent_any m F 3 c L' _ j i _ M2.out).mono ?_; rintro _ w' ⟨rfl, rfl⟩; rw [sp])
                  go_round
                  case rel => exact ⟨i + 1, by omega, by omega, by go_num, by rw [E1.out]⟩
                  case measure => simp [intOf]; omega
                · have e9 : i = 9 := by omega
                  subst e9
                  have cq : clkA 3 L' j = clk L' j := by unfold clkA; rw [if_pos (inR_nat 3 j hj3)]; rfl
                  have sa := sumK_all M2.out.good j
                  have sb := M2.out.good.clk j
                  rw [sa]
                  have nx : (clk L' j != clk L' j) = false := by simp
                  have gx : decide ((4611686018427387904 : Int) < clk L' j) = false := by simp; omega
                  clear sa
                  go_wp2_with (go_at_call 14; refine (clock_any m F 3 c L' _ j _ M2.out).mono ?_; rintro _ w' ⟨rfl, rfl⟩; rw [cq])
                  go_round
                  case rel => exact ⟨j + 1, by omega, by go_num⟩
                  case measure => simp [intOf]; omega
            · go_wp2
              go_roundw
              case rel => exact ⟨k + 1, by omega, by go_num, ⟨_, _, M2.out⟩, O2.out⟩
              case measure => simp [intOf]; omega
        · intro es g0 gc g1
          subst es
          go_wp2_with (first | (go_at_call 14; refine (clock_any m F 3 c L' _ (x.co k) _ M2.out).mono ?_; rintro _ w' ⟨rfl, rfl⟩) | (go_at_call 13; refine (stopped_any m _ _ M2.out.stop).mono ?_; rintro _ w' ⟨rfl, rfl⟩))
          go_loop [10, 11, 12] (fun q _ _ => ∃ j : Nat, j ≤ 3 ∧ q = .int .i64 j) (fun q _ _ => 3 - (intOf q).toNat)
          case atStart => exact ⟨0, by omega, rfl⟩
          case round =>
            obtain ⟨j, hj, rfl⟩ := hrel
            by_cases hj3 : j < 3
            · have iq : idleA 3 L' j = sumK L' j 1 := by unfold idleA; rw [if_pos (inR_nat 3 j hj3)]; show knd L' j 0 = 0 + knd L' j 0; omega
              go_wp2_with (go_at_call 16; refine (idle_any m F 3 c L' _ j _ M2.out).mono ?_; rintro _ w' ⟨rfl, rfl⟩; rw [iq])
              go_loop [11, 12] (fun sm kd => ∃ i : Nat, 1 ≤ i ∧ i ≤ 9 ∧ kd = .int .i64 i ∧ sm = .int .u64 (sumK L' j i)) (fun _ kd => 9 - (intOf kd).toNat)
              case atStart => exact ⟨1, by omega, by omega, rfl, rfl⟩
              case round =>
                obtain ⟨i, hi1, hi9, rfl, rfl⟩ := hrel
                by_cases hi8 : i ≤ 8
                · have sp : spentA 3 L' j i = knd L' j i := by unfold spentA; rw [if_pos ⟨inR_nat 3 j hj3, by omega, by omega⟩]; rfl
                  have e1 : sumK L' j (i + 1) = sumK L' j i + knd L' j i := rfl
                  have sb := sumK_bounds M2.out.good j (i + 1)
                  have sb0 := sumK_bounds M2.out.good j i
                  have kb := M2.out.good.knd0 j i
                  rw [e1] at sb
                  have E1 := Lib.hid e1
                  clear e1
                  go_wp2_with (go_at_call 18; refine (spent_any m F 3 c L' _ j i _ M2.out).mono ?_; rintro _ w' ⟨rfl, rfl⟩; rw [sp])
                  go_round
                  case rel => exact ⟨i + 1, by omega, by omega, by go_num, by rw [E1.out]⟩
                  case measure => simp [intOf]; omega
                · have e9 : i = 9 := by omega
                  subst e9
                  have cq : clkA 3 L' j = clk L' j := by unfold clkA; rw [if_pos (inR_nat 3 j hj3)]; rfl
                  have sa := sumK_all M2.out.good j
                  have sb := M2.out.good.clk j
                  rw [sa]
                  have nx : (clk L' j != clk L' j) = false := by simp
                  have gx : decide ((4611686018427387904 : Int) < clk L' j) = false := by simp; omega
                  clear sa
                  go_wp2_with (go_at_call 14; refine (clock_any m F 3 c L' _ j _ M2.out).mono ?_; rintro _ w' ⟨rfl, rfl⟩; rw [cq])
                  go_round
                  case rel => exact ⟨j + 1, by omega, by go_num⟩
                  case measure => simp [intOf]; omega
            · go_wp2
              go_roundw
              case rel => exact ⟨k + 1, by omega, by go_num, ⟨_, _, M2.out⟩, O2.out⟩
              case measure => simp [intOf]; omega
        · intro es g0 gc g1 g2
          subst es g2
          go_wp2_with (first | (go_at_call 14; refine (clock_any m F 3 c L' _ (x.co k) _ M2.out).mono ?_; rintro _ w' ⟨rfl, rfl⟩) | (go_at_call 13; refine (stopped_any m _ _ M2.out.stop).mono ?_; rintro _ w' ⟨rfl, rfl⟩))
          go_loop [10, 11, 12] (fun q _ _ => ∃ j : Nat, j ≤ 3 ∧ q = .int .i64 j) (fun q _ _ => 3 - (intOf q).toNat)
          case atStart => exact ⟨0, by omega, rfl⟩
          case round =>
            obtain ⟨j, hj, rfl⟩ := hrel
            by_cases hj3 : j < 3
            · have iq : idleA 3 L' j = sumK L' j 1 := by unfold idleA; rw [if_pos (inR_nat 3 j hj3)]; show knd L' j 0 = 0 + knd L' j 0; omega
              go_wp2_with (go_at_call 16; refine (idle_any m F 3 c L' _ j _ M2.out).mono ?_; rintro _ w' ⟨rfl, rfl⟩; rw [iq])
              go_loop [11, 12] (fun sm kd => ∃ i : Nat, 1 ≤ i ∧ i ≤ 9 ∧ kd = .int .i64 i ∧ sm = .int .u64 (sumK L' j i)) (fun _ kd => 9 - (intOf kd).toNat)
              case atStart => exact ⟨1, by omega, by omega, rfl, rfl⟩
              case round =>
                obtain ⟨i, hi1, hi9, rfl, rfl⟩ := hrel
                by_cases hi8 : i ≤ 8
                · have sp : spentA 3 L' j i = knd L' j i := by unfold spentA; rw [if_pos ⟨inR_nat 3 j hj3, by omega, by omega⟩]; rfl
                  have e1 : sumK L' j (i + 1) = sumK L' j i + knd L' j i := rfl
                  have sb := sumK_bounds M2.out.good j (i + 1)
                  have sb0 := sumK_bounds M2.out.good j i
                  have kb := M2.out.good.knd0 j i
                  rw [e1] at sb
                  have E1 := Lib.hid e1
                  clear e1
                  go_wp2_with (go_at_call 18; refine (spent_any m F 3 c L' _ j i _ M2.out).mono ?_; rintro _ w' ⟨rfl, rfl⟩; rw [sp])
                  go_round
                  case rel => exact ⟨i + 1, by omega, by omega, by go_num, by rw [E1.out]⟩
                  case measure => simp [intOf]; omega
                · have e9 : i = 9 := by omega
                  subst e9
                  have cq : clkA 3 L' j = clk L' j := by unfold clkA; rw [if_pos (inR_nat 3 j hj3)]; rfl
                  have sa := sumK_all M2.out.good j
                  have sb := M2.out.good.clk j
                  rw [sa]
                  have nx : (clk L' j != clk L' j) = false := by simp
                  have gx : decide ((4611686018427387904 : Int) < clk L' j) = false := by simp; omega
                  clear sa
                  go_wp2_with (go_at_call 14; refine (clock_any m F 3 c L' _ j _ M2.out).mono ?_; rintro _ w' ⟨rfl, rfl⟩; rw [cq])
                  go_round
                  case rel => exact ⟨j + 1, by omega, by go_num⟩
                  case measure => simp [intOf]; omega
            · go_wp2
              go_roundw
              case rel => exact ⟨k + 1, by omega, by go_num, ⟨_, _, M2.out⟩, O2.out⟩
              case measure => simp [intOf]; omega
    · go_wp2
      go_ret
      exact ⟨rfl, OH.out⟩
set_option maxRecDepth 100000 in
theorem lifted (os : Os) (started : os.Started) (H : Type) (enc : TypeId × Value → H) :
    ReturnsInHanded {} Tryd.checked os 4 .any (fun w args => (Rows.meterSumsSpec.pre enc Tryd.prog Tryd.f4 [] false w args ∧ laidMetH Tryd.prog Mt.laidL w) ∧ sizedMet enc Tryd.prog Tryd.f4 (OpenSpec.ofChange Rows.meterSumsSpec) false w args)
      (Rows.meterSumsSpec.post enc Tryd.prog Tryd.f4 false true false false) := by
  refine returnsInHanded_of_change_and (C := Tryd.checked) (X := fun w _ => laidMetH Tryd.prog Mt.laidL w) (fun _ _ _ hh h => h.of_heap hh) Mt.own started (by kernel_rfl) Tryd.func4
    (ChangeSpec.witness_shaped (enc := enc) (C := Tryd.checked) (os := os) (X := fun w _ => laidMetH Tryd.prog Mt.laidL w) false (World.doorLaid Tryd.prog 4000 os) #[.slice none 0 0] 8 rfl (World.shaped_of_RefB (by kernel_rfl) (by kernel_rfl)) (by kernel_rfl) (by kernel_rfl) (by kernel_rfl) (Mt.door_met os _)) ?_
  intro W base args ds gs before hval0 hW _ _ hL _
  have hval : ∀ (j : Nat) t v, Tryd.f4.params[j]? = some t → args[j]? = some v → Value.okWide Tryd.prog W .any base t v := hval0
  have hW' := hW
  obtain ⟨p, q, hA0, hV, rfl, hfz, hnd⟩ := hW
  have hA : DataW.TrodAll enc Tryd.prog W 0 (fun _ => true) true Tryd.f4.params.toList args.toList ds p := hA0
  rw [Tryd.params4] at hA hval
  obtain ⟨v0, vs0, d0, ds0, p0, q0, hargs, rfl, rfl, h0, r0⟩ := trodAll_cons hA
  obtain ⟨rfl, rfl, rfl⟩ := trodAll_nil r0
  obtain rfl : args = #[v0] := by cases args; simp_all
  obtain ⟨rfl, rfl⟩ := trodVars_none hV
  have k0 := h0
  obtain ⟨a0, n0, c0, y0, rfl, m0, lt0, z0⟩ := calls_open (hval 0 22 v0 rfl rfl) h0
  have hE := Mt.laid_of hL
  clear hA0 hval0
  refine (walk a0 n0 c0 y0 W m0 z0 hE).mono fun e W' ⟨he, ho⟩ => ?_
  subst he
  have bel : Below W.heap.size W W' := ho.below (Nat.le_refl _) (by simp)
  exact ⟨_, rfl, _, _, _, [], _, [], hW', trodAll_mk1 (shut_bool Tryd.underlying4 _), (trodAll_cons_mk (Below.trod Mt.laidOut (by kernel_rfl) (of_decide_eq_true (by kernel_rfl)) k0 bel lt0) trodAll_mk0), rfl, bel.frame _, fun h => by cases h⟩
theorem over : Rows.MeterSumsSaid :=
  OpenClaim.holds_of_wide 4 Tryd.f4 rfl rfl rfl rfl rfl rfl rfl ⟨rfl, rfl, rfl, rfl, rfl⟩ rfl rfl rfl rfl rfl (by kernel_rfl) Tryd.func4 (by kernel_rfl)
    (of_decide_eq_true (by kernel_rfl)) (by unfold Func.isWrapper; first | (rw [if_pos (by decide +kernel)]; kernel_rfl) | (rw [if_neg (by decide +kernel)]; exact ⟨rfl, rfl⟩))
    (fun os started H enc _ => lifted os started H enc)
end meterSums
/-- The statement. -/
theorem meterSums_holds : Rows.MeterSumsCardSaid :=
  Claim7.holds_tied_plain_at .later [] [.data] true _ false
    meterSums.over (fun _ h => by cases h) (by kernel_rfl) (fun _ h => by cases h) meterSums_row_tie rfl ⟨rfl, rfl⟩ (by kernel_rfl) rfl
    (fun f fn hf hfn => by
      obtain rfl : f = 4 := Option.some.inj ((show Tryd.prog.funcNamed "warder/warderlaw05.MeterSums" = some 4 by kernel_rfl).symm.trans hf) |>.symm
      obtain rfl : fn = Tryd.f4 := (Option.some.inj (Tryd.func4.symm.trans hfn)).symm
      exact ⟨by kernel_rfl, fun j t ht => by
        rw [Tryd.params4] at ht
        have hm : t ∈ [22] := by simpa using Array.mem_of_getElem? ht
        have hall : ([22].all fun u => !Tryd.prog.wantsStandIn u) = true := by kernel_rfl
        exact (show Tryd.prog.wantsStandIn t = false by simpa using List.all_eq_true.1 hall t hm)⟩)
    (by kernel_rfl)
#print axioms meterSums_holds
end Go.Proofs.YtalaalpafafpbaaDoor
