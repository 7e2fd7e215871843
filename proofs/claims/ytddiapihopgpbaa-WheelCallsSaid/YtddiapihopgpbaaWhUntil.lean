/-
  The slots with timers in which those of up to a time stand, as their iterator hands them over: one by one, the earlier ones first, while the rounds may write what it has passed. Conditions: that a wheel lies there.
-/
import Derived.Test.YtddiapihopgpbaaWhIter
namespace Go.Proofs.Ytddiapihopgpbaa
open Go.RowKit Go.Maps Go.Shelf
attribute [local go_sem] Oper.semAt_some
namespace Wh
open Ph (Only)

/-- A box of one cell. -/
structure Bx1 (w : World) (b : Nat) (v : Value) : Prop where
  lt : b < w.heap.size
  c : w.cell? ⟨b, 0, none⟩ = some v
theorem Bx1.kept {w w' : World} {b : Nat} {v : Value} {S : List Nat} (h : Bx1 w b v) (ho : Only S w w') (hb : b ∉ S) : Bx1 w' b v := ⟨Nat.lt_of_lt_of_le h.lt ho.size, (ho.cell h.lt hb 0).trans h.c⟩
theorem Bx1.new (w : World) (v : Value) (t : TypeId) {B : Nat} (hB : B = w.heap.size) : Bx1 (w.alloc (.cells #[v] t)) B v := by
  subst hB
  exact ⟨by simp, by rw [World.cell?_alloc_new]; rfl⟩
/-- The slots with timers, of the first ones. -/
def fulls (full : Nat → Bool) : Nat → List Nat
  | 0 => []
  | k + 1 => fulls full k ++ (if full k then [k] else [])
theorem fulls_yes {full : Nat → Bool} {k : Nat} (h : full k = true) : fulls full (k + 1) = fulls full k ++ [k] := by
  show fulls full k ++ _ = _
  rw [if_pos h]
theorem fulls_no {full : Nat → Bool} {k : Nat} (h : full k = false) : fulls full (k + 1) = fulls full k := by
  show fulls full k ++ _ = _
  rw [h]; simp
theorem fulls_mem {full : Nat → Bool} : ∀ {k x : Nat}, x ∈ fulls full k ↔ x < k ∧ full x = true
  | 0, x => by simp [fulls]
  | k + 1, x => by
    cases h : full k with
    | true =>
      rw [fulls_yes h, List.mem_append, fulls_mem (k := k)]
      constructor
      · rintro (⟨a, b⟩ | hx)
        · exact ⟨by omega, b⟩
        · have : x = k := by simpa using hx
          subst this; exact ⟨by omega, h⟩
      · rintro ⟨a, b⟩
        by_cases e : x = k
        · exact Or.inr (by simp [e])
        · exact Or.inl ⟨by omega, b⟩
    | false =>
      rw [fulls_no h, fulls_mem (k := k)]
      constructor
      · rintro ⟨a, b⟩; exact ⟨by omega, b⟩
      · rintro ⟨a, b⟩
        refine ⟨?_, b⟩
        have : x ≠ k := fun e => by subst e; rw [h] at b; cases b
        omega
abbrev encK (p k : Nat) : Array Value := #[.pointer (some ⟨p, 2 + k, none⟩)]
/-- What the iterator sees of a slot. -/
def Shows (full : Nat → Bool) (p t k : Nat) (X : World) : Prop := X.cell? ⟨p, 0, none⟩ = some (.int .u64 (t : Nat)) ∧ p < X.heap.size ∧ ∃ mk n, X.cell? ⟨p, 2 + k, none⟩ = some (.map mk) ∧ (∀ ty, (Builtin.len_ #[57] ty #[.map mk]).run Try.prog X = .ok (.int .i64 (n : Nat)) X) ∧ (full k = true ↔ 0 < n)
set_option maxRecDepth 100000 in
set_option maxHeartbeats 4000000 in
/-- Whatever its rounds do, as long as what it has not passed stays. -/
theorem until1_base (n : Nat) (hn : 1 ≤ n) (lb b0 b1 p t u : Nat) (ht : t < 2 ^ 63) (hu : u < 2 ^ 63) (full : Nat → Bool) (J Jx : List Nat → World → Prop) (W : World)
    (hJ : ∀ k X, k ≤ pl t u → J (fulls full k) X → Bx1 X b0 (.pointer (some ⟨p, 0, none⟩)) ∧ Bx1 X b1 (.int .u64 (u : Nat)) ∧ Shows full p t k X)
    (hab : ∀ X X', J [] X → Only [] X X' → J [] X')
    (hY : ∀ k X, k ≤ pl t u → full k = true → J (fulls full k) X → YieldAt Fence.wide (n - 1) Try.prog lb (encK p k) X fun e X' => (e = .returned (.bool true) ∧ J (fulls full (k + 1)) X') ∨ (e = .returned (.bool false) ∧ Jx (fulls full (k + 1)) X'))
    (h0 : J [] W) :
    CallsIn Fence.wide n Try.prog 32 #[.func (.yield lb) #[] #[], .pointer (some ⟨b0, 0, none⟩), .pointer (some ⟨b1, 0, none⟩)] W fun e W' => (∃ v, e = .returned v) ∧
      (J (fulls full (pl t u + 1)) W' ∨ (∃ k, k ≤ pl t u ∧ full k = true ∧ Jx (fulls full (k + 1)) W')) := by
  obtain ⟨g0, g1, gs⟩ := hJ 0 W (Nat.zero_le _) h0
  have c0 := g0.c
  have c1 := g1.c
  have HP := Lib.hid (place_any W p t u gs.1 ht hu)
  have hd := (dg_char ht (show max u t < 2 ^ 63 by omega)).2.2
  have hs := sl_lt t (max u t)
  have hK : pl t u = dg t (max u t) * 8 + sl t (max u t) := rfl
  have HJ := Lib.hid hJ
  have HY := Lib.hid hY
  have HA := Lib.hid hab
  have H0 := Lib.hid h0
  clear g0 g1 gs hJ hY hab h0
  generalize pl t u = K at *
  generalize dg t (max u t) = top at *
  generalize sl t (max u t) = last at *
  refine callsIn_of_wp Try.func32 rfl trivial ?_ rfl
  simp only [Try.ntmps32, List.size_toArray, List.length_cons, List.length_nil, Nat.reduceAdd, Nat.reduceSub, Array.replicate_succ, Array.replicate_zero, List.push_toArray, List.append_toArray, List.nil_append, List.cons_append]
  gi_wp2
  refine ⟨trivial, (callsIn_wide.2 HP.out).mono ?_⟩
  rintro e w1 ⟨rfl, ho⟩
  have H1 := Lib.hid (HA.out W w1 H0.out ho)
  clear H0 HP c0 c1
  gi_wp2
  gi_loopw [17] (fun c wr => ∃ d : Nat, c = .int .i64 d ∧ d ≤ top + 1 ∧ Hid (J (fulls full (if d ≤ top then d * 8 else K + 1)) wr))
    (fun c _ => top + 1 - (intOf c).toNat)
  case atStart => exact ⟨0, rfl, Nat.zero_le _, by rw [if_pos (Nat.zero_le _)]; exact H1⟩
  case round =>
    obtain ⟨d, rfl, hdl, hj⟩ := hrel
    by_cases hdt : d ≤ top
    · rw [if_pos hdt] at hj
      have hlt : (d : Int) < (top : Int) + 1 := by omega
      obtain ⟨g0, g1, gs⟩ := HJ.out (d * 8) wr (by omega) hj.out
      have c0 := g0.c
      have hpl := gs.2.1
      clear g0 g1 gs
      -- LOOPS
      by_cases hdd : d = top
      · subst hdd
        gi_wp2
        gi_loopw [35] (fun c wr => ∃ i : Nat, c = .int .i64 i ∧ i ≤ last + 1 ∧ Hid (J (fulls full (d * 8 + i)) wr)) (fun c _ => last + 1 - (intOf c).toNat)
        case atStart => exact ⟨0, rfl, Nat.zero_le _, hj⟩
        case round =>
          obtain ⟨i, rfl, hi, hji⟩ := hrel
          by_cases hli : i < last + 1
          · obtain ⟨g0, g1, gt, gp, mk, nk, gc, gl, gf⟩ := HJ.out (d * 8 + i) wr (by omega) hji.out
            clear g0 g1 gt
            rw [← Nat.add_assoc] at gc
            have hli2 : (i : Int) < (last : Int) + 1 := by omega
            cases hf : full (d * 8 + i) with
            | true =>
              have hpos : 0 < nk := gf.1 hf
              have hpos2 : decide (0 < (nk : Int)) = true := by simpa using hpos
              obtain ⟨fn, tmps, assign, body, hy, hR⟩ := HY.out (d * 8 + i) wr (by omega) hf hji.out
              dsimp only [encK] at hy
              rw [← Nat.add_assoc] at hy
              have HF := Lib.hid hf
              clear gf hf
              gi_wp2
              refine hR.mono ?_
              rintro e W3 (⟨rfl, hJ3⟩ | ⟨rfl, hJx3⟩)
              · gi_wp2
                go_roundw
                case rel => exact ⟨i + 1, by push_cast; rfl, by omega, Lib.hid hJ3⟩
                case measure => simp only [intOf]; omega
              · gi_wp2
                refine bodyPost_ret (results_none rfl _ _ _) rfl ?_
                exact ⟨⟨_, rfl⟩, .inr ⟨_, by omega, HF.out, hJx3⟩⟩
            | false =>
              have hz : nk = 0 := by
                apply Classical.byContradiction
                intro h
                have := gf.2 (by omega)
                rw [hf] at this; cases this
              subst hz
              have hpos2 : decide (0 < ((0 : Nat) : Int)) = false := rfl
              gi_wp2
              refine ⟨(fun f h => absurd h (by simp)), ?_⟩
              gi_wp2
              go_roundw
              case rel => exact ⟨i + 1, by push_cast; rfl, by omega, by have := fulls_no hf; exact Lib.hid (by rw [show d * 8 + (i + 1) = d * 8 + i + 1 by omega, this]; exact hji.out)⟩
              case measure => simp only [intOf]; omega
          · obtain rfl : i = last + 1 := by omega
            gi_wp2
            go_roundw
            case rel =>
              exact ⟨d + 1, by push_cast; rfl, by omega, by
                rw [if_neg (by omega), show K + 1 = d * 8 + (last + 1) by omega]
                exact hji⟩
            case measure => simp only [intOf]; omega
      · have hne : ((d : Int) == (top : Int)) = false := by simp; omega
        gi_wp2
        gi_loopw [35] (fun c wr => ∃ i : Nat, c = .int .i64 i ∧ i ≤ 8 ∧ Hid (J (fulls full (d * 8 + i)) wr)) (fun c _ => 8 - (intOf c).toNat)
        case atStart => exact ⟨0, rfl, Nat.zero_le _, hj⟩
        case round =>
          obtain ⟨i, rfl, hi, hji⟩ := hrel
          by_cases hli : i < 8
          · obtain ⟨g0, g1, gt, gp, mk, nk, gc, gl, gf⟩ := HJ.out (d * 8 + i) wr (by omega) hji.out
            clear g0 g1 gt
            rw [← Nat.add_assoc] at gc
            have hli2 : (i : Int) < 8 := by omega
            cases hf : full (d * 8 + i) with
            | true =>
              have hpos : 0 < nk := gf.1 hf
              have hpos2 : decide (0 < (nk : Int)) = true := by simpa using hpos
              obtain ⟨fn, tmps, assign, body, hy, hR⟩ := HY.out (d * 8 + i) wr (by omega) hf hji.out
              dsimp only [encK] at hy
              rw [← Nat.add_assoc] at hy
              have HF := Lib.hid hf
              clear gf hf
              gi_wp2
              refine hR.mono ?_
              rintro e W3 (⟨rfl, hJ3⟩ | ⟨rfl, hJx3⟩)
              · gi_wp2
                go_roundw
                case rel => exact ⟨i + 1, by push_cast; rfl, by omega, Lib.hid hJ3⟩
                case measure => simp only [intOf]; omega
              · gi_wp2
                refine bodyPost_ret (results_none rfl _ _ _) rfl ?_
                exact ⟨⟨_, rfl⟩, .inr ⟨_, by omega, HF.out, hJx3⟩⟩
            | false =>
              have hz : nk = 0 := by
                apply Classical.byContradiction
                intro h
                have := gf.2 (by omega)
                rw [hf] at this; cases this
              subst hz
              have hpos2 : decide (0 < ((0 : Nat) : Int)) = false := rfl
              gi_wp2
              refine ⟨(fun f h => absurd h (by simp)), ?_⟩
              gi_wp2
              go_roundw
              case rel => exact ⟨i + 1, by push_cast; rfl, by omega, by have := fulls_no hf; exact Lib.hid (by rw [show d * 8 + (i + 1) = d * 8 + i + 1 by omega, this]; exact hji.out)⟩
              case measure => simp only [intOf]; omega
          · obtain rfl : i = 8 := by omega
            gi_wp2
            go_roundw
            case rel =>
              exact ⟨d + 1, by push_cast; rfl, by omega, by
                rw [if_pos (by omega), show (d + 1) * 8 = d * 8 + 8 by omega]
                exact hji⟩
            case measure => simp only [intOf]; omega
    -- PAST
    · obtain rfl : d = top + 1 := by omega
      rw [if_neg hdt] at hj
      gi_wp2
      go_end0
      exact ⟨⟨_, rfl⟩, .inl hj.out⟩
end Wh
end Go.Proofs.Ytddiapihopgpbaa
