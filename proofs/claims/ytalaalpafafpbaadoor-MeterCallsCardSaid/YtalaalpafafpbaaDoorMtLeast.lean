/-
  What meter's Least answers. Conditions: that a meter lies there, and that the list reads so.
-/
import Derived.Test.YtalaalpafafpbaaDoorMtDo
namespace Go.Proofs.YtalaalpafafpbaaDoor
open Go.RowKit
namespace Mt
/-- A slice of bools reads so. -/
def RdT (B : Nat) (w : World) (pa : Option Addr) (len : Nat) (b : Nat → Bool) : Prop := 0 < len → ∃ g off, pa = some ⟨g, off, none⟩ ∧ g < B ∧ g < w.heap.size ∧ ∀ j, j < len → w.cell? ⟨g, off + j, none⟩ = some (.bool (b j))
theorem RdT.kept {B : Nat} {w w' : World} {pa : Option Addr} {len : Nat} {b : Nat → Bool} {S : List Nat} (h : RdT B w pa len b) (ho : Only S w w') (hs : ∀ x ∈ S, B ≤ x) : RdT B w' pa len b := fun hn => by
  obtain ⟨g, off, e, hg, hgw, hc⟩ := h hn
  exact ⟨g, off, e, hg, Nat.lt_of_lt_of_le hgw ho.size, fun j hj => (ho.cell hgw (fun x => by have := hs _ x; omega) _).trans (hc j hj)⟩
/-- The core with the least clock among the first ones. -/
def leastF (L : List Ent) (b : Nat → Bool) : Nat → Int
  | 0 => -1
  | k + 1 => if b k = true ∧ (leastF L b k < 0 ∨ clk L k < clk L (leastF L b k).toNat) then k else leastF L b k
theorem leastF_range (L : List Ent) (b : Nat → Bool) (k : Nat) : -1 ≤ leastF L b k ∧ leastF L b k < k := by
  induction k with
  | zero => exact ⟨(by decide : (-1 : Int) ≤ -1), (by decide : (-1 : Int) < 0)⟩
  | succ k ih =>
    unfold leastF
    split
    · exact ⟨by omega, by omega⟩
    · exact ⟨ih.1, by omega⟩
set_option maxRecDepth 100000 in
set_option maxHeartbeats 1000000 in
theorem least_n (m F n c : Nat) (L : List Ent) (s : Bool) (B : Nat) (pa : Option Addr) (len cap : Nat) (b : Nat → Bool) (w : World) (hM : Met w m F n c L s) (hr : RdT B w pa len b) (hl : len ≤ maxLen) (hN : n < len) :
    Calls Tryd.prog 19 #[.pointer (some ⟨m, 0, none⟩), .slice pa len cap] w fun e w' => e = .returned (.int .i64 (leastF L b n)) ∧ ∃ k, w' = w.drewN k := by
  unfold maxLen at hl
  have hh := hM.head
  have hf := hM.few
  have M := Lib.hid hM
  have R := Lib.hid hr
  clear hM hr
  go_enter Tryd.func19, Tryd.ntmps19
  go_wp2_with fail
  go_loopw [5, 6, 15] (fun p _ i wr => ∃ k : Nat, k ≤ n ∧ i = .int .i64 k ∧ p = .int .i64 (leastF L b k) ∧ ∃ q, wr = w.drewN q) (fun _ _ i _ => n - (intOf i).toNat)
  case atStart => exact ⟨0, by omega, rfl, rfl, 0, rfl⟩
  case round =>
    obtain ⟨k, hk, rfl, rfl, q, rfl⟩ := hrel
    have M2 := M
    have R2 := R
    by_cases hlt : k < n
    · obtain ⟨g, off, epa, hg, hgw, hcc⟩ := R2.out (by omega)
      subst epa
      have cb := hcc k (by omega)
      have ch := M2.out.head
      have ck := M2.out.cell k 0 (by omega) (by decide)
      rw [Nat.add_zero, zL_clk] at ck
      have rg := leastF_range L b k
      have hlk : (k : Int) < len := by omega
      clear hcc
      cases hb : b k
      · have E := Lib.hid (show leastF L b (k + 1) = leastF L b k by show (if _ then _ else _) = _; rw [if_neg (by simp [hb])])
        rw [hb] at cb
        generalize leastF L b k = p at *
        go_wp2_with fail
        go_quiet (fail)
        go_wp2
        go_roundw
        case rel => exact ⟨k + 1, by omega, by go_num, by rw [E.out], _, rfl⟩
        case measure => simp [intOf]; omega
      · rw [hb] at cb
        by_cases hp : leastF L b k < 0
        · have E := Lib.hid (show leastF L b (k + 1) = k by show (if _ then _ else _) = _; rw [if_pos ⟨hb, .inl hp⟩])
          have d : decide (leastF L b k < 0) = true := by simpa using hp
          generalize leastF L b k = p at *
          go_wp2_with fail
          go_quiet (fail)
          go_wp2
          go_roundw
          case rel => exact ⟨k + 1, by omega, by go_num, by rw [E.out], _, rfl⟩
          case measure => simp [intOf]; omega
        · obtain ⟨p, ep⟩ := Int.eq_ofNat_of_zero_le (show 0 ≤ leastF L b k by omega)
          have cp := M2.out.cell p 0 (by omega) (by decide)
          rw [Nat.add_zero, zL_clk] at cp
          have d : decide ((p : Int) < 0) = false := by simp
          have hpk : p < k := by omega
          by_cases hc : clk L k < clk L p
          · have E := Lib.hid (show leastF L b (k + 1) = k by show (if _ then _ else _) = _; rw [if_pos ⟨hb, .inr (by rw [ep]; exact hc)⟩])
            have d2 : decide (clk L k < clk L p) = true := by simpa using hc
            rw [ep] at *
            clear ep rg hp
            go_wp2_with fail
            go_quiet (fail)
            go_wp2
            go_roundw
            case rel => exact ⟨k + 1, by omega, by go_num, by rw [E.out], _, rfl⟩
            case measure => simp [intOf]; omega
          · have E := Lib.hid (show leastF L b (k + 1) = p by
              show (if _ then _ else _) = _
              rw [if_neg, ep]
              rintro ⟨_, h | h⟩
              · exact hp h
              · rw [ep] at h; exact hc h)
            have d2 : decide (clk L k < clk L p) = false := by simpa using hc
            rw [ep] at *
            clear ep rg hp
            go_wp2_with fail
            go_quiet (fail)
            go_wp2
            go_roundw
            case rel => exact ⟨k + 1, by omega, by go_num, by rw [E.out], _, rfl⟩
            case measure => simp [intOf]; omega
    · have e : k = n := by omega
      subst e
      go_wp2
      go_ret
      exact ⟨rfl, q, rfl⟩
set_option maxRecDepth 100000 in
set_option maxHeartbeats 1000000 in
theorem least_len (m F n c : Nat) (L : List Ent) (s : Bool) (B : Nat) (pa : Option Addr) (len cap : Nat) (b : Nat → Bool) (w : World) (hM : Met w m F n c L s) (hr : RdT B w pa len b) (hl : len ≤ maxLen) (hN : ¬ n < len) :
    Calls Tryd.prog 19 #[.pointer (some ⟨m, 0, none⟩), .slice pa len cap] w fun e w' => e = .returned (.int .i64 (leastF L b len)) ∧ ∃ k, w' = w.drewN k := by
  unfold maxLen at hl
  have hh := hM.head
  have hf := hM.few
  have M := Lib.hid hM
  have R := Lib.hid hr
  clear hM hr
  go_enter Tryd.func19, Tryd.ntmps19
  go_wp2_with fail
  go_loopw [5, 6, 15] (fun p _ i wr => ∃ k : Nat, k ≤ len ∧ i = .int .i64 k ∧ p = .int .i64 (leastF L b k) ∧ ∃ q, wr = w.drewN q) (fun _ _ i _ => len - (intOf i).toNat)
  case atStart => exact ⟨0, by omega, rfl, rfl, 0, rfl⟩
  case round =>
    obtain ⟨k, hk, rfl, rfl, q, rfl⟩ := hrel
    have M2 := M
    have R2 := R
    by_cases hlt : k < len
    · obtain ⟨g, off, epa, hg, hgw, hcc⟩ := R2.out (by omega)
      subst epa
      have cb := hcc k (by omega)
      have ch := M2.out.head
      have ck := M2.out.cell k 0 (by omega) (by decide)
      rw [Nat.add_zero, zL_clk] at ck
      have rg := leastF_range L b k
      have hlk : (k : Int) < len := by omega
      clear hcc
      cases hb : b k
      · have E := Lib.hid (show leastF L b (k + 1) = leastF L b k by show (if _ then _ else _) = _; rw [if_neg (by simp [hb])])
        rw [hb] at cb
        generalize leastF L b k = p at *
        go_wp2_with fail
        go_quiet (fail)
        go_wp2
        go_roundw
        case rel => exact ⟨k + 1, by omega, by go_num, by rw [E.out], _, rfl⟩
        case measure => simp [intOf]; omega
      · rw [hb] at cb
        by_cases hp : leastF L b k < 0
        · have E := Lib.hid (show leastF L b (k + 1) = k by show (if _ then _ else _) = _; rw [if_pos ⟨hb, .inl hp⟩])
          have d : decide (leastF L b k < 0) = true := by simpa using hp
          generalize leastF L b k = p at *
          go_wp2_with fail
          go_quiet (fail)
          go_wp2
          go_roundw
          case rel => exact ⟨k + 1, by omega, by go_num, by rw [E.out], _, rfl⟩
          case measure => simp [intOf]; omega
        · obtain ⟨p, ep⟩ := Int.eq_ofNat_of_zero_le (show 0 ≤ leastF L b k by omega)
          have cp := M2.out.cell p 0 (by omega) (by decide)
          rw [Nat.add_zero, zL_clk] at cp
          have d : decide ((p : Int) < 0) = false := by simp
          have hpk : p < k := by omega
          by_cases hc : clk L k < clk L p
          · have E := Lib.hid (show leastF L b (k + 1) = k by show (if _ then _ else _) = _; rw [if_pos ⟨hb, .inr (by rw [ep]; exact hc)⟩])
            have d2 : decide (clk L k < clk L p) = true := by simpa using hc
            rw [ep] at *
            clear ep rg hp
            go_wp2_with fail
            go_quiet (fail)
            go_wp2
            go_roundw
            case rel => exact ⟨k + 1, by omega, by go_num, by rw [E.out], _, rfl⟩
            case measure => simp [intOf]; omega
          · have E := Lib.hid (show leastF L b (k + 1) = p by
              show (if _ then _ else _) = _
              rw [if_neg, ep]
              rintro ⟨_, h | h⟩
              · exact hp h
              · rw [ep] at h; exact hc h)
            have d2 : decide (clk L k < clk L p) = false := by simpa using hc
            rw [ep] at *
            clear ep rg hp
            go_wp2_with fail
            go_quiet (fail)
            go_wp2
            go_roundw
            case rel => exact ⟨k + 1, by omega, by go_num, by rw [E.out], _, rfl⟩
            case measure => simp [intOf]; omega
    · have e : k = len := by omega
      subst e
      go_wp2
      go_ret
      exact ⟨rfl, q, rfl⟩
theorem least_any (m F n c : Nat) (L : List Ent) (s : Bool) (B : Nat) (pa : Option Addr) (len cap : Nat) (b : Nat → Bool) (w : World) (hM : Met w m F n c L s) (hr : RdT B w pa len b) (hl : len ≤ maxLen) :
    Calls Tryd.prog 19 #[.pointer (some ⟨m, 0, none⟩), .slice pa len cap] w fun e w' => e = .returned (.int .i64 (leastF L b (min len n))) ∧ ∃ k, w' = w.drewN k := by
  by_cases h : n < len
  · rw [show min len n = n by omega]
    exact least_n m F n c L s B pa len cap b w hM hr hl h
  · rw [show min len n = len by omega]
    exact least_len m F n c L s B pa len cap b w hM hr hl h
end Mt
end Go.Proofs.YtalaalpafafpbaaDoor
