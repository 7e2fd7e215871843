/-
  What the document's own Advance answers, and leaves. Conditions: that its wheel lies there, its timers in order.
-/
import Derived.Test.YtddiapihopgpbaaWhRef2
namespace Go.Proofs.Ytddiapihopgpbaa
open Go.RowKit
namespace Wh
open Ph (Only)
theorem RW.time {w : World} {r : Nat} {H : List Nat} {t : Nat} {l : List DuT} (h : RW w r H t l) (T : Nat) : RW (w.setCell ⟨r, 0, none⟩ (.int .u64 (T : Nat))) r H T l ∧ Only [r] w (w.setCell ⟨r, 0, none⟩ (.int .u64 (T : Nat))) := by
  have ho : Only [r] w (w.setCell ⟨r, 0, none⟩ (.int .u64 (T : Nat))) := Only.setCell w (by simp) _ _
  obtain ⟨v, hv, hrow, hg⟩ := h.row
  exact ⟨⟨fun x hx => by rw [World.size_setCell]; exact h.lt x hx, h.mem, World.cell?_setCell_same' _ _ _ (by rw [h.c0]; rfl), (World.frozen?_setCell _ _ _ _).trans h.f0, (World.frozen?_setCell _ _ _ _).trans h.f1, v,
    (World.cell?_setCell_other _ _ _ _ (fun x => by injection x with _ x; omega)).trans hv, own_only hrow ho (fun g e => by simp; exact (hg g e).2), hg⟩, ho⟩
/-- Another row is put. -/
theorem RW.put {w w' : World} {r : Nat} {H : List Nat} {t : Nat} {l X : List DuT} {v : Value} (h : RW w r H t l) (ho : Only [] w w') (hv : w'.ownsRow w.heap.size 50 2 v X.length (flatD X)) :
    RW (w'.setCell ⟨r, 1, none⟩ v) r (r :: v.ownBlock.toList) t X ∧ Only H w (w'.setCell ⟨r, 1, none⟩ v) ∧ ∀ x ∈ r :: v.ownBlock.toList, x ∈ H ∨ w.heap.size ≤ x := by
  have h' := h.kept ho (by simp)
  have hlt := h.lt r h.mem
  have hr' := h'.lt r h'.mem
  have ho2 : Only [r] w' (w'.setCell ⟨r, 1, none⟩ v) := Only.setCell w' (by simp) _ _
  have hne : ∀ g, v.ownBlock = some g → g ≠ r := fun g e => by have := (hv.lt g e).1; omega
  obtain ⟨v0, hv0, _, _⟩ := h'.row
  have hv0' : (w'.cell? ⟨r, 1, none⟩).isSome = true := by rw [hv0]; rfl
  refine ⟨⟨fun x hx => ?_, by simp, ?_, (World.frozen?_setCell _ _ _ _).trans h'.f0, (World.frozen?_setCell _ _ _ _).trans h'.f1, v, World.cell?_setCell_same' _ _ _ hv0', ?_, fun g e => ⟨by rw [e]; simp, hne g e⟩⟩, ?_, fun x hx => ?_⟩
  · rw [World.size_setCell]
    rcases List.mem_cons.1 hx with rfl | hx
    · exact hr'
    · exact (hv.lt x (by simpa using hx)).2
  · exact (World.cell?_setCell_other _ _ _ _ (fun x => by injection x with _ x; omega)).trans h'.c0
  · have := own_only hv ho2 (fun g e => by simp; exact hne g e)
    exact ⟨this.1, this.2.imp id (fun ⟨g, cap, cur, a, _, c⟩ => ⟨g, cap, cur, a, Nat.zero_le _, c⟩)⟩
  · exact (ho.mono (by simp)).trans (ho2.mono (by simp; exact h.mem))
  · rcases List.mem_cons.1 hx with rfl | hx
    · exact Or.inl h.mem
    · exact Or.inr (hv.lt x (by simpa using hx)).1
theorem grown_only {w w' : World} {row : Option Nat} (hg : w.grownBy w' row) : Only row.toList w w' := ⟨hg.os, hg.tape, hg.output, hg.size, fun k hk hn => hg.block k hk (fun e => hn (by rw [← e]; simp))⟩
theorem own_seen2 {w : World} {base B : Nat} {e : TypeId} {v : Value} {l : List DuT} (h : w.ownsRow base e 2 v l.length (flatD l)) (hb : B ≤ base) : Seen B [] w v l := by
  obtain ⟨a, cap, rfl, h0, hr⟩ := own_seen h
  refine ⟨a, cap, rfl, h0, fun hl => ?_⟩
  obtain ⟨b, off, e, h1, h2⟩ := hr hl
  exact ⟨b, off, e, by omega, h2⟩
set_option maxRecDepth 100000 in
set_option maxHeartbeats 4000000 in
theorem radv_any (r : Nat) (H : List Nat) (t : Nat) (l : List DuT) (a : Nat) (w : World) (hl : l.length ≤ 1000) (hsl : Srt l) (ha : a < 18446744073709551616) (hR : RW w r H t l) :
    Calls Try.prog 16 #[.pointer (some ⟨r, 0, none⟩), .int .u64 (a : Nat)] w fun e w' => ∃ v H', e = .returned v ∧ RW w' r H' (advT t a) (advL t a l) ∧ Seen w.heap.size [] w' v (advO t a l) ∧ Only H w w' ∧ ∀ x ∈ H', x ∈ H ∨ w.heap.size ≤ x := by
  have HR := Lib.hid hR
  have hlt := hR.lt r hR.mem
  have hc0 := hR.c0
  have hf0 := hR.f0
  have hmem := hR.mem
  clear hR
  by_cases h62 : a ≤ 4611686018427387904
  · have hd : decide ((4611686018427387904 : Int) < (a : Int)) = false := decide_eq_false (by omega)
    have e1 : advT t a = max t a := by unfold advT; rw [if_pos h62]
    have e2 : advO t a l = out (max t a) l := by unfold advO; rw [if_pos h62]
    have e3 : advL t a l = rst (max t a) l := by unfold advL; rw [if_pos h62]
    obtain ⟨s1, s2⟩ := due_split (t := max t a) hsl
    rw [e1, e2, e3, ← s1, ← s2]
    have hmx : (if (t : Int) < (a : Int) then (a : Int) else (t : Int)) = ((max t a : Nat) : Int) := by split <;> omega
    have hmxn : (if t < a then (a : Int) else (t : Int)) = ((max t a : Nat) : Int) := by split <;> omega
    have HTm := Lib.hid (HR.out.time (max t a))
    have hkle := dueN_le (max t a) l
    have DY := Lib.hid (fun k (h : k < dueN (max t a) l) => dueN_yes h)
    have DN := Lib.hid (fun x (h : l[dueN (max t a) l]? = some x) => dueN_no h)
    clear e1 e2 e3 s1 s2 HR
    generalize max t a = T at *
    generalize dueN T l = K0 at *
    go_enter Try.func16, Try.ntmps16
    go_wp2_with fail
    have R1 := Lib.hid HTm.out.1
    have O1 := Lib.hid HTm.out.2
    clear HTm hc0 hf0
    have hz1 : (w.setCell ⟨r, 0, none⟩ (.int .u64 (T : Nat))).heap.size = w.heap.size := World.size_setCell _ _ _
    generalize w.setCell ⟨r, 0, none⟩ (.int .u64 (T : Nat)) = w1 at *
    obtain ⟨v, hv, hrow, hg⟩ := R1.out.row
    obtain ⟨av, cap, rfl⟩ := own_form hrow
    have HW := Lib.hid hrow
    have HS := Lib.hid (own_seen hrow)
    have hc0 := R1.out.c0
    have hlt1 := R1.out.lt r hmem
    clear hrow hg
    go_loopw [5] (fun c wr => ∃ k : Nat, c = .int .i64 k ∧ k ≤ K0 ∧ Hid (Only [] w1 wr)) (fun c _ => l.length + 1 - (intOf c).toNat)
    case atStart => exact ⟨0, rfl, Nat.zero_le _, Lib.hid (Only.refl _ _)⟩
    case round =>
      obtain ⟨k, rfl, hk, OR⟩ := hrel
      have hv' := (OR.out.cell hlt1 (by simp) 1).trans hv
      have hc' := (OR.out.cell hlt1 (by simp) 0).trans hc0
      by_cases hkl : k < K0
      · obtain ⟨x, hx, hxt⟩ := DY.out k hkl
        obtain ⟨b, off, rfl, hb, -, -, x0, x1⟩ := (HS.out.kept OR.out (by simp)).at hx
        obtain ⟨xd, xt⟩ := x
        simp only at x0 x1 hxt
        have g1 : decide ((k : Int) < (l.length : Int)) = true := decide_eq_true (by omega)
        have g1n : decide (k < l.length) = true := decide_eq_true (by omega)
        have g2 : decide ((xt : Int) ≤ (T : Int)) = true := decide_eq_true (by omega)
        have g2n : decide (xt ≤ T) = true := decide_eq_true (by omega)
        have gk : (k : Int) < (l.length : Int) := by omega
        clear hx
        go_upto_region 5 with fail
        go_quiet (fail)
        have OQ := Lib.hid (OR.out.trans (Only.drewN [] wr nq))
        clear OR hv' hc' x0 x1 hb
        generalize wr.drewN nq = wq at *
        go_wp2_with fail
        go_roundw
        case rel => exact ⟨k + 1, by push_cast; rfl, by omega, OQ⟩
        case measure => simp only [intOf]; omega
      · obtain rfl : k = K0 := by omega
        by_cases hkl2 : k < l.length
        · obtain ⟨x, hx⟩ : ∃ x, l[k]? = some x := ⟨l[k], List.getElem?_eq_getElem hkl2⟩
          have hxt := DN.out x hx
          obtain ⟨b, off, rfl, hb, -, -, x0, x1⟩ := (HS.out.kept OR.out (by simp)).at hx
          obtain ⟨xd, xt⟩ := x
          simp only at x0 x1 hxt
          have g1 : decide ((k : Int) < (l.length : Int)) = true := decide_eq_true (by omega)
          have g1n : decide (k < l.length) = true := decide_eq_true (by omega)
          have g2 : decide ((xt : Int) ≤ (T : Int)) = false := decide_eq_false (by omega)
          have g2n : decide (xt ≤ T) = false := decide_eq_false (by omega)
          have gk : (k : Int) < (l.length : Int) := by omega
          clear hx
          go_upto_region 5 with fail
          go_quiet (fail)
          have OQ := Lib.hid (OR.out.trans (Only.drewN [] wr nq))
          clear OR hv' hc' x0 x1 hb
          generalize wr.drewN nq = wq at *
          rcases HW.out.2 with ⟨hn1, hn2⟩ | ⟨g, cc, cur, hn1, _, _, hnc, hcm, _⟩
          · simp only [Value.slice.injEq] at hn1
            obtain ⟨e1, _, e3⟩ := hn1
            have hl0 : l = [] := List.eq_nil_of_length_eq_zero hn2
            exact absurd hkl2 (by rw [hl0]; simp)
          · simp only [Value.slice.injEq] at hn1
            obtain ⟨e1, _, e3⟩ := hn1
            cases e1
            cases e3
            unfold maxLen at hcm
            have hkc : k ≤ cap := by omega
            by_cases hck : cap = k
            · exfalso; omega
            · have hck0 : ¬ cap - k = 0 := by omega
              have RQ := Lib.hid (R1.out.kept OQ.out (by simp))
              have HQ := Lib.hid (own_only HW.out OQ.out (by simp))
              have hvq := (OQ.out.cell hlt1 (by simp) 1).trans hv
              have hltq : r < wq.heap.size := Nat.lt_of_lt_of_le hlt1 OQ.out.size
              have hOw : Only [r] w wq := O1.out.trans (OQ.out.mono (by simp))
              have HOw := Lib.hid hOw
              have hsz : w.heap.size ≤ wq.heap.size := hOw.size
              clear OQ hOw R1 HW O1
              have L1 := Lib.hid (lies_take HQ.out hkle)
              have hgq : b < wq.heap.size := (HQ.out.lt b rfl).2
              have ovz := ((Only.alloc [] wq (.cells #[] 50)).cell hltq (by simp) 1).trans hvq
              go_upto_region 8 with (at_builtin; refine step_new rfl (.tmp 42) (.tmp 48) rfl (l.take k) _ _ _ wq (by rw [List.length_take]; omega) L1.out (fun a e _ => by cases e; exact ⟨hgq, rfl⟩) rfl rfl ?_; intro v5 w5 hown hO5; have OWN5 := Lib.hid hown; have O5 := Lib.hid hO5; have hv5 := (hO5.cell hltq (by simp) 1).trans hvq; have hlt5 := Nat.lt_of_lt_of_le hltq hO5.size; have R5 := Lib.hid (RQ.out.kept hO5 (by simp)); have H5 := Lib.hid (own_only HQ.out hO5 (by simp)); clear hown hO5)
              have L2 := Lib.hid (lies_drop H5.out hkle)
              have ov5 := ((Only.alloc [] w5 (.cells #[] 50)).cell hlt5 (by simp) 1).trans hv5
              go_wp2_with (at_builtin; refine step_new rfl (.tmp 51) (.tmp 57) rfl (l.drop k) _ _ _ w5 (by rw [List.length_drop]; omega) L2.out (fun a e _ => by cases e; exact ⟨Nat.lt_of_lt_of_le hgq O5.out.size, rfl⟩) rfl rfl ?_; intro v7 w7 hown hO7; obtain ⟨va7, vc7, rfl⟩ := own_form hown; have OWN7 := Lib.hid hown; have O7 := Lib.hid hO7; have hf7 := (hO7.frozen hlt5 (by simp) 1).trans R5.out.f1; have hv7 := (hO7.cell hlt5 (by simp) 1).trans hv5; have hlt7 := Nat.lt_of_lt_of_le hlt5 hO7.size; clear hown hO7)
              go_ret
              obtain ⟨p1, p2, p3⟩ := R5.out.put O7.out OWN7.out
              have hO2 : Only [r] w7 (w7.setCell ⟨r, 1, none⟩ (.slice va7 (l.drop k).length vc7)) := Only.setCell w7 (by simp) _ _
              have hrow5 := own_only (own_only OWN5.out O7.out (by simp)) hO2 (fun g e => by simp; have := (OWN5.out.lt g e).1; omega)
              simp only [List.length_drop] at p1 p2 p3 hrow5
              first | refine ⟨v5, _, rfl, p1, own_seen2 hrow5 hsz, ?_, fun x hx => ?_⟩ | refine ⟨v5, rfl, _, p1, own_seen2 hrow5 hsz, ?_, fun x hx => ?_⟩
              · exact ((HOw.out.mono (S' := H) (by simp; exact hmem)).trans (O5.out.mono (by simp))).trans p2
              · rcases p3 x hx with h | h
                · exact Or.inl h
                · exact Or.inr (by have := O5.out.size; omega)
        · have g1 : decide ((k : Int) < (l.length : Int)) = false := decide_eq_false (by omega)
          have g1n : decide (k < l.length) = false := decide_eq_false (by omega)
          go_upto_region 5 with fail
          go_quiet (fail)
          have OQ := Lib.hid (OR.out.trans (Only.drewN [] wr nq))
          clear OR hv' hc'
          generalize wr.drewN nq = wq at *
          rcases HW.out.2 with ⟨hn1, hn2⟩ | ⟨g, cc, cur, hn1, _, _, hnc, hcm, _⟩
          · simp only [Value.slice.injEq] at hn1
            obtain ⟨e1, _, e3⟩ := hn1
            have hl0 : l = [] := List.eq_nil_of_length_eq_zero hn2
            subst e1
            subst e3
            subst hl0
            obtain rfl : k = 0 := by simpa using hkle
            simp only [List.length_nil] at hv HW HS
            have RQ := Lib.hid (R1.out.kept OQ.out (by simp))
            have HQ := Lib.hid (own_only HW.out OQ.out (by simp))
            have hvq := (OQ.out.cell hlt1 (by simp) 1).trans hv
            have hltq : r < wq.heap.size := Nat.lt_of_lt_of_le hlt1 OQ.out.size
            have hOw : Only [r] w wq := O1.out.trans (OQ.out.mono (by simp))
            have HOw := Lib.hid hOw
            have hsz : w.heap.size ≤ wq.heap.size := hOw.size
            clear OQ hOw R1 HW O1
            have L1 := Lib.hid (lies_nil wq)
            have ovz := ((Only.alloc [] wq (.cells #[] 50)).cell hltq (by simp) 1).trans hvq
            go_upto_region 8 with (at_builtin; refine step_new rfl (.tmp 42) (.tmp 48) rfl [] _ _ _ wq (by simp) L1.out (fun a e _ => absurd e (by simp)) rfl rfl ?_; intro v5 w5 hown hO5; have OWN5 := Lib.hid hown; have O5 := Lib.hid hO5; have hv5 := (hO5.cell hltq (by simp) 1).trans hvq; have hlt5 := Nat.lt_of_lt_of_le hltq hO5.size; have R5 := Lib.hid (RQ.out.kept hO5 (by simp)); have H5 := Lib.hid (own_only HQ.out hO5 (by simp)); clear hown hO5)
            have L2 := Lib.hid (lies_nil w5)
            have ov5 := ((Only.alloc [] w5 (.cells #[] 50)).cell hlt5 (by simp) 1).trans hv5
            go_wp2_with (at_builtin; refine step_new rfl (.tmp 51) (.tmp 57) rfl [] _ _ _ w5 (by simp) L2.out (fun a e _ => absurd e (by simp)) rfl rfl ?_; intro v7 w7 hown hO7; obtain ⟨va7, vc7, rfl⟩ := own_form hown; have OWN7 := Lib.hid hown; have O7 := Lib.hid hO7; have hf7 := (hO7.frozen hlt5 (by simp) 1).trans R5.out.f1; have hv7 := (hO7.cell hlt5 (by simp) 1).trans hv5; have hlt7 := Nat.lt_of_lt_of_le hlt5 hO7.size; clear hown hO7)
            go_ret
            obtain ⟨p1, p2, p3⟩ := R5.out.put O7.out OWN7.out
            have hO2 : Only [r] w7 (w7.setCell ⟨r, 1, none⟩ (.slice va7 0 vc7)) := Only.setCell w7 (by simp) _ _
            have hrow5 := own_only (own_only OWN5.out O7.out (by simp)) hO2 (fun g e => by simp; have := (OWN5.out.lt g e).1; omega)
            simp only [List.length_nil] at p1 p2 p3 hrow5
            first | refine ⟨v5, _, rfl, p1, own_seen2 hrow5 hsz, ?_, fun x hx => ?_⟩ | refine ⟨v5, rfl, _, p1, own_seen2 hrow5 hsz, ?_, fun x hx => ?_⟩
            · exact ((HOw.out.mono (S' := H) (by simp; exact hmem)).trans (O5.out.mono (by simp))).trans p2
            · rcases p3 x hx with h | h
              · exact Or.inl h
              · exact Or.inr (by have := O5.out.size; omega)
          · simp only [Value.slice.injEq] at hn1
            obtain ⟨e1, _, e3⟩ := hn1
            cases e1
            cases e3
            unfold maxLen at hcm
            have hkc : k ≤ cap := by omega
            by_cases hck : cap = k
            · obtain rfl : k = cap := hck.symm
              have hck0 : k - k = 0 := by omega
              have RQ := Lib.hid (R1.out.kept OQ.out (by simp))
              have HQ := Lib.hid (own_only HW.out OQ.out (by simp))
              have hvq := (OQ.out.cell hlt1 (by simp) 1).trans hv
              have hltq : r < wq.heap.size := Nat.lt_of_lt_of_le hlt1 OQ.out.size
              have hOw : Only [r] w wq := O1.out.trans (OQ.out.mono (by simp))
              have HOw := Lib.hid hOw
              have hsz : w.heap.size ≤ wq.heap.size := hOw.size
              clear OQ hOw R1 HW O1
              have L1 := Lib.hid (lies_take HQ.out hkle)
              have hgq : g < wq.heap.size := (HQ.out.lt g rfl).2
              have ovz := ((Only.alloc [] wq (.cells #[] 50)).cell hltq (by simp) 1).trans hvq
              go_upto_region 8 with (at_builtin; refine step_new rfl (.tmp 42) (.tmp 48) rfl (l.take k) _ _ _ wq (by rw [List.length_take]; omega) L1.out (fun a e _ => by cases e; exact ⟨hgq, rfl⟩) rfl rfl ?_; intro v5 w5 hown hO5; have OWN5 := Lib.hid hown; have O5 := Lib.hid hO5; have hv5 := (hO5.cell hltq (by simp) 1).trans hvq; have hlt5 := Nat.lt_of_lt_of_le hltq hO5.size; have R5 := Lib.hid (RQ.out.kept hO5 (by simp)); have H5 := Lib.hid (own_only HQ.out hO5 (by simp)); clear hown hO5)
              have L2 := Lib.hid (show Lies w5 (some ⟨g, 0, none⟩) 0 0 (l.drop k) from by rw [show l.drop k = [] from List.drop_eq_nil_of_le (by omega)]; exact lies_none _ _ _)
              have ov5 := ((Only.alloc [] w5 (.cells #[] 50)).cell hlt5 (by simp) 1).trans hv5
              go_wp2_with (at_builtin; refine step_new rfl (.tmp 51) (.tmp 57) rfl (l.drop k) _ _ _ w5 (by rw [List.length_drop]; omega) L2.out (fun a e _ => by cases e; exact ⟨Nat.lt_of_lt_of_le hgq O5.out.size, rfl⟩) rfl rfl ?_; intro v7 w7 hown hO7; obtain ⟨va7, vc7, rfl⟩ := own_form hown; have OWN7 := Lib.hid hown; have O7 := Lib.hid hO7; have hf7 := (hO7.frozen hlt5 (by simp) 1).trans R5.out.f1; have hv7 := (hO7.cell hlt5 (by simp) 1).trans hv5; have hlt7 := Nat.lt_of_lt_of_le hlt5 hO7.size; clear hown hO7)
              go_ret
              obtain ⟨p1, p2, p3⟩ := R5.out.put O7.out OWN7.out
              have hO2 : Only [r] w7 (w7.setCell ⟨r, 1, none⟩ (.slice va7 (l.drop k).length vc7)) := Only.setCell w7 (by simp) _ _
              have hrow5 := own_only (own_only OWN5.out O7.out (by simp)) hO2 (fun g e => by simp; have := (OWN5.out.lt g e).1; omega)
              have hkk : l.length - k = 0 := by omega
              simp only [List.length_drop, hkk] at p1 p2 p3 hrow5
              first | refine ⟨v5, _, rfl, p1, own_seen2 hrow5 hsz, ?_, fun x hx => ?_⟩ | refine ⟨v5, rfl, _, p1, own_seen2 hrow5 hsz, ?_, fun x hx => ?_⟩
              · exact ((HOw.out.mono (S' := H) (by simp; exact hmem)).trans (O5.out.mono (by simp))).trans p2
              · rcases p3 x hx with h | h
                · exact Or.inl h
                · exact Or.inr (by have := O5.out.size; omega)
            · have hck0 : ¬ cap - k = 0 := by omega
              have RQ := Lib.hid (R1.out.kept OQ.out (by simp))
              have HQ := Lib.hid (own_only HW.out OQ.out (by simp))
              have hvq := (OQ.out.cell hlt1 (by simp) 1).trans hv
              have hltq : r < wq.heap.size := Nat.lt_of_lt_of_le hlt1 OQ.out.size
              have hOw : Only [r] w wq := O1.out.trans (OQ.out.mono (by simp))
              have HOw := Lib.hid hOw
              have hsz : w.heap.size ≤ wq.heap.size := hOw.size
              clear OQ hOw R1 HW O1
              have L1 := Lib.hid (lies_take HQ.out hkle)
              have hgq : g < wq.heap.size := (HQ.out.lt g rfl).2
              have ovz := ((Only.alloc [] wq (.cells #[] 50)).cell hltq (by simp) 1).trans hvq
              go_upto_region 8 with (at_builtin; refine step_new rfl (.tmp 42) (.tmp 48) rfl (l.take k) _ _ _ wq (by rw [List.length_take]; omega) L1.out (fun a e _ => by cases e; exact ⟨hgq, rfl⟩) rfl rfl ?_; intro v5 w5 hown hO5; have OWN5 := Lib.hid hown; have O5 := Lib.hid hO5; have hv5 := (hO5.cell hltq (by simp) 1).trans hvq; have hlt5 := Nat.lt_of_lt_of_le hltq hO5.size; have R5 := Lib.hid (RQ.out.kept hO5 (by simp)); have H5 := Lib.hid (own_only HQ.out hO5 (by simp)); clear hown hO5)
              have L2 := Lib.hid (lies_drop H5.out hkle)
              have ov5 := ((Only.alloc [] w5 (.cells #[] 50)).cell hlt5 (by simp) 1).trans hv5
              go_wp2_with (at_builtin; refine step_new rfl (.tmp 51) (.tmp 57) rfl (l.drop k) _ _ _ w5 (by rw [List.length_drop]; omega) L2.out (fun a e _ => by cases e; exact ⟨Nat.lt_of_lt_of_le hgq O5.out.size, rfl⟩) rfl rfl ?_; intro v7 w7 hown hO7; obtain ⟨va7, vc7, rfl⟩ := own_form hown; have OWN7 := Lib.hid hown; have O7 := Lib.hid hO7; have hf7 := (hO7.frozen hlt5 (by simp) 1).trans R5.out.f1; have hv7 := (hO7.cell hlt5 (by simp) 1).trans hv5; have hlt7 := Nat.lt_of_lt_of_le hlt5 hO7.size; clear hown hO7)
              go_ret
              obtain ⟨p1, p2, p3⟩ := R5.out.put O7.out OWN7.out
              have hO2 : Only [r] w7 (w7.setCell ⟨r, 1, none⟩ (.slice va7 (l.drop k).length vc7)) := Only.setCell w7 (by simp) _ _
              have hrow5 := own_only (own_only OWN5.out O7.out (by simp)) hO2 (fun g e => by simp; have := (OWN5.out.lt g e).1; omega)
              simp only [List.length_drop] at p1 p2 p3 hrow5
              first | refine ⟨v5, _, rfl, p1, own_seen2 hrow5 hsz, ?_, fun x hx => ?_⟩ | refine ⟨v5, rfl, _, p1, own_seen2 hrow5 hsz, ?_, fun x hx => ?_⟩
              · exact ((HOw.out.mono (S' := H) (by simp; exact hmem)).trans (O5.out.mono (by simp))).trans p2
              · rcases p3 x hx with h | h
                · exact Or.inl h
                · exact Or.inr (by have := O5.out.size; omega)
  · have hd : decide ((4611686018427387904 : Int) < (a : Int)) = true := decide_eq_true (by omega)
    have e1 : advT t a = t := by unfold advT; rw [if_neg h62]
    have e2 : advO t a l = [] := by unfold advO; rw [if_neg h62]
    have e3 : advL t a l = l := by unfold advL; rw [if_neg h62]
    rw [e1, e2, e3]
    clear e1 e2 e3
    go_enter Try.func16, Try.ntmps16
    go_wp2_with fail
    go_ret
    exact ⟨_, H, rfl, HR.out, ⟨_, _, rfl, fun _ => rfl, fun h => by simp at h⟩, Only.refl _ _, fun x hx => Or.inl hx⟩
end Wh
end Go.Proofs.Ytddiapihopgpbaa
