/-
  What the document's own Remove answers, and leaves. Conditions: that its heap lies there, no number twice.
-/
import Derived.Test.YtmeadkllbjkjbaaHqRef
namespace Go.Proofs.Ytmeadkllbjkjbaa
open Go.RowKit
namespace Hq
open Ph (Only)
open Wh (Srt Uni ins del has mem_ins has_iff len_ins)
theorem grownN {w w' : World} {r : Option Nat} (h : w.grownBy w' r) : Only r.toList w w' :=
  ⟨h.os, h.tape, h.output, h.size, fun k hk hn => h.block k hk (fun e => hn (by rw [← e]; simp))⟩
theorem own_take {w : World} {base : Nat} {e : TypeId} {g cap : Nat} {l : List ItT} (h : w.ownsRow base e 2 (.slice (some ⟨g, 0, none⟩) l.length cap) l.length (flatD l)) {k : Nat} (hk : k ≤ l.length) : w.ownsRow base e 2 (.slice (some ⟨g, 0, none⟩) k cap) (l.take k).length (flatD (l.take k)) := by
  have hlen : (l.take k).length = k := by rw [List.length_take]; omega
  rw [hlen]
  obtain ⟨h1, h2⟩ := h
  rcases h2 with ⟨h0, _⟩ | ⟨g', cap', cur, hv, hg, hh, hn, hcap, hsz, htake⟩
  · cases h0
  · simp only [Value.slice.injEq, Option.some.injEq, Addr.mk.injEq] at hv
    obtain ⟨⟨rfl, _, _⟩, _, rfl⟩ := hv
    refine ⟨by rw [flatD_len, hlen], .inr ⟨g, cap, cur, rfl, hg, hh, by omega, hcap, hsz, ?_⟩⟩
    have e1 : flatD l = flatD (l.take k) ++ flatD (l.drop k) := by rw [← flatD_append, List.take_append_drop]
    have h3 : (cur.toList.take (l.length * 2)).take (k * 2) = (flatD l).take (k * 2) := by rw [htake]
    rw [List.take_take, Nat.min_eq_left (by omega), e1] at h3
    rw [h3]
    have hl2 : (flatD (l.take k)).length = k * 2 := by rw [flatD_len, hlen]
    rw [← hl2, List.take_left]
/-- A row that has grown in its own block, or moved to a new one, is put. -/
theorem RW.grow {w w' : World} {r : Nat} {H : List Nat} {l X : List ItT} {v v0 : Value} (h : RW w r H l) (h0 : w.cell? ⟨r, 0, none⟩ = some v0) (hv : w'.ownsRow 0 38 2 v X.length (flatD X)) (hb0 : ∀ g, v0.ownBlock = some g → g ∈ H ∧ g ≠ r)
    (hg : Only v0.ownBlock.toList w w') (ho : ∀ g, v.ownBlock = some g → v0.ownBlock = some g ∨ w.heap.size ≤ g) : RW (w'.setCell ⟨r, 0, none⟩ v) r (r :: v.ownBlock.toList) X ∧ Only H w (w'.setCell ⟨r, 0, none⟩ v) ∧ ∀ x ∈ r :: v.ownBlock.toList, x ∈ H ∨ w.heap.size ≤ x := by
  have hlt := h.lt r h.mem
  have hrn : r ∉ v0.ownBlock.toList := fun hx => (hb0 r (by simpa using hx)).2 rfl
  have hne : ∀ g, v.ownBlock = some g → g ≠ r := fun g e => by
    rcases ho g e with h1 | h1
    · exact (hb0 g h1).2
    · omega
  have ho2 : Only [r] w' (w'.setCell ⟨r, 0, none⟩ v) := Only.setCell w' (by simp) _ _
  have hc1 := (hg.cell hlt hrn 0).trans h0
  refine ⟨⟨fun x hx => ?_, by simp, (World.frozen?_setCell _ _ _ _).trans ((hg.frozen hlt hrn 0).trans h.f0), v, World.cell?_setCell_same' _ _ _ (by rw [hc1]; rfl), ?_, fun g e => ⟨by rw [e]; simp, hne g e⟩⟩, ?_, fun x hx => ?_⟩
  · rw [World.size_setCell]
    rcases List.mem_cons.1 hx with rfl | hx
    · exact Nat.lt_of_lt_of_le hlt hg.size
    · exact (hv.lt x (by simpa using hx)).2
  · exact own_only hv ho2 (fun g e => by simp; exact hne g e)
  · exact (hg.mono (fun x hx => (hb0 x (by simpa using hx)).1)).trans (ho2.mono (by simp; exact h.mem))
  · rcases List.mem_cons.1 hx with rfl | hx
    · exact Or.inl h.mem
    · rcases ho x (by simpa using hx) with h1 | h1
      · exact Or.inl (hb0 x h1).1
      · exact Or.inr h1
theorem del_at {d : Nat} : ∀ {l : List ItT} {k : Nat} {x : ItT}, Uni l → l[k]? = some x → x.1 = d → del d l = l.take k ++ l.drop (k + 1)
  | [], k, x, _, h, _ => by simp at h
  | y :: r, 0, x, hu, h, e => by
    obtain rfl : y = x := by simpa using h
    obtain ⟨h1, _⟩ := List.pairwise_cons.1 hu
    have hr : has d r = false := by
      cases hh : has d r with
      | false => rfl
      | true =>
        obtain ⟨z, hz, e'⟩ := has_iff.1 hh
        exact absurd (e.trans e'.symm) (h1 z hz)
    have : del d (y :: r) = del d r := by unfold del; rw [List.filter_cons_of_neg (by simp [e])]
    rw [this, has_no hr]
    rfl
  | y :: r, k + 1, x, hu, h, e => by
    obtain ⟨h1, h2⟩ := List.pairwise_cons.1 hu
    have hx : r[k]? = some x := by simpa using h
    have hy : y.1 ≠ d := fun e' => h1 x (List.mem_of_getElem? hx) (e'.trans e.symm)
    have : del d (y :: r) = y :: del d r := by unfold del; rw [List.filter_cons_of_pos (by simpa using hy)]
    rw [this, del_at h2 hx e]
    rfl
set_option maxRecDepth 100000 in
set_option maxHeartbeats 4000000 in
theorem rrem_any (r : Nat) (H : List Nat) (l : List ItT) (d : Int) (w : World) (hl : l.length ≤ 1000) (hu : Uni l) (hR : RW w r H l) :
    Calls Try.prog 12 #[.pointer (some ⟨r, 0, none⟩), .int .i64 d] w fun e w' => ∃ H', e = .returned (.bool (rmB d l)) ∧ RW w' r H' (rmL d l) ∧ Only H w w' ∧ ∀ x ∈ H', x ∈ H ∨ w.heap.size ≤ x := by
  have HR := Lib.hid hR
  have hlt := hR.lt r hR.mem
  obtain ⟨v, hv, hrow, hg⟩ := hR.row
  have hf1 := hR.f0
  have HX := Lib.hid (index_any r H l d w (by omega) hR)
  have hic := ix_can d l
  clear hR
  cases hb : rmB d l with
  | false =>
    rw [hb] at hic
    have hi : ixN d 0 l = -1 := by
      rcases ixN_low d 0 l with h | h
      · exact h
      · exact absurd (decide_eq_true h) (by simpa using hic)
    have e2 := rm_no hb
    rw [e2]
    rw [hi] at HX
    clear hi hic hb e2 hrow hg hf1
    go_enter Try.func12, Try.ntmps12
    go_wp2_with (go_at_call 25; refine HX.out.mono ?_; rintro e w1 ⟨rfl, rfl⟩)
    go_ret
    exact ⟨H, rfl, HR.out, Only.refl _ _, fun x hx => Or.inl hx⟩
  | true =>
    rw [hb] at hic
    obtain ⟨k, hk⟩ : ∃ k : Nat, ixN d 0 l = (k : Int) := ⟨(ixN d 0 l).toNat, by have := of_decide_eq_true hic; omega⟩
    rw [hk] at HX
    obtain ⟨x, _, hx, e⟩ := ixN_some hk
    rw [Nat.sub_zero] at hx
    have hkl := (List.getElem?_eq_some_iff.1 hx).1
    have e2 : rmL d l = l.take k ++ l.drop (k + 1) := by
      unfold rmL
      rw [if_pos hb]
      exact del_at hu hx (by omega)
    rw [e2]
    have hlen : (l.take k ++ l.drop (k + 1)).length = l.length - 1 := by rw [List.length_append, List.length_take, List.length_drop]; omega
    obtain ⟨av, cap, rfl⟩ := own_form hrow
    rcases hrow.2 with ⟨hn1, hn2⟩ | ⟨g, cc, cur, hn1, _, _, hnc, hcm, _⟩
    · omega
    · simp only [Value.slice.injEq] at hn1
      obtain ⟨e1, _, e3⟩ := hn1
      subst e1
      subst e3
      unfold maxLen at hcm
      have OT := Lib.hid (own_take hrow (k := k) (by omega))
      have hgr : g ∈ H ∧ g ≠ r := hg g rfl
      have hd := Only.drewN [] w 1
      have OTd := Lib.hid (own_only OT.out hd (by simp))
      have RD := Lib.hid (HR.out.kept hd (by simp))
      have hvd : w.drew.cell? ⟨r, 0, none⟩ = some (.slice (some ⟨g, 0, none⟩) l.length cap) := (hd.cell hlt (by simp) 0).trans hv
      have rowd := Lib.hid (own_only hrow hd (by simp))
      have hkc : k ≤ cap := by omega
      have hkc1 : k + 1 ≤ cap := by omega
      clear hrow hic hb hk hx e e2 hg OT hd
      go_enter Try.func12, Try.ntmps12
      go_upto_region 4 with (go_at_call 25; refine HX.out.mono ?_; rintro e w1 ⟨rfl, rfl⟩)
      have hwr : IntKind.i64.wrap ((k : Int) + 1) = (k : Int) + 1 := by rw [IntKind.wrap_i64]; omega
      have hp0 : (0 : Int) ≤ (k : Int) + 1 := by omega
      have hp1 : (k : Int) + 1 ≤ (l.length : Int) := by omega
      have hp2 : ((k : Int) + 1).toNat = k + 1 := by omega
      obtain ⟨AD, hAD, hLA⟩ : ∃ AD : Addr, (if cap = k + 1 then some (⟨g, 0, none⟩ : Addr) else some ⟨g, (k + 1) * 2, none⟩) = some AD ∧ Lies w.drew (some AD) (l.length - (k + 1)) (cap - (k + 1)) (l.drop (k + 1)) := by
        by_cases h : cap = k + 1
        · refine ⟨⟨g, 0, none⟩, by rw [if_pos h], ?_⟩
          rw [show l.drop (k + 1) = [] from List.drop_eq_nil_of_le (by omega), show l.length - (k + 1) = 0 by omega]
          exact lies_none _ _ _
        · exact ⟨⟨g, (k + 1) * 2, none⟩, by rw [if_neg h], lies_drop rowd.out (by omega)⟩
      have LS := Lib.hid hLA
      clear hLA
      go_region_law (refine step_app_law rfl (.tmp 17) (.tmp 24) rfl 0 _ (l.take k) (l.drop (k + 1)) (some AD) (l.length - (k + 1)) (cap - (k + 1)) _ OTd.out (Nat.zero_le _) (by rw [List.length_take, List.length_drop]; omega) LS.out (by simp [Act.eval, Act.put]) (by simp [Act.eval, Act.put]) ?_; intro v' W' hown hgrw hob; rw [hlen] at hown; obtain ⟨va, vc, rfl⟩ := own_form hown; have OW := Lib.hid hown; have OB := Lib.hid hob; have GW := Lib.hid (grownN hgrw); have wv := ((grownN hgrw).cell (w := w.drew) hlt (by simp [Value.ownBlock]; exact fun e => hgr.2 e.symm) 0).trans hvd; have wf := ((grownN hgrw).frozen (w := w.drew) hlt (by simp [Value.ownBlock]; exact fun e => hgr.2 e.symm) 0).trans RD.out.f0; have wlt := Nat.lt_of_lt_of_le hlt hgrw.size; clear hown hgrw hob)
      all_goals
        go_wp2_with fail
        go_ret
        obtain ⟨p1, p2, p3⟩ := RD.out.grow hvd (X := l.take k ++ l.drop (k + 1)) (v := .slice va (l.length - 1) vc) (by rw [hlen]; exact OW.out) (fun g' e => by cases e; exact hgr) GW.out (fun g' e => by
          rcases OB.out with h1 | h1
          · rw [h1] at e; cases e; exact Or.inl rfl
          · rw [h1] at e; cases e; exact Or.inr (Nat.le_refl _))
        exact ⟨_, rfl, p1, (Only.drewN H w 1).trans p2, p3⟩
end Hq
end Go.Proofs.Ytmeadkllbjkjbaa
