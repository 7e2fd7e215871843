/-
  What a wheel's Add and Cancel answer, and leave. Conditions: that a wheel lies there; numbers are in their kind's range.
-/
import Derived.Test.YtddiapihopgpbaaWhTiePut
namespace Go.Proofs.Ytddiapihopgpbaa
open Go.RowKit Go.Maps
namespace Wh
open Ph (Only)

theorem ins_perm (x : DuT) : ∀ (l : List DuT), (ins x l).Perm (x :: l)
  | [] => List.Perm.refl _
  | y :: l => by
    unfold ins
    split
    · exact ((ins_perm x l).cons y).trans (List.Perm.swap _ _ _)
    · exact List.Perm.refl _
theorem inK_cons (t : Nat) (x : DuT) (l : List DuT) (j : Nat) : inK t (x :: l) j = updL (inK t l) (pl t x.2) (x :: inK t l (pl t x.2)) j := by
  unfold inK
  by_cases e : j = pl t x.2
  · subst e
    rw [updL_at, List.filter_cons_of_pos (by simp)]
  · rw [updL_of _ e, List.filter_cons_of_neg (by simp; exact fun h => e h.symm)]
theorem inK_perm (t : Nat) {l m : List DuT} (h : l.Perm m) (k : Nat) : (inK t l k).Perm (inK t m k) := h.filter _
theorem has_filter {d : Nat} {l : List DuT} (p : DuT → Bool) (h : has d l = false) : has d (l.filter p) = false := by
  cases e : has d (l.filter p) with
  | false => rfl
  | true =>
    obtain ⟨x, hx, e⟩ := has_iff.1 e
    have := has_iff.2 ⟨x, (List.mem_filter.1 hx).1, e⟩
    rw [h] at this; cases this
/-- A number that isn't in a full row leaves room. -/
theorem room {l : List DuT} (h : Fit l) {x : DuT} (hx : x.1 ≤ 999) (hn : has x.1 l = false) : l.length < 1000 := by
  have hne : ∀ y ∈ l, x.1 ≠ y.1 := fun y hy e => by
    have := has_iff.2 ⟨y, hy, e.symm⟩
    rw [hn] at this
    cases this
  have hu : Uni (x :: l) := List.pairwise_cons.2 ⟨hne, h.uni⟩
  have := uni_len 1000 hu (fun y hy => by
    rcases List.mem_cons.1 hy with rfl | hy
    · omega
    · have := h.ids y hy; omega)
  simp at this
  omega
theorem look_there {d : Int} {l : List DuT} (h0 : 0 ≤ d) : (atP d l).isSome = has d.toNat l := by rw [atP_has]; unfold canB; simp [h0]
set_option maxRecDepth 100000 in
theorem add_range (w : World) (p : Nat) (d : Int) (a : Nat) (h : d < 0 ∨ 999 < d ∨ 4611686018427387904 < a) : Calls Try.prog 10 #[.pointer (some ⟨p, 0, none⟩), .int .i64 d, .int .u64 (a : Nat)] w fun e w' => e = .returned (.int .i64 11) ∧ Only [] w w' := by
  by_cases h0 : d < 0
  · clear h
    go_enter Try.func10, Try.ntmps10
    go_wp2
    go_ret
    exact ⟨rfl, Only.refl _ _⟩
  · by_cases h1 : 1000 ≤ d
    · clear h
      go_enter Try.func10, Try.ntmps10
      go_wp2
      go_ret
      exact ⟨rfl, Only.refl _ _⟩
    · have h2 : 4611686018427387904 < a := by omega
      clear h
      go_enter Try.func10, Try.ntmps10
      go_wp2
      go_ret
      exact ⟨rfl, Only.refl _ _⟩
set_option maxRecDepth 100000 in
theorem add_there (w : World) (p A t : Nat) (l : List DuT) (m : Nat → Option Nat) (L : Nat → List DuT) (d : Int) (a : Nat) (h : Wx w p A t l m L) (hf : Fit l) (h0 : 0 ≤ d) (h1 : d ≤ 999) (ha : a ≤ 4611686018427387904) (hh : has d.toNat l = true) :
    Calls Try.prog 10 #[.pointer (some ⟨p, 0, none⟩), .int .i64 d, .int .u64 (a : Nat)] w fun e w' => e = .returned (.int .i64 13) ∧ Only [] w w' := by
  have c1 := h.c1
  have hl := h.all.look hf (show W64 d by unfold W64; simp [Lit.wf, IntKind.min, IntKind.max, IntKind.signed, IntKind.bits]; omega)
  rw [look_there h0, hh] at hl
  generalize (atP d l).getD 0 = x at hl
  clear h hf hh
  go_enter Try.func10, Try.ntmps10
  go_wp2
  go_ret
  exact ⟨rfl, Only.refl _ _⟩
set_option maxRecDepth 100000 in
theorem add_new (w : World) (p A t : Nat) (l : List DuT) (m : Nat → Option Nat) (x : DuT) (h : Wx w p A t l m (inK t l)) (hf : Fine t l) (h1 : x.1 ≤ 999) (ha : x.2 ≤ 4611686018427387904) (hh : has x.1 l = false) :
    Calls Try.prog 10 #[.pointer (some ⟨p, 0, none⟩), .int .i64 (x.1 : Nat), .int .u64 (x.2 : Nat)] w fun e w' => e = .returned (.int .i64 0) ∧ Grown (blks p A m) w w' fun F' => ∃ m', F' = blks p A m' ∧ Wx w' p A t (ins x l) m' (inK t (ins x l)) := by
  have c1 := h.c1
  have hl := h.all.look hf.fit (wf_nat h1)
  rw [look_there (by omega), Int.toNat_natCast, hh] at hl
  generalize (atP (x.1 : Nat) l).getD 0 = y at hl
  obtain ⟨w2, hrun, hm2, hg2⟩ := h.all.put hf.fit h1 hh (by omega) (room hf.fit h1 hh)
  have h2 := h.turnA hg2 hm2
  have ht := hf.time
  have HC := Lib.hid (put_any w2 p A t _ m _ x h2 (by omega) (by omega) h1 (hf.fit.filter _) (has_filter _ hh) (room (hf.fit.filter _) h1 (has_filter _ hh)))
  have HG := Lib.hid hg2
  clear h hf hh hm2 hg2 h2
  go_enter Try.func10, Try.ntmps10
  go_wp2_with (go_at_call 22; refine HC.out.mono ?_; rintro e w3 ⟨rfl, m', hW, hO, hF⟩)
  go_ret
  refine ⟨rfl, _, ⟨m', rfl, hW.perm (ins_perm x l).symm (fun k hk => ?_)⟩, ((only_grown HG.out).mono (by simp; exact mem_blks.2 (Or.inr (Or.inl rfl)))).trans hO, fun y hy => (hF y hy).imp id (fun e => Nat.le_trans HG.out.size e)⟩
  rw [← inK_cons]
  exact inK_perm t (ins_perm x l).symm k
theorem tAdd (w : World) (p : Nat) (F : List Nat) (t : Nat) (l : List DuT) (d : Int) (a : Nat) (h : WhT w p F t l) (_hd : W64 d) (_ha : a < 18446744073709551616) : Calls Try.prog 10 #[.pointer (some ⟨p, 0, none⟩), .int .i64 d, .int .u64 (a : Nat)] w fun e w' => e = .returned (.int .i64 (addE d a l)) ∧ Grown F w w' fun F' => WhT w' p F' t (addL d a l) := by
  obtain ⟨A, m, rfl, hw, hf⟩ := h
  by_cases h1 : d < 0 ∨ 999 < d ∨ 4611686018427387904 < a
  · have e1 : addE d a l = 11 := by unfold addE; rw [if_pos h1]
    have e2 : addL d a l = l := by unfold addL; rw [e1]; rfl
    rw [e1, e2]
    refine (add_range w p d a h1).mono ?_
    rintro e w' ⟨he, ho⟩
    exact ⟨he, _, ⟨A, m, rfl, hw.quiet ho, hf⟩, ho.mono (by simp), fun x hx => Or.inl hx⟩
  · by_cases h2 : has d.toNat l = true
    · have e1 : addE d a l = 13 := by unfold addE; rw [if_neg h1, if_pos h2]
      have e2 : addL d a l = l := by unfold addL; rw [e1]; rfl
      rw [e1, e2]
      refine (add_there w p A t l m _ d a hw hf.fit (by omega) (by omega) (by omega) h2).mono ?_
      rintro e w' ⟨he, ho⟩
      exact ⟨he, _, ⟨A, m, rfl, hw.quiet ho, hf⟩, ho.mono (by simp), fun x hx => Or.inl hx⟩
    · have e1 : addE d a l = 0 := by unfold addE; rw [if_neg h1, if_neg h2]
      have e2 : addL d a l = ins (d.toNat, a) l := by unfold addL; rw [e1]; rfl
      have hf2 := hf.add d a
      rw [e2] at hf2
      rw [e1, e2]
      have hc := add_new w p A t l m (d.toNat, a) hw hf (by show d.toNat ≤ 999; omega) (by show a ≤ _; omega) (by simpa using h2)
      rw [show (((d.toNat, a) : DuT).1 : Int) = d by show ((d.toNat : Nat) : Int) = d; omega] at hc
      refine hc.mono ?_
      rintro e w' ⟨he, F', ⟨m', rfl, hW⟩, ho, hF⟩
      exact ⟨he, _, ⟨A, m', rfl, hW, hf2⟩, ho, hF⟩
theorem canL_yes {d : Int} {l : List DuT} (h : canB d l = true) : canL d l = del d.toNat l := by unfold canL; rw [if_pos h]
theorem uniT_eq {x y : DuT} {l : List DuT} (hu : Uni l) (hx : x ∈ l) (hy : y ∈ l) (e : x.1 = y.1) : x = y := by
  induction l with
  | nil => cases hx
  | cons z l ih =>
    have hp := List.pairwise_cons.1 hu
    rcases List.mem_cons.1 hx with h1 | h1
    · rcases List.mem_cons.1 hy with h2 | h2
      · rw [h1, h2]
      · exact absurd (by rw [← h1]; exact e) (hp.1 y h2)
    · rcases List.mem_cons.1 hy with h2 | h2
      · exact absurd (by rw [← h2]; exact e.symm) (hp.1 x h1)
      · exact ih hp.2 h1 h2
/-- What a cancel leaves of the slots. -/
theorem inK_cut {t : Nat} {l : List DuT} (hu : Uni l) {d : Int} {a : Nat} (ha : atP d l = some a) (j : Nat) : inK t (canL d l) j = updL (inK t l) (pl t a) (canL d (inK t l (pl t a))) j := by
  obtain ⟨h0, hm⟩ := atM_some ha
  have hb : canB d l = true := by rw [← atP_has, ha]; rfl
  have hbk : canB d (inK t l (pl t a)) = true := by
    unfold canB
    simp only [h0, decide_true, Bool.true_and]
    exact has_iff.2 ⟨_, List.mem_filter.2 ⟨hm, by simp⟩, rfl⟩
  rw [canL_yes hb, canL_yes hbk]
  unfold inK del
  by_cases e : j = pl t a
  · subst e
    rw [updL_at, List.filter_filter, List.filter_filter]
    exact List.filter_congr fun x _ => Bool.and_comm _ _
  · rw [updL_of _ e, List.filter_filter]
    refine List.filter_congr fun x hx => ?_
    by_cases e2 : x.1 = d.toNat
    · have := uniT_eq hu hx hm e2
      subst this
      simp
      exact fun h => e h.symm
    · simp [e2]
set_option maxRecDepth 100000 in
theorem cancel_no (w : World) (p A t : Nat) (l : List DuT) (m : Nat → Option Nat) (L : Nat → List DuT) (d : Int) (h : Wx w p A t l m L) (hf : Fit l) (hd : W64 d) (hh : canB d l = false) :
    Calls Try.prog 12 #[.pointer (some ⟨p, 0, none⟩), .int .i64 d] w fun e w' => e = .returned (.bool false) ∧ Only [] w w' := by
  have c1 := h.c1
  have hl := h.all.look hf hd
  rw [atP_has, hh] at hl
  generalize (atP d l).getD 0 = x at hl
  clear h hf hh hd
  go_enter Try.func12, Try.ntmps12
  go_wp2
  go_ret
  exact ⟨rfl, Only.refl _ _⟩
set_option maxRecDepth 100000 in
theorem can_yes (w : World) (p A t : Nat) (l : List DuT) (m : Nat → Option Nat) (d : Int) (a : Nat) (h : Wx w p A t l m (inK t l)) (hf : Fine t l) (hd : W64 d) (ha : atP d l = some a) :
    Calls Try.prog 12 #[.pointer (some ⟨p, 0, none⟩), .int .i64 d] w fun e w' => e = .returned (.bool true) ∧ Wx w' p A t (canL d l) m (inK t (canL d l)) ∧ Only (blks p A m) w w' := by
  have c1 := h.c1
  have hl := h.all.look hf.fit hd
  rw [ha] at hl
  obtain ⟨h0, hm⟩ := atM_some ha
  have hal := hf.ats _ hm
  simp only at hal
  have htl := hf.time
  obtain ⟨w2, hrun, hm2, hg2⟩ := h.all.cut hf.fit hd
  have h2 := h.turnA hg2 hm2
  have hk : pl t a < 168 := pl_lt (by omega) (by omega)
  obtain ⟨b, hb⟩ : ∃ b, m (pl t a) = some b := by
    cases e : m (pl t a) with
    | some b => exact ⟨b, rfl⟩
    | none =>
      have := h.none_ _ hk e
      have hx : ((d.toNat, a) : DuT) ∈ inK t l (pl t a) := List.mem_filter.2 ⟨hm, by simp⟩
      rw [this] at hx
      cases hx
  have HS := Lib.hid (slotOf_any w2 p t a h2.c0 (by omega) (by omega))
  have HC := Lib.hid (fun j => inK_cut (t := t) hf.uni ha j)
  have HG := Lib.hid hg2
  have H2 := Lib.hid h2
  have HB := Lib.hid (And.intro hk hb)
  have HF := Lib.hid (And.intro (hf.fit.filter (fun x => pl t x.2 == pl t a)) hd)
  have c12 := h2.c1
  clear h hf hm2 hg2 h2 hm ha hk hb hd
  simp only [Option.getD_some, Option.isSome_some] at hl
  go_enter Try.func12, Try.ntmps12
  go_wp2_with (go_at_call 24; refine HS.out.mono ?_; rintro e w3 ⟨rfl, ho3⟩; have h3 := H2.out.quiet ho3; have hc3 := h3.ck _ HB.out.1; rw [HB.out.2] at hc3; obtain ⟨w4, hrun4, hm4, hg4⟩ := (h3.some_ _ b HB.out.1 HB.out.2).cut HF.out.1 HF.out.2)
  go_ret
  refine ⟨rfl, ?_, ?_⟩
  · have h4 := h3.turnK HB.out.1 HB.out.2 hg4 hm4
    rw [show inK t (canL d l) = updL (inK t l) (pl t a) (canL d (inK t l (pl t a))) from funext HC.out]
    exact h4
  · exact (((only_grown HG.out).mono (by simp; exact mem_blks.2 (Or.inr (Or.inl rfl)))).trans (ho3.mono (by simp))).trans ((only_grown hg4).mono (by simp; exact mem_blks.2 (Or.inr (Or.inr ⟨_, HB.out.1, HB.out.2⟩))))
theorem tCancel (w : World) (p : Nat) (F : List Nat) (t : Nat) (l : List DuT) (d : Int) (h : WhT w p F t l) (hd : W64 d) : Calls Try.prog 12 #[.pointer (some ⟨p, 0, none⟩), .int .i64 d] w fun e w' => e = .returned (.bool (canB d l)) ∧ Grown F w w' fun F' => WhT w' p F' t (canL d l) := by
  obtain ⟨A, m, rfl, hw, hf⟩ := h
  cases hb : canB d l with
  | false =>
    have e2 : canL d l = l := by unfold canL; rw [hb]; rfl
    rw [e2]
    refine (cancel_no w p A t l m _ d hw hf.fit hd hb).mono ?_
    rintro e w' ⟨he, ho⟩
    exact ⟨he, _, ⟨A, m, rfl, hw.quiet ho, hf⟩, ho.mono (by simp), fun x hx => Or.inl hx⟩
  | true =>
    rw [← atP_has] at hb
    obtain ⟨a, ha⟩ := Option.isSome_iff_exists.1 hb
    refine (can_yes w p A t l m d a hw hf hd ha).mono ?_
    rintro e w' ⟨he, h1, ho⟩
    exact ⟨he, _, ⟨A, m, rfl, h1, hf.can d⟩, ho, fun x hx => Or.inl hx⟩
end Wh
end Go.Proofs.Ytddiapihopgpbaa
