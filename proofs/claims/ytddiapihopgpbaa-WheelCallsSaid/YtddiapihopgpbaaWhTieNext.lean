/-
  What a wheel's Next answers: the first of all its timers. Conditions: that a wheel lies there.
-/
import Derived.Test.YtddiapihopgpbaaWhMin
namespace Go.Proofs.Ytddiapihopgpbaa
open Go.RowKit Go.Maps Go.Shelf
attribute [local go_sem] Oper.semAt_some
namespace Wh
open Ph (Only)
open Hp (lt lt_irr lt_asym le_trans lt_total)

/-- Which slots have timers. -/
def fullOf (L : Nat → List DuT) (k : Nat) : Bool := !(L k).isEmpty
theorem full_iff {L : Nat → List DuT} {k : Nat} : fullOf L k = true ↔ 0 < (L k).length := by
  unfold fullOf
  cases h : L k <;> simp
theorem Wx.shows {w : World} {p A t : Nat} {la : List DuT} {m : Nat → Option Nat} {L : Nat → List DuT} (h : Wx w p A t la m L) {k : Nat} (hk : k < 168) {full : Nat → Bool} (hf : full k = fullOf L k) : Shows full p t k w := by
  refine ⟨h.c0, h.lt, m k, (L k).length, h.ck k hk, fun ty => ?_, by rw [hf]; exact full_iff⟩
  cases e : m k with
  | some b => exact (h.some_ k b hk e).count ty
  | none =>
    rw [h.none_ k hk e]
    exact Maps.len_nil Try.underlying57 ty
theorem Wx.full_map {w : World} {p A t : Nat} {la : List DuT} {m : Nat → Option Nat} {L : Nat → List DuT} (h : Wx w p A t la m L) {k : Nat} (hk : k < 168) (hf : fullOf L k = true) : ∃ b, m k = some b ∧ Mp w b (L k) := by
  cases e : m k with
  | some b => exact ⟨b, rfl, h.some_ k b hk e⟩
  | none =>
    have := full_iff.1 hf
    rw [h.none_ k hk e] at this
    simp at this
theorem turn_only {X X' : World} {row : Option Nat} (hg : X.grownBy X' row) : Only row.toList X X' :=
  ⟨hg.os, hg.tape, hg.output, hg.size, fun k hk hn => hg.block k hk (fun e => hn (by rw [← e]; simp))⟩
theorem turn_not {n : Nat} {X : World} {row : Option Nat} (hr : ∀ r, row = some r → n ≤ r ∧ ∃ o : Obj, X.heap[r]? = some o ∧ o.isCells = false) {b : Nat} (hb : b < n) : b ∉ row.toList := by
  intro h
  have := (hr b (by simpa using h)).1
  omega
theorem _root_.Go.Proofs.Ytddiapihopgpbaa.Ph.Only.keeps {S : List Nat} {W W' : World} {B : Nat} (h : Only S W W') (hs : ∀ x ∈ S, x < B) : KeepsFrom B W W' :=
  ⟨h.size, fun k o hB hk _ => (h.block k (Array.getElem?_eq_some_iff.1 hk).1 (fun e => by have := hs k e; omega)).trans hk⟩
/-- The first timer of the first slot that has one is the first of all. -/
theorem first_of {t : Nat} {l : List DuT} (hf : Fine t l) {k : Nat} (h0 : fulls (fullOf (inK t l)) k = []) (hk : fullOf (inK t l) k = true) {y : DuT} (hy : y ∈ inK t l k) (hm : ∀ z ∈ inK t l k, ¬ lt z y) : l ≠ [] ∧ nxt l = y := by
  have ht := hf.time
  have hyl := (List.mem_filter.1 hy).1
  have hyk : pl t y.2 = k := by simpa using (List.mem_filter.1 hy).2
  cases l with
  | nil => cases hyl
  | cons x r =>
    refine ⟨by simp, ?_⟩
    show x = y
    have hx := hf.ats x (by simp)
    have hp := List.pairwise_cons.1 hf.srt
    have hfx : fullOf (inK t (x :: r)) (pl t x.2) = true := full_iff.2 (List.length_pos_of_mem (List.mem_filter.2 ⟨List.mem_cons_self, by simp⟩))
    have h1 : ¬ pl t x.2 < k := fun h => by
      have := fulls_mem.2 ⟨h, hfx⟩
      rw [h0] at this; cases this
    rcases List.mem_cons.1 hyl with e | hyr
    · exact e.symm
    · have hxy := hp.1 y hyr
      have h2 : ¬ k < pl t x.2 := fun h => by
        rw [← hyk] at h
        have hya := hf.ats y (by simp [hyr])
        have := pl_later (by omega) (by omega) h
        have := lt_at hxy
        omega
      have hxk : pl t x.2 = k := by omega
      exact absurd hxy (hm x (List.mem_filter.2 ⟨List.mem_cons_self, by simpa using hxk⟩))
theorem none_of {t : Nat} {l : List DuT} (hf : Fine t l) (h0 : fulls (fullOf (inK t l)) (pl t 4611686018427387904 + 1) = []) : l = [] := by
  have ht := hf.time
  cases l with
  | nil => rfl
  | cons x r =>
    have hx := hf.ats x (by simp)
    have hfx : fullOf (inK t (x :: r)) (pl t x.2) = true := full_iff.2 (List.length_pos_of_mem (List.mem_filter.2 ⟨List.mem_cons_self, by simp⟩))
    have := pl_mono (t := t) (a := x.2) (b := 4611686018427387904) (by omega) (by omega) (by omega)
    have := fulls_mem.2 ⟨show pl t x.2 < pl t 4611686018427387904 + 1 by omega, hfx⟩
    rw [h0] at this
    cases this
/-- What lies while the slots are gone through. -/
structure Nx (n₀ p : Nat) (w : World) (x : DuT) (r : Bool) (W : World) : Prop where
  b0 : Bx1 W (n₀ + 2) (.pointer (some ⟨p, 0, none⟩))
  b1 : Bx1 W (n₀ + 3) (.int .u64 4611686018427387904)
  r0 : Lay W n₀ 42 (encD x)
  r1 : Lay W (n₀ + 1) 4 [.bool r]
  bel : Below n₀ w W
theorem Nx.own {β : Type} (n₀ p : Nat) (w : World) (x : β → DuT) (r : β → Bool) (g : β → Prop) (hn : n₀ = w.heap.size) (n : Nat) (h4 : n = n₀ + 4) : OwnFrom n (fun (s : β) W => g s ∧ Nx n₀ p w (x s) (r s) W) := by
  intro s X X' row h hg hr
  have ho := turn_only hg
  exact ⟨h.1, h.2.b0.kept ho (turn_not hr (by omega)), h.2.b1.kept ho (turn_not hr (by omega)), h.2.r0.kept ho (turn_not hr (by omega)), h.2.r1.kept ho (turn_not hr (by omega)),
    h.2.bel.grown hg (by have := h.2.bel.size; omega) (fun k e => by have := (hr k e).1; omega)⟩
theorem Nx.begin (w : World) (p : Nat) : Nx w.heap.size p w (0, 0) false ((((w.alloc (.cells #[.int .i64 0, .int .u64 0] 42)).alloc (.cells #[.bool false] 4)).alloc (.cells #[.pointer (some ⟨p, 0, none⟩)] 25)).alloc (.cells #[.int .u64 4611686018427387904] 22)) := by
  have r0 := Lay.new w 42 (encD (0, 0))
  have o1 := Only.alloc [] w (.cells #[.int .i64 0, .int .u64 0] 42)
  have z1 : (w.alloc (.cells #[.int .i64 0, .int .u64 0] 42)).heap.size = w.heap.size + 1 := World.size_alloc _ _
  change Lay (w.alloc (.cells #[.int .i64 0, .int .u64 0] 42)) _ _ _ at r0
  generalize w.alloc (.cells #[.int .i64 0, .int .u64 0] 42) = w1 at *
  have r1 := Lay.new w1 4 [.bool false]
  have o2 := Only.alloc [] w1 (.cells #[.bool false] 4)
  have z2 : (w1.alloc (.cells #[.bool false] 4)).heap.size = w.heap.size + 2 := by rw [World.size_alloc, z1]
  rw [z1] at r1
  change Lay (w1.alloc (.cells #[.bool false] 4)) _ _ _ at r1
  generalize w1.alloc (.cells #[.bool false] 4) = w2 at *
  have b0 := Bx1.new w2 (.pointer (some ⟨p, 0, none⟩)) 25 z2.symm
  have o3 := Only.alloc [] w2 (.cells #[.pointer (some ⟨p, 0, none⟩)] 25)
  have z3 : (w2.alloc (.cells #[.pointer (some ⟨p, 0, none⟩)] 25)).heap.size = w.heap.size + 3 := by rw [World.size_alloc, z2]
  generalize w2.alloc (.cells #[.pointer (some ⟨p, 0, none⟩)] 25) = w3 at *
  have b1 := Bx1.new w3 (.int .u64 4611686018427387904) 22 z3.symm
  have o4 := Only.alloc [] w3 (.cells #[.int .u64 4611686018427387904] 22)
  exact ⟨b0.kept o4 (by simp), b1, ((r0.kept o2 (by simp)).kept o3 (by simp)).kept o4 (by simp), (r1.kept o3 (by simp)).kept o4 (by simp), (((o1.trans o2).trans o3).trans o4).below (Nat.le_refl _) (by simp)⟩
set_option maxRecDepth 100000 in
set_option maxHeartbeats 4000000 in
theorem next_any (w : World) (p A t : Nat) (l : List DuT) (m : Nat → Option Nat) (hW : Wx w p A t l m (inK t l)) (hf : Fine t l) :
    Calls Try.prog 17 #[.pointer (some ⟨p, 0, none⟩)] w fun e w' => e = .returned (.tuple #[dV (nxt l), .bool (!l.isEmpty)]) ∧ Only [] w w' := by
  have HW := Lib.hid hW
  have HF := Lib.hid hf
  have ht : t < 2 ^ 63 := by have := hf.time; omega
  have hpl := hW.lt
  clear hW hf
  refine (callsIn_wide (n := 3)).1 ?_
  refine callsIn_of_wp_marks Try.func17 rfl trivial ?_ rfl
  simp only [Try.ntmps17, List.size_toArray, List.length_cons, List.length_nil, Nat.reduceAdd, Nat.reduceSub, Array.replicate_succ, Array.replicate_zero, List.push_toArray, List.append_toArray, List.nil_append, List.cons_append]
  gi_wp2
  refine ⟨trivial, (callsIn_wide.2 (until_any p 4611686018427387904 _)).mono ?_⟩
  rintro e w' ⟨rfl, rfl⟩
  gi_wp2
  have HI := Lib.hid (Nx.begin w p)
  have hsz : ((((w.alloc (.cells #[.int .i64 0, .int .u64 0] 42)).alloc (.cells #[.bool false] 4)).alloc (.cells #[.pointer (some ⟨p, 0, none⟩)] 25)).alloc (.cells #[.int .u64 4611686018427387904] 22)).heap.size = w.heap.size + 4 := by simp
  generalize ((((w.alloc (.cells #[.int .i64 0, .int .u64 0] 42)).alloc (.cells #[.bool false] 4)).alloc (.cells #[.pointer (some ⟨p, 0, none⟩)] 25)).alloc (.cells #[.int .u64 4611686018427387904] 22)) = W0 at *
  refine range_told (α := Nat) (encs := encK p) (F := Fence.wide) (n := 3) rfl (by decide) (gf := 32) (lb := #[.pointer (some ⟨w.heap.size + 2, 0, none⟩), .pointer (some ⟨w.heap.size + 3, 0, none⟩)]) rfl trivial ?h2 (fun _ => rfl)
    (I := fun pre W => pre = [] ∧ Nx w.heap.size p w (0, 0) false W) (Ix := fun (pre : List Nat) W => l ≠ [] ∧ Nx w.heap.size p w (nxt l) true W) (Nx.own w.heap.size p w (fun _ => (0, 0)) (fun _ => false) (fun pre => pre = []) rfl _ hsz) (Nx.own w.heap.size p w (fun _ => nxt l) (fun _ => true) (fun _ => l ≠ []) rfl _ hsz) ⟨rfl, HI.out⟩
    (until_tells 2 (by omega) _ _ p t 4611686018427387904 ht (by omega) (fullOf (inK t l)) _ _ (fun k X hk hx => ⟨hx.2.b0, hx.2.b1, (HW.out.quiet (Only.of hx.2.bel [])).shows (by have := pl_lt (t := t) (x := 4611686018427387904) ht (by omega); omega) rfl⟩))
    (fun x => { tmps := #[.pointer (some ⟨p, 0, none⟩), undef, .pointer (some ⟨w.heap.size, 0, none⟩), .pointer (some ⟨w.heap.size + 1, 0, none⟩), .pointer (some ⟨p, 2 + x, none⟩), .pointer (some ⟨p, 0, none⟩), .func (.func 32) #[] #[.pointer (some ⟨w.heap.size + 2, 0, none⟩), .pointer (some ⟨w.heap.size + 3, 0, none⟩)], .pointer (some ⟨p, 2 + x, none⟩), undef, undef, undef, undef, undef, undef, undef], defers := [] }) ?assign ?body ?done ?stop
  case h2 => exact enters_of Try.func32 (by kernel_rfl) rfl
  case assign =>
    intro lb x W K hK
    dsimp only [encK]
    gi_wp2
    exact hK
  case body =>
    rintro lb pre k W hlb _ ⟨rfl, hN⟩ ⟨hk, hfk, hpre⟩
    have hk168 : k < 168 := by have := pl_lt (t := t) (x := 4611686018427387904) ht (by omega); omega
    have hW2 := HW.out.quiet (Only.of hN.bel [])
    obtain ⟨b, hmb, hM⟩ := hW2.full_map hk168 hfk
    have hc := hW2.ck k hk168
    rw [hmb] at hc
    have hpw := hW2.lt
    have HM := Lib.hid hM
    have HN := Lib.hid hN
    have HP := Lib.hid hpre
    have HFK := Lib.hid hfk
    clear hN hW2 hmb hM hpre hfk
    gi_wp2
    refine ⟨trivial, (callsIn_wide.2 (timers_any _ _)).mono ?_⟩
    rintro e W1 ⟨rfl, rfl⟩
    have hlen : (inK t l k).length ≤ 1000 := (HF.out.fit.filter _).len
    have HL := Lay.new W 57 [.map (some b)]
    have HC := Lib.hid (collect_any 33 #[.pointer (some ⟨W.heap.size, 0, none⟩)] (fun xs => xs.Perm (inK t l k)) (inK t l k).length hlen (W.alloc (.cells #[.map (some b)] 57)) (enters_of Try.func33 (by kernel_rfl) rfl)
      (seq_less (timers_stops 2 (by omega) W.heap.size b (inK t l k) _ HL.lt (HL.cell 0) (HM.out.kept (Only.alloc [] W _) (by simp))) (fun _ _ h => Kw.of_walks h)))
    clear HL
    gi_wp2
    refine ⟨trivial, (callsIn_wide.2 HC.out).mono ?_⟩
    rintro e W2 ⟨v, xs, rfl, hxs, hrow, hnil, hB⟩
    have hne : 0 < xs.length := by rw [hxs.length_eq]; exact full_iff.1 HFK.out
    obtain ⟨g, cap, rfl⟩ : ∃ g cap, v = .slice (some ⟨g, 0, none⟩) xs.length cap := by
      rcases hrow.2 with ⟨e, _⟩ | ⟨g', cap', cur, e, _⟩
      · have := hnil.1 e
        rw [this] at hne; simp at hne
      · exact ⟨g', cap', e⟩
    obtain ⟨hR, _, _⟩ := owned_row hrow
    have HX := Lib.hid hxs
    have HM2 := Lib.hid (min_any g cap xs W2 hR hne (by rw [hxs.length_eq]; exact hlen))
    have HB := Lib.hid ((Only.alloc [] W (.cells #[.map (some b)] 57)).trans (Only.of hB []))
    clear hxs hrow hnil hB hR hne HC
    gi_wp2
    refine ⟨trivial, (callsIn_wide.2 HM2.out).mono ?_⟩
    rintro e W3 ⟨y, rfl, hyx, hmin, hO3⟩
    have hy : l ≠ [] ∧ nxt l = y := first_of HF.out (by rw [← HP.out]) HFK.out (HX.out.mem_iff.1 hyx) (fun z hz => hmin z (HX.out.mem_iff.2 hz))
    have hO := HB.out.trans hO3
    have hN := HN.out
    have r0 := hN.r0.kept hO (by simp)
    have r1 := hN.r1.kept hO (by simp)
    have b0 := hN.b0.kept hO (by simp)
    have b1 := hN.b1.kept hO (by simp)
    have hb := hN.bel.trans (hO.below hN.bel.size (by simp))
    have c0 := r0.cell 0
    have c1 := r0.cell 1
    have c2 := r1.cell 0
    have f0 := r0.free 0
    have f1 := r0.free 1
    have f2 := r1.free 0
    simp only [encD, List.getElem?_cons_zero, List.getElem?_cons_succ] at c0 c1 c2
    have l0 := r0.lt
    have l1 := r1.lt
    have HR0 := Lib.hid r0
    have HR1 := Lib.hid r1
    have HBB := Lib.hid (And.intro b0 (And.intro b1 (And.intro hb hy)))
    clear r0 r1 b0 b1 hb hy hN hO hyx hmin
    gi_wp2
    have a1 := (HR0.out.set 0 (.int .i64 (y.1 : Nat))).set 1 (.int .u64 (y.2 : Nat))
    have o1 : Only [w.heap.size] W3 ((W3.setCell ⟨w.heap.size, 0, none⟩ (.int .i64 (y.1 : Nat))).setCell ⟨w.heap.size, 1, none⟩ (.int .u64 (y.2 : Nat))) := (Only.setCell W3 (by simp) _ _).trans (Only.setCell _ (by simp) _ _)
    have a2 := HR1.out.kept o1 (by simp)
    clear HR0 HR1 c0 c1 c2 f0 f1 f2 l0 l1
    generalize ((W3.setCell ⟨w.heap.size, 0, none⟩ (.int .i64 (y.1 : Nat))).setCell ⟨w.heap.size, 1, none⟩ (.int .u64 (y.2 : Nat))) = W4 at *
    have o2 : Only [w.heap.size + 1] W4 (W4.setCell ⟨w.heap.size + 1, 0, none⟩ (.bool true)) := Only.setCell W4 (by simp) _ _
    have a3 := a2.set 0 (.bool true)
    have a4 := a1.kept o2 (by simp)
    generalize (W4.setCell ⟨w.heap.size + 1, 0, none⟩ (.bool true)) = W5 at *
    have oo : Only [w.heap.size, w.heap.size + 1] W3 W5 := (o1.mono (by simp)).trans (o2.mono (by simp))
    obtain ⟨b0, b1, hb, hl, he⟩ := HBB.out
    exact ⟨((HB.out.trans hO3).keeps (by simp)).trans (oo.keeps (fun x hx => by simp at hx; omega)), hl, b0.kept oo (by simp), b1.kept oo (by simp), by rw [he]; exact a4, a3, hb.trans (oo.below hb.size (fun x hx => by simp at hx; omega))⟩
  case stop =>
    rintro D pre W hD _ ⟨hl, hN⟩ hK
    have hne : (!l.isEmpty) = true := by cases l <;> simp_all
    have HNE := Lib.hid hne
    clear hne
    have ho := turn_only (grownBy_putObj' W D (.deferred none))
    have hnd : ∀ x, x < w.heap.size + 4 → x ∉ (some D).toList := fun x hx h => by simp at h; omega
    have r0 := hN.r0.kept ho (hnd _ (by omega))
    have r1 := hN.r1.kept ho (hnd _ (by omega))
    have c0 := r0.cell 0
    have c1 := r0.cell 1
    have c2 := r1.cell 0
    have q0 := hN.r0.cell 0
    have q1 := hN.r0.cell 1
    have q2 := hN.r1.cell 0
    simp only [encD, List.getElem?_cons_zero, List.getElem?_cons_succ] at c0 c1 c2 q0 q1 q2
    have HB := Lib.hid hN.bel
    clear hN r0 r1
    obtain ⟨y, hy⟩ : ∃ y, nxt l = y := ⟨_, rfl⟩
    have HY := Lib.hid hy
    rw [hy] at c0 c1 q0 q1
    clear hy
    gi_wp2
    refine ⟨by simp, .inl ⟨_, _, rfl, run_takeDeferred hK, ?_⟩⟩
    refine ⟨.tuple #[dV y, .bool true], ?_, by rw [HNE.out, HY.out], Only.of (HB.out.trans (belowK_b (w := w) (Nat.le_refl _) W D _ _ (by omega) hK rfl rfl)) []⟩
    simp [results, Try.f17, go_sem, c0, c1, c2]
  case done =>
    rintro D xs W hD hxs ⟨rfl, hN⟩ hK
    have hl := none_of HF.out hxs.symm
    subst hl
    have c0 := hN.r0.cell 0
    have c1 := hN.r0.cell 1
    have c2 := hN.r1.cell 0
    have f0 := hN.r0.free 0
    have f1 := hN.r0.free 1
    have f2 := hN.r1.free 0
    have l0 := hN.r0.lt
    have l1 := hN.r1.lt
    simp only [encD, List.getElem?_cons_zero, List.getElem?_cons_succ] at c0 c1 c2
    have HN := Lib.hid hN
    clear hN
    gi_wp2
    have a1 := (HN.out.r0.set 0 (.int .i64 0)).set 1 (.int .u64 0)
    have o1 : Only [w.heap.size] W ((W.setCell ⟨w.heap.size, 0, none⟩ (.int .i64 0)).setCell ⟨w.heap.size, 1, none⟩ (.int .u64 0)) := (Only.setCell W (by simp) _ _).trans (Only.setCell _ (by simp) _ _)
    have a2 := HN.out.r1.kept o1 (by simp)
    have k1 : ((W.setCell ⟨w.heap.size, 0, none⟩ (.int .i64 0)).setCell ⟨w.heap.size, 1, none⟩ (.int .u64 0)).heap[D]? = some (.deferred (some [])) := (o1.block D (Array.getElem?_eq_some_iff.1 hK).1 (by simp; omega)).trans hK
    clear c0 c1 c2 f0 f1 f2
    have HB := Lib.hid (HN.out.bel.trans (o1.below HN.out.bel.size (by simp)))
    clear o1 HN
    generalize ((W.setCell ⟨w.heap.size, 0, none⟩ (.int .i64 0)).setCell ⟨w.heap.size, 1, none⟩ (.int .u64 0)) = W4 at *
    have o2 : Only [w.heap.size + 1] W4 (W4.setCell ⟨w.heap.size + 1, 0, none⟩ (.bool false)) := Only.setCell W4 (by simp) _ _
    have a3 := a2.set 0 (.bool false)
    have a4 := a1.kept o2 (by simp)
    have k2 := (o2.block D (Array.getElem?_eq_some_iff.1 k1).1 (by simp; omega)).trans k1
    have HB2 := Lib.hid (HB.out.trans (o2.below HB.out.size (by simp)))
    clear o2
    generalize (W4.setCell ⟨w.heap.size + 1, 0, none⟩ (.bool false)) = W5 at *
    have ho := turn_only (grownBy_putObj' W5 D (.deferred none))
    have hnd : ∀ x, x < w.heap.size + 4 → x ∉ (some D).toList := fun x hx h => by simp at h; omega
    have r0 := a4.kept ho (hnd _ (by omega))
    have r1 := a3.kept ho (hnd _ (by omega))
    have c0 := r0.cell 0
    have c1 := r0.cell 1
    have c2 := r1.cell 0
    simp only [encD, List.set_cons_zero, List.set_cons_succ, List.getElem?_cons_zero, List.getElem?_cons_succ] at c0 c1 c2
    refine ⟨by simp, .inl ⟨_, _, rfl, run_takeDeferred k2, ?_⟩⟩
    refine ⟨.tuple #[dV (0, 0), .bool false], ?_, rfl, Only.of (HB2.out.trans (belowK_b (w := w) (Nat.le_refl _) W5 D _ _ (by omega) k2 rfl rfl)) []⟩
    simp [results, Try.f17, go_sem, c0, c1, c2]
theorem tNext (w : World) (p : Nat) (F : List Nat) (t : Nat) (l : List DuT) (h : WhT w p F t l) : Calls Try.prog 17 #[.pointer (some ⟨p, 0, none⟩)] w fun e w' => e = .returned (.tuple #[dV (nxt l), .bool (!l.isEmpty)]) ∧ Only [] w w' := by
  obtain ⟨A, m, rfl, hw, hf⟩ := h
  exact next_any w p A t l m hw hf
end Wh
end Go.Proofs.Ytddiapihopgpbaa
