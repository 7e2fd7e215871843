/-
  What slices.MinFunc answers of a row of timers: the first one in the chapter's order. Conditions: the row isn't empty.
-/
import Derived.Test.YtddiapihopgpbaaWhCollect
import Derived.Deep.LoopGhost
namespace Go.Proofs.Ytddiapihopgpbaa
open Go.RowKit Go.Maps Go.Shelf Go.Sort
namespace Wh
open Ph (Only)
open Hp (lt lt_irr lt_asym le_trans lt_total)

theorem Lay.set {w : World} {b : Nat} {t : TypeId} {cs : List Value} (h : Lay w b t cs) (j : Nat) (v : Value) : Lay (w.setCell ⟨b, j, none⟩ v) b t (cs.set j v) := by
  have hlt := h.lt
  unfold Lay at h ⊢
  obtain ⟨hl, hk⟩ := Array.getElem?_eq_some_iff.1 h
  show (w.heap.modify b _)[b]? = _
  rw [Array.getElem?_eq_getElem (by rw [Array.size_modify]; exact hl), Array.getElem_modify_self, hk]
  simp
/-- A row of timers in a block. -/
structure RowD (w : World) (b : Nat) (xs : List DuT) : Prop where
  lt : b < w.heap.size
  cell : ∀ (i : Nat) (x : DuT), xs[i]? = some x → w.cell? ⟨b, i * 2, none⟩ = some (.int .i64 (x.1 : Nat)) ∧ w.cell? ⟨b, i * 2 + 1, none⟩ = some (.int .u64 (x.2 : Nat))
theorem RowD.kept {w w' : World} {b : Nat} {xs : List DuT} {S : List Nat} (h : RowD w b xs) (ho : Only S w w') (hb : b ∉ S) : RowD w' b xs :=
  ⟨Nat.lt_of_lt_of_le h.lt ho.size, fun i x hx => ⟨(ho.cell h.lt hb _).trans (h.cell i x hx).1, (ho.cell h.lt hb _).trans (h.cell i x hx).2⟩⟩
theorem owned_row {w : World} {n₀ g n cap : Nat} {xs : List DuT} (h : w.ownsRow n₀ 42 2 (.slice (some ⟨g, 0, none⟩) n cap) xs.length (flatD xs)) : RowD w g xs ∧ n₀ ≤ g ∧ n = xs.length := by
  rcases h.2 with ⟨e, _⟩ | ⟨g', cap', cur, e, hg, hb, _, _, _, ht⟩
  · cases e
  · cases e
    have hc : ∀ j, j < xs.length * 2 → w.cell? ⟨g, j, none⟩ = (flatD xs)[j]? := fun j hj => by
      rw [← ht, List.getElem?_take_of_lt hj, Array.getElem?_toList]
      simp [World.cell?, hb]
    refine ⟨⟨(Array.getElem?_eq_some_iff.1 hb).1, fun i x hx => ?_⟩, hg, rfl⟩
    have hi := (List.getElem?_eq_some_iff.1 hx).1
    obtain ⟨e1, e2⟩ := flatD_at hx
    exact ⟨(hc _ (by omega)).trans e1, (hc _ (by omega)).trans e2⟩
set_option maxRecDepth 100000 in
set_option maxHeartbeats 4000000 in
theorem min_any (b cap : Nat) (xs : List DuT) (w : World) (h : RowD w b xs) (hn : 0 < xs.length) (hl : xs.length ≤ 1000) :
    Calls Try.prog 29 #[.slice (some ⟨b, 0, none⟩) xs.length cap, .func (.func 28) #[] #[]] w fun e w' => ∃ y, e = .returned (dV y) ∧ y ∈ xs ∧ (∀ z ∈ xs, ¬ lt z y) ∧ Only [] w w' := by
  obtain ⟨x0, hx0⟩ : ∃ x, xs[0]? = some x := ⟨xs[0], List.getElem?_eq_getElem hn⟩
  obtain ⟨c0, c1⟩ := h.cell 0 x0 hx0
  simp only [Nat.zero_mul, Nat.zero_add] at c0 c1
  have hbl := h.lt
  have HR := Lib.hid h
  have H0 := Lib.hid hx0
  have hd : decide (xs.length < 1) = false := decide_eq_false (by omega)
  have hd2 : decide ((xs.length : Int) < 1) = false := decide_eq_false (by omega)
  clear h hx0
  go_enter Try.func29, Try.ntmps29
  go_wp2
  have LM := Lay.new (w.alloc (.cells #[.int .i64 0, .int .u64 0] 42)) 42 (encD x0)
  have L4 := (Lay.new w 42 (encD (0, 0))).kept (Only.alloc [] _ (.cells (encD x0).toArray 42)) (by simp)
  have hO := (Only.alloc [] w (.cells #[.int .i64 0, .int .u64 0] 42)).trans (Only.alloc [] _ (.cells (encD x0).toArray 42))
  rw [World.size_alloc] at LM
  change Lay ((w.alloc (.cells #[.int .i64 0, .int .u64 0] 42)).alloc (.cells #[.int .i64 (x0.1 : Nat), .int .u64 (x0.2 : Nat)] 42)) _ _ _ at LM L4
  change Only [] w ((w.alloc (.cells #[.int .i64 0, .int .u64 0] 42)).alloc (.cells #[.int .i64 (x0.1 : Nat), .int .u64 (x0.2 : Nat)] 42)) at hO
  generalize ((w.alloc (.cells #[.int .i64 0, .int .u64 0] 42)).alloc (.cells #[.int .i64 (x0.1 : Nat), .int .u64 (x0.2 : Nat)] 42)) = w1 at *
  go_loopw [6] (fun c wr => ∃ (i : Nat) (y : DuT), c = .int .i64 i ∧ 1 ≤ i ∧ i ≤ xs.length ∧ y ∈ xs ∧ (∀ z ∈ xs.take i, ¬ lt z y) ∧ Lay wr (w.heap.size + 1) 42 (encD y) ∧ Lay wr w.heap.size 42 (encD (0, 0)) ∧ Only [] w wr) (fun c _ => xs.length - (intOf c).toNat)
  case atStart =>
    refine ⟨1, x0, rfl, Nat.le_refl _, hn, List.mem_of_getElem? H0.out, ?_, LM, L4, hO⟩
    intro z hz
    have : xs.take 1 = [x0] := by
      have := H0.out
      cases xs with
      | nil => cases this
      | cons a r => simp at this; simp [this]
    rw [this] at hz
    have : z = x0 := by simpa using hz
    rw [this]
    exact lt_irr _
  case round =>
    obtain ⟨i, y, rfl, h1, hi, hy, hall, hLM, hL4, hOw⟩ := hrel
    clear LM L4 hO
    by_cases hlt : i < xs.length
    · obtain ⟨x, hx⟩ : ∃ x, xs[i]? = some x := ⟨xs[i], List.getElem?_eq_getElem hlt⟩
      have hRw := HR.out.kept hOw (by simp)
      obtain ⟨e0, e1⟩ := hRw.cell i x hx
      have m0 := hLM.cell 0
      have m1 := hLM.cell 1
      simp only [encD, List.getElem?_cons_zero, List.getElem?_cons_succ] at m0 m1
      have hbw := hRw.lt
      have hml := hLM.lt
      have HLM := Lib.hid hLM
      have HL4 := Lib.hid hL4
      have HOw := Lib.hid hOw
      have HX := Lib.hid (And.intro hx (And.intro hy hall))
      have OC := Lib.hid (fun W => order_kept x y W)
      clear hLM hL4 hOw hx hy hall hRw
      have k0 := cell_regrown e0
      have k1 := cell_regrown e1
      have k2 := cell_regrown m0
      have k3 := cell_regrown m1
      go_wp2
      refine wp_region_quiet_below (by kernel_rfl) (by kernel_rfl) ?_
      repeat (go_big_quiet_step (first | (go_at_call 28; exact Calls.regrown_of (OC.out _))))
      refine wpQuiet_nil ?_
      intro _ hw'
      obtain ⟨⟨dq, osq⟩, hw''⟩ := hw'
      subst hw''
      have hO2 := Only.of (below_regrown wr dq osq) []
      have HLM2 := Lib.hid (HLM.out.kept hO2 (by simp))
      have HL42 := Lib.hid (HL4.out.kept hO2 (by simp))
      have HOw2 := Lib.hid (HOw.out.trans hO2)
      have hO0 := hO2.cell hbw (by simp) (i * 2)
      have hO1 := hO2.cell hbw (by simp) (i * 2 + 1)
      rw [e0] at hO0
      rw [e1] at hO1
      have hbw2 : b < (Go.Sort.grow (redrawn wr dq) osq).heap.size := Nat.lt_of_lt_of_le hbw hO2.size
      clear e0 e1 m0 m1 HLM HL4 HOw hO2 hbw hml OC k0 k1 k2 k3
      generalize Go.Sort.grow (redrawn wr dq) osq = w5 at *
      have m0 := HLM2.out.cell 0
      have m1 := HLM2.out.cell 1
      have f0 := HLM2.out.free 0
      have f1 := HLM2.out.free 1
      simp only [encD, List.getElem?_cons_zero, List.getElem?_cons_succ] at m0 m1
      have hml := HLM2.out.lt
      by_cases hc : cmpD x y < 0
      · have HC := Lib.hid (cmpD_lt.1 hc)
        go_wp2
        have hL3 := ((HLM2.out.set 0 (.int .i64 (x.1 : Nat))).set 1 (.int .u64 (x.2 : Nat)))
        have hO3 : Only [w.heap.size + 1] w5 ((w5.setCell ⟨w.heap.size + 1, 0, none⟩ (.int .i64 (x.1 : Nat))).setCell ⟨w.heap.size + 1, 1, none⟩ (.int .u64 (x.2 : Nat))) := (Only.setCell w5 (by simp) _ _).trans (Only.setCell _ (by simp) _ _)
        go_roundw
        case rel =>
          refine ⟨i + 1, x, by simp, by omega, by omega, List.mem_of_getElem? HX.out.1, fun z hz => ?_, hL3, HL42.out.kept hO3 (by simp), ((HOw2.out.mono (S' := [w.heap.size + 1]) (by simp)).trans hO3).back (n := w.heap.size) (fun q hq => by simp at hq; subst hq; exact Or.inr (by omega)) (Nat.le_refl _)⟩
          rw [List.take_add_one, HX.out.1] at hz
          rcases List.mem_append.1 hz with hz | hz
          · have := HX.out.2.2 z hz
            have hxy := HC.out
            exact fun h => this (lt_trans h hxy)
          · have : z = x := by simpa using hz
            rw [this]; exact lt_irr _
        case measure => simp only [intOf]; omega
      · have HC := Lib.hid (show ¬ lt x y from fun h => hc (cmpD_lt.2 h))
        have hc2 : 0 ≤ cmpD x y := by omega
        go_wp2
        go_roundw
        case rel =>
          refine ⟨i + 1, y, by simp, by omega, by omega, HX.out.2.1, fun z hz => ?_, HLM2.out, HL42.out, HOw2.out⟩
          rw [List.take_add_one, HX.out.1] at hz
          rcases List.mem_append.1 hz with hz | hz
          · exact HX.out.2.2 z hz
          · have : z = x := by simpa using hz
            rw [this]; exact HC.out
        case measure => simp only [intOf]; omega
    · obtain rfl : i = xs.length := by omega
      have m0 := hLM.cell 0
      have m1 := hLM.cell 1
      have q0 := hL4.cell 0
      have q1 := hL4.cell 1
      have f0 := hL4.free 0
      have f1 := hL4.free 1
      simp only [encD, List.getElem?_cons_zero, List.getElem?_cons_succ] at m0 m1 q0 q1
      have hml := hLM.lt
      have hql := hL4.lt
      have HLM := Lib.hid hLM
      have HL4 := Lib.hid hL4
      have HOw := Lib.hid hOw
      have HX := Lib.hid (And.intro hy hall)
      clear hLM hL4 hOw hy hall
      go_wp2
      have hL3 := ((HL4.out.set 0 (.int .i64 (y.1 : Nat))).set 1 (.int .u64 (y.2 : Nat)))
      have hO3 : Only [w.heap.size] wr ((wr.setCell ⟨w.heap.size, 0, none⟩ (.int .i64 (y.1 : Nat))).setCell ⟨w.heap.size, 1, none⟩ (.int .u64 (y.2 : Nat))) := (Only.setCell wr (by simp) _ _).trans (Only.setCell _ (by simp) _ _)
      have HO3 := Lib.hid (((HOw.out.mono (S' := [w.heap.size]) (by simp)).trans hO3).back (S' := []) (n := w.heap.size) (fun q hq => by simp at hq; subst hq; exact Or.inr (Nat.le_refl _)) (Nat.le_refl _))
      clear hO3 m0 m1 q0 q1 f0 f1
      generalize ((wr.setCell ⟨w.heap.size, 0, none⟩ (.int .i64 (y.1 : Nat))).setCell ⟨w.heap.size, 1, none⟩ (.int .u64 (y.2 : Nat))) = w6 at *
      have r0 := hL3.cell 0
      have r1 := hL3.cell 1
      simp only [encD, List.set_cons_zero, List.set_cons_succ, List.getElem?_cons_zero, List.getElem?_cons_succ] at r0 r1
      refine bodyPost_ret (v := dV y) (by simp [results, Try.results29, go_sem, r0, r1]) rfl ⟨y, rfl, HX.out.1, fun z hz => HX.out.2 z (by rw [List.take_length]; exact hz), HO3.out⟩
end Wh
end Go.Proofs.Ytddiapihopgpbaa
