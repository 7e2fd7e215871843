/-
  What the heap's settle does: an item is laid where it belongs. Conditions: that a heap with one free place lies there.
-/
import Derived.Test.YtmeadkllbjkjbaaHqBk
namespace Go.Proofs.Ytmeadkllbjkjbaa
open Go.RowKit
namespace Hq
open Ph (Only)
open Hp (lt lt_irr lt_asym le_trans lt_total)

/-- An item is on its way: place k is free for it. -/
structure Mid (w0 w : World) (p n L : Nat) (it : ItT) (C : ItT → Prop) (k : Nat) (a : Nat → ItT) (q : Nat → Nat) : Prop where
  bk : Bk w p n a q
  lay : Lay w L 53 [.int .i64 (it.1 : Nat), .int .u64 (it.2 : Nat)]
  ne : L ≠ p
  k1 : 1 ≤ k
  kn : k ≤ n
  rl : Rl (updF a k it) n (updF q it.1 k) C
  ids : ∀ x, C x → x.1 < 64
  old : Only [p] w0 w
section
variable {w0 w w' : World} {p n L k : Nat} {it : ItT} {C : ItT → Prop} {a : Nat → ItT} {q : Nat → Nat}
theorem Mid.quiet (h : Mid w0 w p n L it C k a q) (ho : Only [] w w') : Mid w0 w' p n L it C k a q :=
  { h with bk := h.bk.quiet ho, lay := h.lay.kept ho (by simp), old := h.old.trans (ho.mono (by simp)) }
theorem Mid.it64 (h : Mid w0 w p n L it C k a q) : it.1 < 64 := h.ids it ((h.rl.mem it).1 ⟨k, h.k1, h.kn, updF_at _ _ _⟩)
theorem Mid.at64 (h : Mid w0 w p n L it C k a q) {v : Nat} (hv : 1 ≤ v) (hvn : v ≤ n) (hne : v ≠ k) : (a v).1 < 64 := h.ids (a v) ((h.rl.mem (a v)).1 ⟨v, hv, hvn, updF_ne _ _ hne⟩)
theorem Mid.step (h : Mid w0 w p n L it C k a q) {v : Nat} (hv : 1 ≤ v) (hvn : v ≤ n) (hne : v ≠ k) (hb : Bk w' p n (updF a k (a v)) (updF q (a v).1 k)) (ho : Only [p] w w') : Mid w0 w' p n L it C v (updF a k (a v)) (updF q (a v).1 k) :=
  ⟨hb, h.lay.kept ho (by simpa using h.ne), h.ne, hv, hvn, h.rl.move h.k1 h.kn hv hvn hne, h.ids, h.old.trans ho⟩
end
set_option maxRecDepth 100000 in
set_option maxHeartbeats 1000000 in
theorem settle_any (w : World) (p n k : Nat) (a : Nat → ItT) (q : Nat → Nat) (it : ItT) (C : ItT → Prop) (h : Bk w p n a q) (hn : n ≤ 64) (hk1 : 1 ≤ k) (hkn : k ≤ n) (hr : Rl (updF a k it) n (updF q it.1 k) C) (ho : OrdX (updF a k it) n k) (hi : ∀ x, C x → x.1 < 64) :
    Calls Try.prog 24 #[.pointer (some ⟨p, 0, none⟩), .int .i64 (k : Nat), iV it] w fun e w' => e = .returned (.tuple #[]) ∧ ∃ a' q', Bk w' p n a' q' ∧ Rl a' n q' C ∧ Ordr a' n ∧ Only [p] w w' := by
  have hpl := h.lt
  have hB := Lay.new w 53 [.int .i64 (it.1 : Nat), .int .u64 (it.2 : Nat)]
  have oB := Only.alloc [] w (.cells #[.int .i64 (it.1 : Nat), .int .u64 (it.2 : Nat)] 53)
  have M0 : Mid w (w.alloc (.cells #[.int .i64 (it.1 : Nat), .int .u64 (it.2 : Nat)] 53)) p n w.heap.size it C k a q := ⟨h.quiet oB, hB, by omega, hk1, hkn, hr, hi, oB.mono (by simp)⟩
  obtain ⟨v, hv⟩ : ∃ v, v = k / 2 := ⟨_, rfl⟩
  have e1 : (k : Int) / 2 = ((v : Nat) : Int) := by omega
  have hkk : k ≤ 64 := by omega
  have H0 := Lib.hid (And.intro hv (And.intro M0 ho))
  have HP := Lib.hid hpl
  clear h hr ho hi hk1 hkn hv hB oB M0 hpl
  go_enter Try.func24, Try.ntmps24
  go_wp2_with fail
  generalize (w.alloc (.cells #[.int .i64 (it.1 : Nat), .int .u64 (it.2 : Nat)] 53)) = w1 at *
  generalize w.heap.size = L at *
  clear e1 hkk
  go_loopw [1, 6] (fun f u wr => ∃ (k' v : Nat) (a' : Nat → ItT) (q' : Nat → Nat), f = .int .i64 k' ∧ u = .int .i64 v ∧ Hid (v = k' / 2 ∧ Mid w wr p n L it C k' a' q' ∧ OrdX (updF a' k' it) n k')) (fun f _ _ => (intOf f).toNat)
  case atStart => exact ⟨k, v, a, q, rfl, rfl, H0⟩
  case round =>
    clear H0
    obtain ⟨k1, u, a1, q1, rfl, rfl, hm⟩ := hrel
    have hk1 := hm.out.2.1.kn
    by_cases hu : u = 0
    · subst hu
      have ho : OrdD (updF a1 k1 it) n k1 := hm.out.2.2.d (Or.inl (by have := hm.out.1; omega))
      have HD := Lib.hid (fun m => And.intro (hm.out.2.1.quiet (Only.drewN [] wr m)) ho)
      clear hm ho
      go_wp2_with fail
      go_quiet (fail)
      go_wp2_with (go_at_call 31; refine (below_any _ p n k1 a1 q1 (HD.out _).1.bk (by omega) hn).mono ?_; rintro e w5 ⟨rfl, ho5⟩; have HD5 := Lib.hid (And.intro ((HD.out _).1.quiet ho5) (HD.out 0).2); clear ho5 HD)
      generalize hbl : bel a1 n k1 = d0
      have HB0 := Lib.hid (And.intro hbl.symm HD5.out)
      clear hbl HD5
      go_wp2_with fail
      obtain ⟨wz, hwz⟩ : ∃ wz, wz = wr := ⟨_, rfl⟩
      subst hwz
      go_loopw [1, 7] (fun f d wr => ∃ (k' e : Nat) (a' : Nat → ItT) (q' : Nat → Nat), f = .int .i64 k' ∧ d = .int .i64 e ∧ Hid (e = bel a' n k' ∧ Mid w wr p n L it C k' a' q' ∧ OrdD (updF a' k' it) n k')) (fun f _ _ => n - (intOf f).toNat)
      case atStart => exact ⟨k1, d0, a1, q1, rfl, rfl, HB0⟩
      case round =>
        clear HB0
        obtain ⟨k2, d, a2, q2, rfl, rfl, hm⟩ := hrel
        have hk2 := hm.out.2.1.kn
        by_cases hd : d = 0
        · subst hd
          have HF := Lib.hid (show ∀ m, Mid w (wr.drewN m) p n L it C k2 a2 q2 from fun m => hm.out.2.1.quiet (Only.drewN [] wr m))
          have HO2 := Lib.hid (hm.out.2.2.done hm.out.2.1.k1 (Or.inl hm.out.1.symm))
          have c0 := fun m => (HF.out m).lay.cell 0
          have c1 := fun m => (HF.out m).lay.cell 1
          simp only [List.getElem?_cons_zero, List.getElem?_cons_succ] at c0 c1
          clear hm
          go_wp2_with fail
          go_quiet (fail)
          go_wp2_with (go_at_call 30; refine (lay_any _ p n k2 a2 q2 it (HF.out _).bk (by omega) (HF.out 0).it64).mono ?_; rintro e w6 ⟨rfl, hb6, ho6⟩; have HE := Lib.hid (And.intro hb6 (And.intro (HF.out 0).rl (And.intro HO2.out ((HF.out _).old.trans ho6)))); clear hb6 ho6 c0 c1)
          go_end0
          exact ⟨rfl, _, _, HE.out⟩
        · have hd0 : 0 < d := by omega
          have hch := bel_char a2 n hm.out.2.1.k1
          rw [← hm.out.1] at hch
          have hch2 : 1 < d ∧ d ≤ n ∧ d / 2 = k2 ∧ ∀ i, i / 2 = k2 → 1 < i → i ≤ n → ¬ lt (a2 i) (a2 d) := by
            rcases hch with ⟨e, _⟩ | e
            · exact absurd e hd
            · exact e
          have hdn := hch2.2.1
          have hd65 : ¬ (65 ≤ (d : Int)) := by omega
          have hne : d ≠ k2 := by have := hch2.2.2.1; omega
          have hm2 := hm.out.2.1.quiet (Only.drewN [] wr 1)
          have c0 := hm2.lay.cell 0
          have c1 := hm2.lay.cell 1
          simp only [List.getElem?_cons_zero, List.getElem?_cons_succ] at c0 c1
          have i0 := hm2.bk.ci d (by omega)
          have i1 := hm2.bk.ck d (by omega)
          have HC := Lib.hid (fun W => ahead_any (a2 d) it W)
          have HM := Lib.hid hm2
          have HU := Lib.hid (And.intro hne hch2)
          clear hm2 hd hne hch hch2
          by_cases hl : lt (a2 d) it
          · have HC2 := Lib.hid (fun W => by have := HC.out W; rw [decide_eq_true hl] at this; exact this)
            have HL := Lib.hid hl
            clear HC hl
            go_wp2_with fail
            refine wp_region_still_tail 10 (by kernel_rfl) (by kernel_rfl) ?_
            rw [show ({ wr with drawn := wr.drawn + 1 } : World) = wr.drewN 1 from rfl]
            generalize wr.drewN 1 = w2 at *
            simp only [List.take_succ_cons, List.take_zero, List.drop_succ_cons, List.drop_zero]
            repeat still_step
            refine wpStill_nil ?_
            go_wp2_with (first
              | (go_at_call 29; refine (HC2.out _).mono ?_; rintro e w3 ⟨rfl, ho3⟩; have HM3 := Lib.hid (HM.out.quiet ho3); have j0 := HM3.out.bk.ci d (by omega); have j1 := HM3.out.bk.ck d (by omega); clear ho3 c0 c1 i0 i1)
              | (go_at_call 30; refine (lay_any _ p n k2 a2 q2 (a2 d) HM3.out.bk (by omega) (HM3.out.at64 (by omega) hdn HU.out.1)).mono ?_; rintro e w4 ⟨rfl, hb4, ho4⟩; have HM4 := Lib.hid (HM3.out.step (by omega) hdn HU.out.1 hb4 ho4); clear hb4 ho4 j0 j1)
              | (go_at_call 31; refine (below_any _ p n d _ _ HM4.out.bk (by omega) hn).mono ?_; rintro e w5 ⟨rfl, ho5⟩; have HM5 := Lib.hid (HM4.out.quiet ho5); clear ho5 HM4))
            go_roundw
            case rel => exact ⟨d, _, _, _, rfl, rfl, Lib.hid ⟨rfl, HM5.out, hm.out.2.2.down hm.out.2.1.k1 HU.out.2.2.2.1 hdn HL.out HU.out.2.2.2.2⟩⟩
            case measure =>
              have := HU.out.2.2.2.1
              simp only [intOf, Int.toNat_natCast]; omega
          · have HC2 := Lib.hid (fun W => by have := HC.out W; rw [decide_eq_false hl] at this; exact this)
            have HO2 := Lib.hid (hm.out.2.2.done hm.out.2.1.k1 (Or.inr (by rw [← hm.out.1]; exact hl)))
            clear HC hl hm
            go_wp2_with fail
            refine wp_region_still_tail 10 (by kernel_rfl) (by kernel_rfl) ?_
            rw [show ({ wr with drawn := wr.drawn + 1 } : World) = wr.drewN 1 from rfl]
            generalize wr.drewN 1 = w2 at *
            simp only [List.take_succ_cons, List.take_zero, List.drop_succ_cons, List.drop_zero]
            repeat still_step
            refine wpStill_nil ?_
            go_wp2_with (first
              | (go_at_call 29; refine (HC2.out _).mono ?_; rintro e w3 ⟨rfl, ho3⟩; have HF := Lib.hid (HM.out.quiet ho3); have j0 := HF.out.lay.cell 0; have j1 := HF.out.lay.cell 1; simp only [List.getElem?_cons_zero, List.getElem?_cons_succ] at j0 j1; clear ho3 c0 c1 i0 i1)
              | (go_at_call 30; refine (lay_any _ p n k2 a2 q2 it HF.out.bk (by omega) HF.out.it64).mono ?_; rintro e w6 ⟨rfl, hb6, ho6⟩; have HE := Lib.hid (And.intro hb6 (And.intro HF.out.rl (And.intro HO2.out (HF.out.old.trans ho6)))); clear hb6 ho6 j0 j1))
            go_end0
            exact ⟨rfl, _, _, HE.out⟩
    · have hu0 : 0 < u := by omega
      have hm2 := hm.out.2.1.quiet (Only.drewN [] wr 1)
      have hun : u ≤ n := by have := hm.out.1; omega
      have hne : u ≠ k1 := by have := hm.out.1; have := hm.out.2.1.k1; omega
      have hu65 : ¬ (65 ≤ (u : Int)) := by omega
      have c0 := hm2.lay.cell 0
      have c1 := hm2.lay.cell 1
      simp only [List.getElem?_cons_zero, List.getElem?_cons_succ] at c0 c1
      have i0 := hm2.bk.ci u (by omega)
      have i1 := hm2.bk.ck u (by omega)
      have HC := Lib.hid (fun W => ahead_any it (a1 u) W)
      have HM := Lib.hid hm2
      have HU := Lib.hid (And.intro hun hne)
      clear hm2 hu hne
      by_cases hl : lt it (a1 u)
      · have HC2 := Lib.hid (fun W => by have := HC.out W; rw [decide_eq_true hl] at this; exact this)
        obtain ⟨u2, hu2⟩ : ∃ u2, u2 = u / 2 := ⟨_, rfl⟩
        have e2 : (u : Int) / 2 = ((u2 : Nat) : Int) := by omega
        have HU2 := Lib.hid hu2
        have HL := Lib.hid hl
        clear HC hu2 hl
        go_wp2_with fail
        refine wp_region_still_tail 10 (by kernel_rfl) (by kernel_rfl) ?_
        rw [show ({ wr with drawn := wr.drawn + 1 } : World) = wr.drewN 1 from rfl]
        generalize wr.drewN 1 = w2 at *
        simp only [List.take_succ_cons, List.take_zero, List.drop_succ_cons, List.drop_zero]
        repeat still_step
        refine wpStill_nil ?_
        go_wp2_with (first
          | (go_at_call 29; refine (HC2.out _).mono ?_; rintro e w3 ⟨rfl, ho3⟩; have HM3 := Lib.hid (HM.out.quiet ho3); have j0 := HM3.out.bk.ci u (by omega); have j1 := HM3.out.bk.ck u (by omega); clear ho3 c0 c1 i0 i1)
          | (go_at_call 30; refine (lay_any _ p n k1 a1 q1 (a1 u) HM3.out.bk (by omega) (HM3.out.at64 (by omega) hun HU.out.2)).mono ?_; rintro e w4 ⟨rfl, hb4, ho4⟩; have HM4 := Lib.hid (HM3.out.step (by omega) hun HU.out.2 hb4 ho4); clear hb4 ho4 j0 j1))
        go_roundw
        case rel =>
          refine ⟨u, u2, _, _, rfl, rfl, Lib.hid ⟨HU2.out, HM4.out, ?_⟩⟩
          have h1 := hm.out.1
          have := hm.out.2.2.up (by omega) hk1
          rw [← h1] at this
          exact this
        case measure =>
          have := hm.out.1
          simp only [intOf, Int.toNat_natCast]; omega
      · have HC2 := Lib.hid (fun W => by have := HC.out W; rw [decide_eq_false hl] at this; exact this)
        have HO := Lib.hid (show OrdD (updF a1 k1 it) n k1 from hm.out.2.2.d (Or.inr (by rw [← hm.out.1]; exact hl)))
        clear HC hl hm
        go_wp2_with fail
        refine wp_region_still_tail 10 (by kernel_rfl) (by kernel_rfl) ?_
        rw [show ({ wr with drawn := wr.drawn + 1 } : World) = wr.drewN 1 from rfl]
        generalize wr.drewN 1 = w2 at *
        simp only [List.take_succ_cons, List.take_zero, List.drop_succ_cons, List.drop_zero]
        repeat still_step
        refine wpStill_nil ?_
        go_wp2_with (first
          | (go_at_call 29; refine (HC2.out _).mono ?_; rintro e w3 ⟨rfl, ho3⟩; have HD := Lib.hid (And.intro (HM.out.quiet ho3) HO.out); clear ho3 c0 c1 i0 i1)
          | (go_at_call 31; refine (below_any _ p n k1 a1 q1 HD.out.1.bk (by omega) hn).mono ?_; rintro e w5 ⟨rfl, ho5⟩; have HD5 := Lib.hid (And.intro (HD.out.1.quiet ho5) HD.out.2); clear ho5 HD))
        clear hun hu65
        generalize hbl : bel a1 n k1 = d0
        have HB0 := Lib.hid (And.intro hbl.symm HD5.out)
        clear hbl HD5
        go_wp2_with fail
        obtain ⟨wz, hwz⟩ : ∃ wz, wz = wr := ⟨_, rfl⟩
        subst hwz
        go_loopw [1, 7] (fun f d wr => ∃ (k' e : Nat) (a' : Nat → ItT) (q' : Nat → Nat), f = .int .i64 k' ∧ d = .int .i64 e ∧ Hid (e = bel a' n k' ∧ Mid w wr p n L it C k' a' q' ∧ OrdD (updF a' k' it) n k')) (fun f _ _ => n - (intOf f).toNat)
        case atStart => exact ⟨k1, d0, a1, q1, rfl, rfl, HB0⟩
        case round =>
          clear HB0
          obtain ⟨k2, d, a2, q2, rfl, rfl, hm⟩ := hrel
          have hk2 := hm.out.2.1.kn
          by_cases hd : d = 0
          · subst hd
            have HF := Lib.hid (show ∀ m, Mid w (wr.drewN m) p n L it C k2 a2 q2 from fun m => hm.out.2.1.quiet (Only.drewN [] wr m))
            have HO2 := Lib.hid (hm.out.2.2.done hm.out.2.1.k1 (Or.inl hm.out.1.symm))
            have c0 := fun m => (HF.out m).lay.cell 0
            have c1 := fun m => (HF.out m).lay.cell 1
            simp only [List.getElem?_cons_zero, List.getElem?_cons_succ] at c0 c1
            clear hm
            go_wp2_with fail
            go_quiet (fail)
            go_wp2_with (go_at_call 30; refine (lay_any _ p n k2 a2 q2 it (HF.out _).bk (by omega) (HF.out 0).it64).mono ?_; rintro e w6 ⟨rfl, hb6, ho6⟩; have HE := Lib.hid (And.intro hb6 (And.intro (HF.out 0).rl (And.intro HO2.out ((HF.out _).old.trans ho6)))); clear hb6 ho6 c0 c1)
            go_end0
            exact ⟨rfl, _, _, HE.out⟩
          · have hd0 : 0 < d := by omega
            have hch := bel_char a2 n hm.out.2.1.k1
            rw [← hm.out.1] at hch
            have hch2 : 1 < d ∧ d ≤ n ∧ d / 2 = k2 ∧ ∀ i, i / 2 = k2 → 1 < i → i ≤ n → ¬ lt (a2 i) (a2 d) := by
              rcases hch with ⟨e, _⟩ | e
              · exact absurd e hd
              · exact e
            have hdn := hch2.2.1
            have hd65 : ¬ (65 ≤ (d : Int)) := by omega
            have hne : d ≠ k2 := by have := hch2.2.2.1; omega
            have hm2 := hm.out.2.1.quiet (Only.drewN [] wr 1)
            have c0 := hm2.lay.cell 0
            have c1 := hm2.lay.cell 1
            simp only [List.getElem?_cons_zero, List.getElem?_cons_succ] at c0 c1
            have i0 := hm2.bk.ci d (by omega)
            have i1 := hm2.bk.ck d (by omega)
            have HC := Lib.hid (fun W => ahead_any (a2 d) it W)
            have HM := Lib.hid hm2
            have HU := Lib.hid (And.intro hne hch2)
            clear hm2 hd hne hch hch2
            by_cases hl : lt (a2 d) it
            · have HC2 := Lib.hid (fun W => by have := HC.out W; rw [decide_eq_true hl] at this; exact this)
              have HL := Lib.hid hl
              clear HC hl
              go_wp2_with fail
              refine wp_region_still_tail 10 (by kernel_rfl) (by kernel_rfl) ?_
              rw [show ({ wr with drawn := wr.drawn + 1 } : World) = wr.drewN 1 from rfl]
              generalize wr.drewN 1 = w2 at *
              simp only [List.take_succ_cons, List.take_zero, List.drop_succ_cons, List.drop_zero]
              repeat still_step
              refine wpStill_nil ?_
              go_wp2_with (first
                | (go_at_call 29; refine (HC2.out _).mono ?_; rintro e w3 ⟨rfl, ho3⟩; have HM3 := Lib.hid (HM.out.quiet ho3); have j0 := HM3.out.bk.ci d (by omega); have j1 := HM3.out.bk.ck d (by omega); clear ho3 c0 c1 i0 i1)
                | (go_at_call 30; refine (lay_any _ p n k2 a2 q2 (a2 d) HM3.out.bk (by omega) (HM3.out.at64 (by omega) hdn HU.out.1)).mono ?_; rintro e w4 ⟨rfl, hb4, ho4⟩; have HM4 := Lib.hid (HM3.out.step (by omega) hdn HU.out.1 hb4 ho4); clear hb4 ho4 j0 j1)
                | (go_at_call 31; refine (below_any _ p n d _ _ HM4.out.bk (by omega) hn).mono ?_; rintro e w5 ⟨rfl, ho5⟩; have HM5 := Lib.hid (HM4.out.quiet ho5); clear ho5 HM4))
              go_roundw
              case rel => exact ⟨d, _, _, _, rfl, rfl, Lib.hid ⟨rfl, HM5.out, hm.out.2.2.down hm.out.2.1.k1 HU.out.2.2.2.1 hdn HL.out HU.out.2.2.2.2⟩⟩
              case measure =>
                have := HU.out.2.2.2.1
                simp only [intOf, Int.toNat_natCast]; omega
            · have HC2 := Lib.hid (fun W => by have := HC.out W; rw [decide_eq_false hl] at this; exact this)
              have HO2 := Lib.hid (hm.out.2.2.done hm.out.2.1.k1 (Or.inr (by rw [← hm.out.1]; exact hl)))
              clear HC hl hm
              go_wp2_with fail
              refine wp_region_still_tail 10 (by kernel_rfl) (by kernel_rfl) ?_
              rw [show ({ wr with drawn := wr.drawn + 1 } : World) = wr.drewN 1 from rfl]
              generalize wr.drewN 1 = w2 at *
              simp only [List.take_succ_cons, List.take_zero, List.drop_succ_cons, List.drop_zero]
              repeat still_step
              refine wpStill_nil ?_
              go_wp2_with (first
                | (go_at_call 29; refine (HC2.out _).mono ?_; rintro e w3 ⟨rfl, ho3⟩; have HF := Lib.hid (HM.out.quiet ho3); have j0 := HF.out.lay.cell 0; have j1 := HF.out.lay.cell 1; simp only [List.getElem?_cons_zero, List.getElem?_cons_succ] at j0 j1; clear ho3 c0 c1 i0 i1)
                | (go_at_call 30; refine (lay_any _ p n k2 a2 q2 it HF.out.bk (by omega) HF.out.it64).mono ?_; rintro e w6 ⟨rfl, hb6, ho6⟩; have HE := Lib.hid (And.intro hb6 (And.intro HF.out.rl (And.intro HO2.out (HF.out.old.trans ho6)))); clear hb6 ho6 j0 j1))
              go_end0
              exact ⟨rfl, _, _, HE.out⟩
end Hq
end Go.Proofs.Ytmeadkllbjkjbaa
