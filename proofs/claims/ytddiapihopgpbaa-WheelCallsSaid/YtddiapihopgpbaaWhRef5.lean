/-
  What the document's own Add answers, and leaves. Conditions: that its wheel lies there, its timers in order.
-/
import Derived.Test.YtddiapihopgpbaaWhRef4
namespace Go.Proofs.Ytddiapihopgpbaa
open Go.RowKit
namespace Wh
open Ph (Only)
theorem lies_all {W : World} {base : Nat} {e : TypeId} {a : Option Addr} {cap : Nat} {l : List DuT} (h : W.ownsRow base e 2 (.slice a l.length cap) l.length (flatD l)) : Lies W a l.length cap l := by
  have := lies_take h (k := l.length) (Nat.le_refl _)
  rw [List.take_length] at this
  exact this
theorem lies_one (W : World) (x : DuT) (t : TypeId) : Lies (W.alloc (.cells #[.int .i64 (x.1 : Nat), .int .u64 (x.2 : Nat)] t)) (some ⟨W.heap.size, 0, none⟩) 1 1 [x] := by
  refine ⟨rfl, (fun e => absurd e (by simp)), fun ad e j u hj => ?_⟩
  cases e
  rw [add_eq, Nat.zero_add, World.cell?_alloc_new]
  have e1 : flatD [x] = [.int .i64 (x.1 : Nat), .int .u64 (x.2 : Nat)] := rfl
  rw [e1] at hj
  rw [List.getElem?_toArray]
  exact hj
set_option maxRecDepth 100000 in
set_option maxHeartbeats 8000000 in
theorem radd_any (r : Nat) (H : List Nat) (t : Nat) (l : List DuT) (d : Int) (a : Nat) (w : World) (hl : l.length ≤ 1000) (ha : a < 18446744073709551616) (hR : RW w r H t l) :
    Calls Try.prog 11 #[.pointer (some ⟨r, 0, none⟩), .int .i64 d, .int .u64 (a : Nat)] w fun e w' => ∃ H', e = .returned (.int .i64 (addE d a l)) ∧ RW w' r H' t (addL d a l) ∧ Only H w w' ∧ ∀ x ∈ H', x ∈ H ∨ w.heap.size ≤ x := by
  have HR := Lib.hid hR
  have hlt := hR.lt r hR.mem
  have hic := ix_can d l
  have HX := Lib.hid (index_any r H t l d w (by omega) hR)
  by_cases g1 : d < 0 ∨ 999 < d ∨ 4611686018427387904 < a
  · have e1 : addE d a l = 11 := by unfold addE; rw [if_pos g1]
    have e2 : addL d a l = l := by unfold addL; rw [if_neg (by rw [e1]; decide)]
    rw [e1, e2]
    clear e1 e2 hR hic HX
    by_cases h1 : d < 0
    · have d1 : decide (d < 0) = true := decide_eq_true h1
      clear g1
      go_enter Try.func11, Try.ntmps11
      go_wp2_with fail
      go_ret
      first | exact ⟨H, rfl, HR.out, Only.refl _ _, fun x hx => Or.inl hx⟩ | exact ⟨rfl, H, HR.out, Only.refl _ _, fun x hx => Or.inl hx⟩
    · have d1 : decide (d < 0) = false := decide_eq_false h1
      by_cases h2 : 999 < d
      · have d2 : decide (999 < d) = true := decide_eq_true h2
        clear g1
        go_enter Try.func11, Try.ntmps11
        go_wp2_with fail
        go_ret
        first | exact ⟨H, rfl, HR.out, Only.refl _ _, fun x hx => Or.inl hx⟩ | exact ⟨rfl, H, HR.out, Only.refl _ _, fun x hx => Or.inl hx⟩
      · have d2 : decide (999 < d) = false := decide_eq_false h2
        have h3 : 4611686018427387904 < a := by omega
        have d3 : decide ((4611686018427387904 : Int) < (a : Int)) = true := decide_eq_true (by omega)
        clear g1
        go_enter Try.func11, Try.ntmps11
        go_wp2_with fail
        go_ret
        first | exact ⟨H, rfl, HR.out, Only.refl _ _, fun x hx => Or.inl hx⟩ | exact ⟨rfl, H, HR.out, Only.refl _ _, fun x hx => Or.inl hx⟩
  · have d1 : decide (d < 0) = false := decide_eq_false (by omega)
    have d2 : decide (999 < d) = false := decide_eq_false (by omega)
    have d3 : decide ((4611686018427387904 : Int) < (a : Int)) = false := decide_eq_false (by omega)
    have hcb : canB d l = has d.toNat l := by unfold canB; rw [decide_eq_true (by omega : 0 ≤ d), Bool.true_and]
    cases hb : has d.toNat l with
    | true =>
      have e1 : addE d a l = 13 := by unfold addE; rw [if_neg g1, if_pos hb]
      have e2 : addL d a l = l := by unfold addL; rw [if_neg (by rw [e1]; decide)]
      rw [e1, e2]
      rw [hcb, hb] at hic
      generalize ixN d 0 l = ix at *
      have hix : (0 : Int) ≤ ix := of_decide_eq_true hic
      clear e1 e2 hR g1 hcb hb
      go_enter Try.func11, Try.ntmps11
      go_wp2_with (go_at_call 19; refine HX.out.mono ?_; rintro e w1 ⟨rfl, rfl⟩)
      go_ret
      first | exact ⟨H, rfl, HR.out, Only.refl _ _, fun x hx => Or.inl hx⟩ | exact ⟨rfl, H, HR.out, Only.refl _ _, fun x hx => Or.inl hx⟩
    | false =>
      have e1 : addE d a l = 0 := by unfold addE; rw [if_neg g1, if_neg (by rw [hb]; decide)]
      have e2 : addL d a l = ins (d.toNat, a) l := by unfold addL; rw [if_pos e1]
      rw [e1, e2, ins_split]
      rw [hcb, hb] at hic
      obtain ⟨dn, rfl⟩ : ∃ dn : Nat, d = (dn : Int) := ⟨d.toNat, by omega⟩
      rw [Int.toNat_natCast]
      have hkle := aheadN_le (dn, a) l
      have AY := Lib.hid (fun k (h : k < aheadN (dn, a) l) => aheadN_yes h)
      have AN := Lib.hid (fun y (h : l[aheadN (dn, a) l]? = some y) => aheadN_no h)
      generalize aheadN (dn, a) l = K0 at *
      generalize ixN (dn : Int) 0 l = ix at *
      obtain ⟨v, hv, hrow, hg⟩ := hR.row
      obtain ⟨av, cap, rfl⟩ := own_form hrow
      have HW := Lib.hid hrow
      have HS := Lib.hid (own_seen hrow)
      have oA := Only.alloc [] w (.cells #[.int .i64 (dn : Nat), .int .u64 (a : Nat)] 50)
      have q0 := World.cell?_alloc_new w #[.int .i64 (dn : Nat), .int .u64 (a : Nat)] 50 0
      have q1 := World.cell?_alloc_new w #[.int .i64 (dn : Nat), .int .u64 (a : Nat)] 50 1
      simp only [List.getElem?_toArray, List.getElem?_cons_zero, List.getElem?_cons_succ] at q0 q1
      have z1 : w.heap.size < (w.alloc (.cells #[.int .i64 (dn : Nat), .int .u64 (a : Nat)] 50)).heap.size := by simp
      have R1 := Lib.hid (HR.out.kept oA (by simp))
      have HW1 := Lib.hid (own_only HW.out oA (by simp))
      have HS1 := Lib.hid (HS.out.kept oA (by simp))
      have hv1 := (oA.cell hlt (by simp) 1).trans hv
      have O1 := Lib.hid oA
      clear e1 e2 hcb hb g1 hR hrow oA HR HW HS hv
      go_enter Try.func11, Try.ntmps11
      go_upto_region 6 with (go_at_call 19; refine HX.out.mono ?_; rintro e w1 ⟨rfl, rfl⟩)
      clear HX d1 d2 d3 hic
      obtain ⟨bd, hbd⟩ : ∃ q, q = w.heap.size := ⟨_, rfl⟩
      rw [← hbd] at q0 q1 z1 ⊢
      have hsz0 : w.heap.size ≤ bd := by omega
      clear hbd
      generalize w.alloc (.cells #[.int .i64 (dn : Nat), .int .u64 (a : Nat)] 50) = w1 at *
      have hlt1 := R1.out.lt r R1.out.mem
      go_wp2_with fail
      go_loopw [8] (fun c wr => ∃ k : Nat, c = .int .i64 k ∧ k ≤ K0 ∧ Hid (Only [] w1 wr)) (fun c _ => l.length + 1 - (intOf c).toNat)
      case atStart => exact ⟨0, rfl, Nat.zero_le _, Lib.hid (Only.refl _ _)⟩
      case round =>
        obtain ⟨k, rfl, hk, OR⟩ := hrel
        by_cases hkl2 : k < l.length
        · obtain ⟨x, hx⟩ : ∃ x, l[k]? = some x := ⟨l[k], List.getElem?_eq_getElem hkl2⟩
          obtain ⟨b, off, rfl, hb, -, -, x0, x1⟩ := HS1.out.at hx
          have HXK := Lib.hid hx
          obtain ⟨xd, xt⟩ := x
          simp only at x0 x1
          have hd := Only.drewN [] wr 1
          have OD := Lib.hid (OR.out.trans hd)
          have hA : Only [] wr.drew wr.drew := Only.refl _ _
          have HC := Lib.hid (fun (w' : World) (h : Only [] wr.drew w') => show w'.cell? ⟨r, 1, none⟩ = some (.slice (some ⟨b, off, none⟩) l.length cap) ∧ w'.cell? ⟨b, off + k * 2, none⟩ = some (.int .i64 (xd : Nat)) ∧ w'.cell? ⟨b, off + k * 2 + 1, none⟩ = some (.int .u64 (xt : Nat)) ∧ w'.cell? ⟨bd, 0, none⟩ = some (.int .i64 (dn : Nat)) ∧ w'.cell? ⟨bd, 1, none⟩ = some (.int .u64 (a : Nat)) from by
            have hh := OD.out.trans h
            exact ⟨(hh.cell hlt1 (by simp) 1).trans hv1, (hh.cell hb (by simp) _).trans x0, (hh.cell hb (by simp) _).trans x1, (hh.cell z1 (by simp) 0).trans q0, (hh.cell z1 (by simp) 1).trans q1⟩)
          have gk : (k : Int) < (l.length : Int) := by omega
          have g1 : decide ((k : Int) < (l.length : Int)) = true := decide_eq_true gk
          have g1n : decide (k < l.length) = true := decide_eq_true hkl2
          clear hx hd x0 x1
          go_upto_region 7 with fail
          cases hlB : ltB (xd, xt) (dn, a) with
          | true =>
            have hkK : k < K0 := by
              by_cases e : k < K0
              · exact e
              · obtain rfl : k = K0 := by omega
                exact absurd (ltB_iff.1 hlB) (AN.out _ HXK.out)
            go_region_held3 (fun w' => w'.cell? ⟨r, 1, none⟩ = some (.slice (some ⟨b, off, none⟩) l.length cap) ∧ w'.cell? ⟨b, off + k * 2, none⟩ = some (.int .i64 (xd : Nat)) ∧ w'.cell? ⟨b, off + k * 2 + 1, none⟩ = some (.int .u64 (xt : Nat)) ∧ w'.cell? ⟨bd, 0, none⟩ = some (.int .i64 (dn : Nat)) ∧ w'.cell? ⟨bd, 1, none⟩ = some (.int .u64 (a : Nat))) (exact HC.out _ hA) (first | (go_at_call 23; refine (less_any (xd, xt) (dn, a) _).mono ?_; rintro e w5 ⟨he, hO⟩; rw [hlB] at he; subst he; replace hA := hA.trans hO))
            all_goals
              go_wp2_with fail
              go_roundw
              case rel => exact ⟨k + 1, by push_cast; rfl, by omega, Lib.hid (OD.out.trans hA)⟩
              case measure => simp only [intOf]; omega
          | false =>
            have hkK : k = K0 := by
              by_cases e : k < K0
              · obtain ⟨y, hy, hly⟩ := AY.out k e
                rw [HXK.out] at hy
                cases hy
                have := ltB_iff.2 hly
                rw [hlB] at this
                cases this
              · omega
            subst hkK
            go_region_held3 (fun w' => w'.cell? ⟨r, 1, none⟩ = some (.slice (some ⟨b, off, none⟩) l.length cap) ∧ w'.cell? ⟨b, off + k * 2, none⟩ = some (.int .i64 (xd : Nat)) ∧ w'.cell? ⟨b, off + k * 2 + 1, none⟩ = some (.int .u64 (xt : Nat)) ∧ w'.cell? ⟨bd, 0, none⟩ = some (.int .i64 (dn : Nat)) ∧ w'.cell? ⟨bd, 1, none⟩ = some (.int .u64 (a : Nat))) (exact HC.out _ hA) (first | (go_at_call 23; refine (less_any (xd, xt) (dn, a) _).mono ?_; rintro e w5 ⟨he, hO⟩; rw [hlB] at he; subst he; replace hA := hA.trans hO))
            all_goals
              have OQ := Lib.hid (OD.out.trans hA)
              have hvq := (HC.out _ hA).1
              clear hA HC OD OR gk g1 g1n
              obtain ⟨wq, rfl⟩ : ∃ wq, wq = w5 := ⟨_, rfl⟩
              have HQ := Lib.hid (own_only HW1.out OQ.out (by simp))
              have RQ := Lib.hid (R1.out.kept OQ.out (by simp))
              have q0q := (OQ.out.cell z1 (by simp) 0).trans q0
              have q1q := (OQ.out.cell z1 (by simp) 1).trans q1
              have zq : bd < wq.heap.size := Nat.lt_of_lt_of_le z1 OQ.out.size
              have hltq : r < wq.heap.size := Nat.lt_of_lt_of_le hlt1 OQ.out.size
              have OW1 := Lib.hid (O1.out.trans OQ.out)
              have hszq : w.heap.size ≤ wq.heap.size := OW1.out.size
              have hlenD : (l.drop k).length = l.length - k := List.length_drop
              have hlen6 : (l.take k ++ [(dn, a)]).length = k + 1 := by rw [List.length_append, List.length_take]; simp; omega
              have hlen7 : (l.take k ++ [(dn, a)] ++ l.drop k).length = l.length + 1 := by rw [List.length_append, hlen6, hlenD]; omega
              clear R1 OQ q0 q1 z1 O1
              rcases HQ.out.2 with ⟨hn1, hn2⟩ | ⟨g, cc, cur, hn1, _, _, hnc, hcm, _⟩
              · exfalso; omega
              · simp only [Value.slice.injEq] at hn1
                obtain ⟨e1, _, e3⟩ := hn1
                cases e1
                cases e3
                unfold maxLen at hcm
                have hgr : b ∈ H ∧ b ≠ r := hg b rfl
                have hgq : b < wq.heap.size := (HQ.out.lt b rfl).2
                have hck : ¬ cap = k := by omega
                have hkc : k ≤ cap := by omega
                have LD := Lib.hid (lies_drop HQ.out (k := k) (by omega))
                have ovz := ((Only.alloc [] wq (.cells #[] 50)).cell hltq (by simp) 1).trans hvq
                go_upto_region 10 with (at_builtin; refine step_new rfl (.tmp 47) (.tmp 53) rfl (l.drop k) _ _ _ wq (by rw [hlenD]; omega) LD.out (fun a e _ => by cases e; exact ⟨hgq, rfl⟩) rfl rfl ?_; intro v5 w5 hown hO5; rw [hlenD] at hown; obtain ⟨va5, vc5, rfl⟩ := own_form hown; have OWN5 := Lib.hid hown; have O5 := Lib.hid hO5; clear hown hO5)
                have hd5 := O5.out.trans (Only.drewN [] w5 1)
                have RD := Lib.hid (RQ.out.kept hd5 (by simp))
                have vd : w5.drew.cell? ⟨r, 1, none⟩ = some (.slice (some ⟨b, 0, none⟩) l.length cap) := (hd5.cell hltq (by simp) 1).trans hvq
                have q0d : w5.drew.cell? ⟨bd, 0, none⟩ = some (.int .i64 (dn : Nat)) := (hd5.cell zq (by simp) 0).trans q0q
                have q1d : w5.drew.cell? ⟨bd, 1, none⟩ = some (.int .u64 (a : Nat)) := (hd5.cell zq (by simp) 1).trans q1q
                have hltd : r < w5.drew.heap.size := Nat.lt_of_lt_of_le hltq hd5.size
                have oX : Only [] w5 (w5.alloc (.cells #[.int .i64 (dn : Nat), .int .u64 (a : Nat)] 50)).drew := (Only.alloc [] w5 _).trans (Only.drewN [] _ 1)
                have OTa := Lib.hid (own_only (own_take (own_only HQ.out O5.out (by simp)) (k := k) (by omega)) oX (by simp))
                have LXa := Lib.hid ((lies_one w5 (dn, a) 50).kept (Only.drewN [] _ 1) (fun _ => ⟨by simp, by simp, rfl⟩))
                have hlt5 : r < w5.heap.size := hltd
                have zd : bd < w5.heap.size := Nat.lt_of_lt_of_le zq O5.out.size
                have RX := Lib.hid (RQ.out.kept (O5.out.trans oX) (by simp))
                have vda := (oX.cell hlt5 (by simp) 1).trans vd
                have q0a := (oX.cell zd (by simp) 0).trans q0d
                have q1a := (oX.cell zd (by simp) 1).trans q1d
                have v5r : ∀ g', (Value.slice va5 (l.length - k) vc5).ownBlock = some g' → wq.heap.size ≤ g' ∧ g' < w5.heap.size := fun g' e => OWN5.out.lt g' e
                clear HQ RQ LD q0q q1q ovz
                go_region_law (first
                  | (refine step_app_law rfl (.tmp 64) (.tmp 65) rfl 0 _ (l.take k ++ [(dn, a)]) (l.drop k) va5 (l.length - k) vc5 _ (by rw [hlen6]; exact OW6.out) (Nat.zero_le _) (by rw [hlen6, hlenD]; omega) L6.out (by first | rfl | simp [Act.eval, Act.put]) (by first | rfl | simp [Act.eval, Act.put]) ?_; intro v7 w7 hown7 hgr7 hob7; rw [hlen7] at hown7; obtain ⟨va7, vc7, rfl⟩ := own_form hown7; have OW7 := Lib.hid hown7; have G7 := Lib.hid (grown_only hgr7); have B7 := Lib.hid hob7; have r7 : r ∉ (Value.slice va6 (k + 1) vc6).ownBlock.toList := r6b; have v7c := ((grown_only hgr7).cell lt6 r7 1).trans v6c; have v7f := ((grown_only hgr7).frozen lt6 r7 1).trans v6f; have lt7 := Nat.lt_of_lt_of_le lt6 hgr7.size; clear hown7 hgr7 hob7)
                  | (refine step_app_law rfl (.tmp 61) (.tmp 63) rfl 0 _ (l.take k) [(dn, a)] _ 1 1 _ OTa.out (Nat.zero_le _) (by rw [List.length_take]; simp; omega) LXa.out (by first | rfl | simp [Act.eval, Act.put]) (by first | rfl | simp [Act.eval, Act.put]) ?_; intro v6 w6 hown6 hgr6 hob6; rw [hlen6] at hown6; obtain ⟨va6, vc6, rfl⟩ := own_form hown6; have OW6 := Lib.hid hown6; have G6 := Lib.hid (grown_only hgr6); have B6 := Lib.hid hob6; have r6 : r ∉ (Value.slice (some ⟨b, 0, none⟩) k cap).ownBlock.toList := (by simp [Value.ownBlock]; exact fun h => hgr.2 h.symm); have lta := Nat.lt_of_lt_of_le hlt5 oX.size; have r6b : r ∉ (Value.slice va6 (k + 1) vc6).ownBlock.toList := (fun hx => by rcases B6.out with h1 | h1 <;> (rw [h1] at hx; simp only [Value.ownBlock, Option.toList_some, List.mem_singleton] at hx); (exact hgr.2 hx.symm); (rw [← hx] at lta; exact Nat.lt_irrefl _ lta)); have v6c := ((grown_only hgr6).cell lta r6 1).trans vda; have v6f := ((grown_only hgr6).frozen lta r6 1).trans RX.out.f1; have lt6 := Nat.lt_of_lt_of_le lta hgr6.size; have L6 := Lib.hid (lies_all (l := l.drop k) (by rw [hlenD]; exact own_only (own_only OWN5.out oX (by simp)) (grown_only hgr6) (fun g' e => by have := (v5r g' e).1; simp [Value.ownBlock]; omega))); rw [hlenD] at L6; clear hown6 hgr6 hob6))
                all_goals
                  go_wp2_with fail
                  go_ret
                  obtain ⟨p1, p2, p3⟩ := RX.out.grow vda (X := l.take k ++ [(dn, a)] ++ l.drop k) (v := .slice va7 (l.length + 1) vc7) (by rw [hlen7]; exact OW7.out) (fun g' e => by cases e; exact hgr) (((G6.out.mono (S' := b :: (Value.slice va6 (k + 1) vc6).ownBlock.toList) (by simp [Value.ownBlock])).trans (G7.out.mono (fun x hx => List.mem_cons_of_mem _ hx))).back (fun x hx => by
                    rcases List.mem_cons.1 hx with rfl | hx
                    · exact Or.inl (by simp [Value.ownBlock])
                    · rcases B6.out with h1 | h1
                      · rw [h1] at hx; exact Or.inl hx
                      · rw [h1] at hx; simp only [Option.toList_some, List.mem_singleton] at hx; exact Or.inr (Nat.le_of_eq hx.symm)) (Nat.le_refl _)) (fun g' e => by
                    rcases B7.out with h1 | h1
                    · rw [h1] at e
                      rcases B6.out with h2 | h2
                      · rw [h2] at e; exact Or.inl e
                      · rw [h2] at e; cases e; exact Or.inr (Nat.le_refl _)
                    · rw [h1] at e; cases e; exact Or.inr G6.out.size)
                  have hlist : l.take k ++ [(dn, a)] ++ l.drop k = l.take k ++ (dn, a) :: l.drop k := by simp
                  rw [hlist] at p1
                  have hOO : Only H w _ := ((OW1.out.trans (O5.out.trans oX)).mono (by simp)).trans p2
                  refine ⟨rfl, _, p1, hOO, fun x hx => (p3 x hx).imp id (fun h => Nat.le_trans ((OW1.out.trans (O5.out.trans oX)).size) h)⟩
        · have hke1 : k ≤ l.length := by omega
          have hke2 : l.length ≤ k := by omega
          have g1 : decide ((k : Int) < (l.length : Int)) = false := decide_eq_false (by omega)
          have g1n : decide (k < l.length) = false := decide_eq_false (by omega)
          have hkK : k = K0 := by omega
          subst hkK
          have hv' := (OR.out.cell hlt1 (by simp) 1).trans hv1
          go_upto_region 7 with fail
          go_quiet (fail)
          have OQ := Lib.hid (OR.out.trans (Only.drewN [] wr nq))
          have hvq := (OQ.out.cell hlt1 (by simp) 1).trans hv1
          clear OR hv' g1 g1n
          generalize wr.drewN nq = wq at *
          have HQ := Lib.hid (own_only HW1.out OQ.out (by simp))
          have RQ := Lib.hid (R1.out.kept OQ.out (by simp))
          have q0q := (OQ.out.cell z1 (by simp) 0).trans q0
          have q1q := (OQ.out.cell z1 (by simp) 1).trans q1
          have zq : bd < wq.heap.size := Nat.lt_of_lt_of_le z1 OQ.out.size
          have hltq : r < wq.heap.size := Nat.lt_of_lt_of_le hlt1 OQ.out.size
          have OW1 := Lib.hid (O1.out.trans OQ.out)
          have hszq : w.heap.size ≤ wq.heap.size := OW1.out.size
          have hlenD : (l.drop k).length = l.length - k := List.length_drop
          have hlen6 : (l.take k ++ [(dn, a)]).length = k + 1 := by rw [List.length_append, List.length_take]; simp; omega
          have hlen7 : (l.take k ++ [(dn, a)] ++ l.drop k).length = l.length + 1 := by rw [List.length_append, hlen6, hlenD]; omega
          clear R1 OQ q0 q1 z1 O1
          rcases HQ.out.2 with ⟨hn1, hn2⟩ | ⟨g, cc, cur, hn1, _, _, hnc, hcm, _⟩
          · simp only [Value.slice.injEq] at hn1
            obtain ⟨e1, _, e3⟩ := hn1
            have hl0 : l = [] := List.eq_nil_of_length_eq_zero hn2
            subst e1
            subst e3
            subst hl0
            obtain rfl : k = 0 := by simpa using hke1
            simp only [List.length_nil] at hvq
            have ovz := ((Only.alloc [] wq (.cells #[] 50)).cell hltq (by simp) 1).trans hvq
            clear hlenD hlen6 hlen7 hke1 hke2
            have hlen6 : (([] : List DuT) ++ [(dn, a)]).length = 1 := rfl
            have hlen7 : (([] : List DuT) ++ [(dn, a)] ++ []).length = 1 := rfl
            have LD := Lib.hid (lies_nil wq)
            go_upto_region 10 with (at_builtin; refine step_new rfl (.tmp 47) (.tmp 53) rfl [] _ _ _ wq (by simp) LD.out (fun a e _ => absurd e (by simp)) rfl rfl ?_; intro v5 w5 hown hO5; rw [List.length_nil] at hown; obtain ⟨va5, vc5, rfl⟩ := own_form hown; have OWN5 := Lib.hid hown; have O5 := Lib.hid hO5; clear hown hO5)
            have hd5 := O5.out.trans (Only.drewN [] w5 1)
            have RD := Lib.hid (RQ.out.kept hd5 (by simp))
            have vd : w5.drew.cell? ⟨r, 1, none⟩ = some (.slice none 0 0) := (hd5.cell hltq (by simp) 1).trans hvq
            have q0d : w5.drew.cell? ⟨bd, 0, none⟩ = some (.int .i64 (dn : Nat)) := (hd5.cell zq (by simp) 0).trans q0q
            have q1d : w5.drew.cell? ⟨bd, 1, none⟩ = some (.int .u64 (a : Nat)) := (hd5.cell zq (by simp) 1).trans q1q
            have hltd : r < w5.drew.heap.size := Nat.lt_of_lt_of_le hltq hd5.size
            have oX : Only [] w5 (w5.alloc (.cells #[.int .i64 (dn : Nat), .int .u64 (a : Nat)] 50)).drew := (Only.alloc [] w5 _).trans (Only.drewN [] _ 1)
            have OTa := Lib.hid (World.ownsRow_nil (w5.alloc (.cells #[.int .i64 (dn : Nat), .int .u64 (a : Nat)] 50)).drew 0 50 2)
            have LXa := Lib.hid ((lies_one w5 (dn, a) 50).kept (Only.drewN [] _ 1) (fun _ => ⟨by simp, by simp, rfl⟩))
            have hlt5 : r < w5.heap.size := hltd
            have zd : bd < w5.heap.size := Nat.lt_of_lt_of_le zq O5.out.size
            have RX := Lib.hid (RQ.out.kept (O5.out.trans oX) (by simp))
            have vda := (oX.cell hlt5 (by simp) 1).trans vd
            have q0a := (oX.cell zd (by simp) 0).trans q0d
            have q1a := (oX.cell zd (by simp) 1).trans q1d
            have v5r : ∀ g', (Value.slice va5 0 vc5).ownBlock = some g' → wq.heap.size ≤ g' ∧ g' < w5.heap.size := fun g' e => OWN5.out.lt g' e
            clear HQ RQ LD q0q q1q ovz
            go_region_law (first
              | (refine step_app_law rfl (.tmp 64) (.tmp 65) rfl 0 _ ([] ++ [(dn, a)]) [] va5 0 vc5 _ OW6.out (Nat.zero_le _) (by simp) L6.out (by first | rfl | simp [Act.eval, Act.put]) (by first | rfl | simp [Act.eval, Act.put]) ?_; intro v7 w7 hown7 hgr7 hob7; rw [hlen7] at hown7; obtain ⟨va7, vc7, rfl⟩ := own_form hown7; have OW7 := Lib.hid hown7; have G7 := Lib.hid (grown_only hgr7); have B7 := Lib.hid hob7; have v7c := ((grown_only hgr7).cell lt6 r6b 1).trans v6c; have v7f := ((grown_only hgr7).frozen lt6 r6b 1).trans v6f; have lt7 := Nat.lt_of_lt_of_le lt6 hgr7.size; clear hown7 hgr7 hob7)
              | (refine step_app_law rfl (.tmp 61) (.tmp 63) rfl 0 _ [] [(dn, a)] _ 1 1 _ OTa.out (Nat.zero_le _) (by simp) LXa.out (by first | rfl | simp [Act.eval, Act.put]) (by first | rfl | simp [Act.eval, Act.put]) ?_; intro v6 w6 hown6 hgr6 hob6; rw [hlen6] at hown6; obtain ⟨va6, vc6, rfl⟩ := own_form hown6; have OW6 := Lib.hid hown6; have G6 := Lib.hid (grown_only hgr6); have B6 := Lib.hid hob6; have r6 : r ∉ (Value.slice none 0 0).ownBlock.toList := (by simp [Value.ownBlock]); have lta := Nat.lt_of_lt_of_le hlt5 oX.size; have r6b : r ∉ (Value.slice va6 1 vc6).ownBlock.toList := (fun hx => by rcases B6.out with h1 | h1 <;> (rw [h1] at hx; simp only [Value.ownBlock, Option.toList_some, Option.toList_none, List.mem_singleton, List.not_mem_nil] at hx); (rw [← hx] at lta; exact Nat.lt_irrefl _ lta)); have v6c := ((grown_only hgr6).cell lta r6 1).trans vda; have v6f := ((grown_only hgr6).frozen lta r6 1).trans RX.out.f1; have lt6 := Nat.lt_of_lt_of_le lta hgr6.size; have L6 := Lib.hid (lies_all (l := []) (own_only (own_only OWN5.out oX (by simp)) (grown_only hgr6) (fun g' e => by simp [Value.ownBlock]))); rw [List.length_nil] at L6; clear hown6 hgr6 hob6))
            all_goals
              go_wp2_with fail
              go_ret
              obtain ⟨p1, p2, p3⟩ := RX.out.grow vda (X := [] ++ [(dn, a)] ++ []) (v := .slice va7 1 vc7) OW7.out (fun g' e => by cases e) (((G6.out.mono (S' := (Value.slice va6 1 vc6).ownBlock.toList) (by simp [Value.ownBlock])).trans G7.out).back (fun x hx => by
                rcases B6.out with h1 | h1
                · rw [h1] at hx; exact Or.inl hx
                · rw [h1] at hx; simp only [Option.toList_some, List.mem_singleton] at hx; exact Or.inr (Nat.le_of_eq hx.symm)) (Nat.le_refl _)) (fun g' e => by
                rcases B7.out with h1 | h1
                · rw [h1] at e
                  rcases B6.out with h2 | h2
                  · rw [h2] at e; exact Or.inl e
                  · rw [h2] at e; cases e; exact Or.inr (Nat.le_refl _)
                · rw [h1] at e; cases e; exact Or.inr G6.out.size)
              have hOO : Only H w _ := ((OW1.out.trans (O5.out.trans oX)).mono (by simp)).trans p2
              refine ⟨rfl, _, p1, hOO, fun x hx => (p3 x hx).imp id (fun h => Nat.le_trans ((OW1.out.trans (O5.out.trans oX)).size) h)⟩
          · simp only [Value.slice.injEq] at hn1
            obtain ⟨e1, _, e3⟩ := hn1
            subst e1
            subst e3
            unfold maxLen at hcm
            by_cases hck : cap = k
            · obtain rfl : k = cap := hck.symm
              have hgr : g ∈ H ∧ g ≠ r := hg g rfl
              have hgq : g < wq.heap.size := (HQ.out.lt g rfl).2
              have hkc : k ≤ k := Nat.le_refl _
              have hkz : l.length - k = 0 := by omega
              have LD := Lib.hid (show Lies wq (some ⟨g, 0, none⟩) 0 0 (l.drop k) from by rw [List.drop_eq_nil_of_le (by omega)]; exact lies_none _ _ _)
              have ovz := ((Only.alloc [] wq (.cells #[] 50)).cell hltq (by simp) 1).trans hvq
              go_upto_region 10 with (at_builtin; refine step_new rfl (.tmp 47) (.tmp 53) rfl (l.drop k) _ _ _ wq (by rw [hlenD]; omega) LD.out (fun a e _ => by cases e; exact ⟨hgq, rfl⟩) rfl rfl ?_; intro v5 w5 hown hO5; rw [hlenD, hkz] at hown; obtain ⟨va5, vc5, rfl⟩ := own_form hown; have OWN5 := Lib.hid hown; have O5 := Lib.hid hO5; clear hown hO5)
              have hd5 := O5.out.trans (Only.drewN [] w5 1)
              have RD := Lib.hid (RQ.out.kept hd5 (by simp))
              have vd : w5.drew.cell? ⟨r, 1, none⟩ = some (.slice (some ⟨g, 0, none⟩) l.length k) := (hd5.cell hltq (by simp) 1).trans hvq
              have q0d : w5.drew.cell? ⟨bd, 0, none⟩ = some (.int .i64 (dn : Nat)) := (hd5.cell zq (by simp) 0).trans q0q
              have q1d : w5.drew.cell? ⟨bd, 1, none⟩ = some (.int .u64 (a : Nat)) := (hd5.cell zq (by simp) 1).trans q1q
              have hltd : r < w5.drew.heap.size := Nat.lt_of_lt_of_le hltq hd5.size
              have oX : Only [] w5 (w5.alloc (.cells #[.int .i64 (dn : Nat), .int .u64 (a : Nat)] 50)).drew := (Only.alloc [] w5 _).trans (Only.drewN [] _ 1)
              have OTa := Lib.hid (own_only (own_take (own_only HQ.out O5.out (by simp)) (k := k) (by omega)) oX (by simp))
              have LXa := Lib.hid ((lies_one w5 (dn, a) 50).kept (Only.drewN [] _ 1) (fun _ => ⟨by simp, by simp, rfl⟩))
              have hlt5 : r < w5.heap.size := hltd
              have zd : bd < w5.heap.size := Nat.lt_of_lt_of_le zq O5.out.size
              have RX := Lib.hid (RQ.out.kept (O5.out.trans oX) (by simp))
              have vda := (oX.cell hlt5 (by simp) 1).trans vd
              have q0a := (oX.cell zd (by simp) 0).trans q0d
              have q1a := (oX.cell zd (by simp) 1).trans q1d
              have v5r : ∀ g', (Value.slice va5 0 vc5).ownBlock = some g' → wq.heap.size ≤ g' ∧ g' < w5.heap.size := fun g' e => OWN5.out.lt g' e
              clear HQ RQ LD q0q q1q ovz
              go_region_law (first
                | (refine step_app_law rfl (.tmp 64) (.tmp 65) rfl 0 _ (l.take k ++ [(dn, a)]) (l.drop k) va5 0 vc5 _ (by rw [hlen6]; exact OW6.out) (Nat.zero_le _) (by rw [hlen6, hlenD]; omega) L6.out (by first | rfl | simp [Act.eval, Act.put]) (by first | rfl | simp [Act.eval, Act.put]) ?_; intro v7 w7 hown7 hgr7 hob7; rw [hlen7] at hown7; obtain ⟨va7, vc7, rfl⟩ := own_form hown7; have OW7 := Lib.hid hown7; have G7 := Lib.hid (grown_only hgr7); have B7 := Lib.hid hob7; have r7 : r ∉ (Value.slice va6 (k + 1) vc6).ownBlock.toList := r6b; have v7c := ((grown_only hgr7).cell lt6 r7 1).trans v6c; have v7f := ((grown_only hgr7).frozen lt6 r7 1).trans v6f; have lt7 := Nat.lt_of_lt_of_le lt6 hgr7.size; clear hown7 hgr7 hob7)
                | (refine step_app_law rfl (.tmp 61) (.tmp 63) rfl 0 _ (l.take k) [(dn, a)] _ 1 1 _ OTa.out (Nat.zero_le _) (by rw [List.length_take]; simp; omega) LXa.out (by first | rfl | simp [Act.eval, Act.put]) (by first | rfl | simp [Act.eval, Act.put]) ?_; intro v6 w6 hown6 hgr6 hob6; rw [hlen6] at hown6; obtain ⟨va6, vc6, rfl⟩ := own_form hown6; have OW6 := Lib.hid hown6; have G6 := Lib.hid (grown_only hgr6); have B6 := Lib.hid hob6; have r6 : r ∉ (Value.slice (some ⟨g, 0, none⟩) k k).ownBlock.toList := (by simp [Value.ownBlock]; exact fun h => hgr.2 h.symm); have lta := Nat.lt_of_lt_of_le hlt5 oX.size; have r6b : r ∉ (Value.slice va6 (k + 1) vc6).ownBlock.toList := (fun hx => by rcases B6.out with h1 | h1 <;> (rw [h1] at hx; simp only [Value.ownBlock, Option.toList_some, List.mem_singleton] at hx); (exact hgr.2 hx.symm); (rw [← hx] at lta; exact Nat.lt_irrefl _ lta)); have v6c := ((grown_only hgr6).cell lta r6 1).trans vda; have v6f := ((grown_only hgr6).frozen lta r6 1).trans RX.out.f1; have lt6 := Nat.lt_of_lt_of_le lta hgr6.size; have L6 := Lib.hid (lies_all (l := l.drop k) (by rw [hlenD, hkz]; exact own_only (own_only OWN5.out oX (by simp)) (grown_only hgr6) (fun g' e => by have := (v5r g' e).1; simp [Value.ownBlock]; omega))); rw [hlenD, hkz] at L6; clear hown6 hgr6 hob6))
              all_goals
                go_wp2_with fail
                go_ret
                obtain ⟨p1, p2, p3⟩ := RX.out.grow vda (X := l.take k ++ [(dn, a)] ++ l.drop k) (v := .slice va7 (l.length + 1) vc7) (by rw [hlen7]; exact OW7.out) (fun g' e => by cases e; exact hgr) (((G6.out.mono (S' := g :: (Value.slice va6 (k + 1) vc6).ownBlock.toList) (by simp [Value.ownBlock])).trans (G7.out.mono (fun x hx => List.mem_cons_of_mem _ hx))).back (fun x hx => by
                  rcases List.mem_cons.1 hx with rfl | hx
                  · exact Or.inl (by simp [Value.ownBlock])
                  · rcases B6.out with h1 | h1
                    · rw [h1] at hx; exact Or.inl hx
                    · rw [h1] at hx; simp only [Option.toList_some, List.mem_singleton] at hx; exact Or.inr (Nat.le_of_eq hx.symm)) (Nat.le_refl _)) (fun g' e => by
                  rcases B7.out with h1 | h1
                  · rw [h1] at e
                    rcases B6.out with h2 | h2
                    · rw [h2] at e; exact Or.inl e
                    · rw [h2] at e; cases e; exact Or.inr (Nat.le_refl _)
                  · rw [h1] at e; cases e; exact Or.inr G6.out.size)
                have hlist : l.take k ++ [(dn, a)] ++ l.drop k = l.take k ++ (dn, a) :: l.drop k := by simp
                rw [hlist] at p1
                have hOO : Only H w _ := ((OW1.out.trans (O5.out.trans oX)).mono (by simp)).trans p2
                refine ⟨rfl, _, p1, hOO, fun x hx => (p3 x hx).imp id (fun h => Nat.le_trans ((OW1.out.trans (O5.out.trans oX)).size) h)⟩
            · skip
              have hgr : g ∈ H ∧ g ≠ r := hg g rfl
              have hgq : g < wq.heap.size := (HQ.out.lt g rfl).2
              have hkc : k ≤ cap := by omega
              have hkz : l.length - k = 0 := by omega
              have LD := Lib.hid (show Lies wq (some ⟨g, k * 2, none⟩) 0 (cap - k) (l.drop k) from by have h := lies_drop HQ.out (k := k) (by omega); rw [hkz] at h; exact h)
              have ovz := ((Only.alloc [] wq (.cells #[] 50)).cell hltq (by simp) 1).trans hvq
              go_upto_region 10 with (at_builtin; refine step_new rfl (.tmp 47) (.tmp 53) rfl (l.drop k) _ _ _ wq (by rw [hlenD]; omega) LD.out (fun a e _ => by cases e; exact ⟨hgq, rfl⟩) rfl rfl ?_; intro v5 w5 hown hO5; rw [hlenD, hkz] at hown; obtain ⟨va5, vc5, rfl⟩ := own_form hown; have OWN5 := Lib.hid hown; have O5 := Lib.hid hO5; clear hown hO5)
              have hd5 := O5.out.trans (Only.drewN [] w5 1)
              have RD := Lib.hid (RQ.out.kept hd5 (by simp))
              have vd : w5.drew.cell? ⟨r, 1, none⟩ = some (.slice (some ⟨g, 0, none⟩) l.length cap) := (hd5.cell hltq (by simp) 1).trans hvq
              have q0d : w5.drew.cell? ⟨bd, 0, none⟩ = some (.int .i64 (dn : Nat)) := (hd5.cell zq (by simp) 0).trans q0q
              have q1d : w5.drew.cell? ⟨bd, 1, none⟩ = some (.int .u64 (a : Nat)) := (hd5.cell zq (by simp) 1).trans q1q
              have hltd : r < w5.drew.heap.size := Nat.lt_of_lt_of_le hltq hd5.size
              have oX : Only [] w5 (w5.alloc (.cells #[.int .i64 (dn : Nat), .int .u64 (a : Nat)] 50)).drew := (Only.alloc [] w5 _).trans (Only.drewN [] _ 1)
              have OTa := Lib.hid (own_only (own_take (own_only HQ.out O5.out (by simp)) (k := k) (by omega)) oX (by simp))
              have LXa := Lib.hid ((lies_one w5 (dn, a) 50).kept (Only.drewN [] _ 1) (fun _ => ⟨by simp, by simp, rfl⟩))
              have hlt5 : r < w5.heap.size := hltd
              have zd : bd < w5.heap.size := Nat.lt_of_lt_of_le zq O5.out.size
              have RX := Lib.hid (RQ.out.kept (O5.out.trans oX) (by simp))
              have vda := (oX.cell hlt5 (by simp) 1).trans vd
              have q0a := (oX.cell zd (by simp) 0).trans q0d
              have q1a := (oX.cell zd (by simp) 1).trans q1d
              have v5r : ∀ g', (Value.slice va5 0 vc5).ownBlock = some g' → wq.heap.size ≤ g' ∧ g' < w5.heap.size := fun g' e => OWN5.out.lt g' e
              clear HQ RQ LD q0q q1q ovz
              go_region_law (first
                | (refine step_app_law rfl (.tmp 64) (.tmp 65) rfl 0 _ (l.take k ++ [(dn, a)]) (l.drop k) va5 0 vc5 _ (by rw [hlen6]; exact OW6.out) (Nat.zero_le _) (by rw [hlen6, hlenD]; omega) L6.out (by first | rfl | simp [Act.eval, Act.put]) (by first | rfl | simp [Act.eval, Act.put]) ?_; intro v7 w7 hown7 hgr7 hob7; rw [hlen7] at hown7; obtain ⟨va7, vc7, rfl⟩ := own_form hown7; have OW7 := Lib.hid hown7; have G7 := Lib.hid (grown_only hgr7); have B7 := Lib.hid hob7; have r7 : r ∉ (Value.slice va6 (k + 1) vc6).ownBlock.toList := r6b; have v7c := ((grown_only hgr7).cell lt6 r7 1).trans v6c; have v7f := ((grown_only hgr7).frozen lt6 r7 1).trans v6f; have lt7 := Nat.lt_of_lt_of_le lt6 hgr7.size; clear hown7 hgr7 hob7)
                | (refine step_app_law rfl (.tmp 61) (.tmp 63) rfl 0 _ (l.take k) [(dn, a)] _ 1 1 _ OTa.out (Nat.zero_le _) (by rw [List.length_take]; simp; omega) LXa.out (by first | rfl | simp [Act.eval, Act.put]) (by first | rfl | simp [Act.eval, Act.put]) ?_; intro v6 w6 hown6 hgr6 hob6; rw [hlen6] at hown6; obtain ⟨va6, vc6, rfl⟩ := own_form hown6; have OW6 := Lib.hid hown6; have G6 := Lib.hid (grown_only hgr6); have B6 := Lib.hid hob6; have r6 : r ∉ (Value.slice (some ⟨g, 0, none⟩) k cap).ownBlock.toList := (by simp [Value.ownBlock]; exact fun h => hgr.2 h.symm); have lta := Nat.lt_of_lt_of_le hlt5 oX.size; have r6b : r ∉ (Value.slice va6 (k + 1) vc6).ownBlock.toList := (fun hx => by rcases B6.out with h1 | h1 <;> (rw [h1] at hx; simp only [Value.ownBlock, Option.toList_some, List.mem_singleton] at hx); (exact hgr.2 hx.symm); (rw [← hx] at lta; exact Nat.lt_irrefl _ lta)); have v6c := ((grown_only hgr6).cell lta r6 1).trans vda; have v6f := ((grown_only hgr6).frozen lta r6 1).trans RX.out.f1; have lt6 := Nat.lt_of_lt_of_le lta hgr6.size; have L6 := Lib.hid (lies_all (l := l.drop k) (by rw [hlenD, hkz]; exact own_only (own_only OWN5.out oX (by simp)) (grown_only hgr6) (fun g' e => by have := (v5r g' e).1; simp [Value.ownBlock]; omega))); rw [hlenD, hkz] at L6; clear hown6 hgr6 hob6))
              all_goals
                go_wp2_with fail
                go_ret
                obtain ⟨p1, p2, p3⟩ := RX.out.grow vda (X := l.take k ++ [(dn, a)] ++ l.drop k) (v := .slice va7 (l.length + 1) vc7) (by rw [hlen7]; exact OW7.out) (fun g' e => by cases e; exact hgr) (((G6.out.mono (S' := g :: (Value.slice va6 (k + 1) vc6).ownBlock.toList) (by simp [Value.ownBlock])).trans (G7.out.mono (fun x hx => List.mem_cons_of_mem _ hx))).back (fun x hx => by
                  rcases List.mem_cons.1 hx with rfl | hx
                  · exact Or.inl (by simp [Value.ownBlock])
                  · rcases B6.out with h1 | h1
                    · rw [h1] at hx; exact Or.inl hx
                    · rw [h1] at hx; simp only [Option.toList_some, List.mem_singleton] at hx; exact Or.inr (Nat.le_of_eq hx.symm)) (Nat.le_refl _)) (fun g' e => by
                  rcases B7.out with h1 | h1
                  · rw [h1] at e
                    rcases B6.out with h2 | h2
                    · rw [h2] at e; exact Or.inl e
                    · rw [h2] at e; cases e; exact Or.inr (Nat.le_refl _)
                  · rw [h1] at e; cases e; exact Or.inr G6.out.size)
                have hlist : l.take k ++ [(dn, a)] ++ l.drop k = l.take k ++ (dn, a) :: l.drop k := by simp
                rw [hlist] at p1
                have hOO : Only H w _ := ((OW1.out.trans (O5.out.trans oX)).mono (by simp)).trans p2
                refine ⟨rfl, _, p1, hOO, fun x hx => (p3 x hx).imp id (fun h => Nat.le_trans ((OW1.out.trans (O5.out.trans oX)).size) h)⟩
end Wh
end Go.Proofs.Ytddiapihopgpbaa
