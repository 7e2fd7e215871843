/-
  What the document's own Push and Change answer, and leave. Conditions: that its heap lies there, no number twice.
-/
import Derived.Test.YtmeadkllbjkjbaaHqRef4
namespace Go.Proofs.Ytmeadkllbjkjbaa
open Go.RowKit
namespace Hq
open Ph (Only)
open Wh (Srt Uni ins del has mem_ins has_iff len_ins)
theorem lies_all {W : World} {base : Nat} {e : TypeId} {a : Option Addr} {cap : Nat} {l : List ItT} (h : W.ownsRow base e 2 (.slice a l.length cap) l.length (flatD l)) : Lies W a l.length cap l := by
  have := lies_take h (k := l.length) (Nat.le_refl _)
  rw [List.take_length] at this
  exact this
theorem lies_one (W : World) (x : ItT) (t : TypeId) : Lies (W.alloc (.cells #[.int .i64 (x.1 : Nat), .int .u64 (x.2 : Nat)] t)) (some ⟨W.heap.size, 0, none⟩) 1 1 [x] := by
  refine ⟨rfl, (fun e => absurd e (by simp)), fun ad e j u hj => ?_⟩
  cases e
  rw [add_eq, Nat.zero_add, World.cell?_alloc_new]
  have e1 : flatD [x] = [.int .i64 (x.1 : Nat), .int .u64 (x.2 : Nat)] := rfl
  rw [e1] at hj
  rw [List.getElem?_toArray]
  exact hj
set_option maxRecDepth 100000 in
set_option maxHeartbeats 4000000 in
theorem put_any (r : Nat) (H : List Nat) (l : List ItT) (d a : Nat) (w : World) (hl : l.length ≤ 1000) (hR : RW w r H l) :
    Calls Try.prog 26 #[.pointer (some ⟨r, 0, none⟩), .int .i64 (d : Nat), .int .u64 (a : Nat)] w fun e w' => ∃ H', e = .returned (.tuple #[]) ∧ RW w' r H' (ins (d, a) l) ∧ Only H w w' ∧ ∀ x ∈ H', x ∈ H ∨ w.heap.size ≤ x := by
  have HR := Lib.hid hR
  have hlt := hR.lt r hR.mem
  obtain ⟨v, hv, hrow, hg⟩ := hR.row
  obtain ⟨av, cap, rfl⟩ := own_form hrow
  have HQ := Lib.hid hrow
  rw [ins_split]
  have hkle := aheadN_le (d, a) l
  have HAY := Lib.hid (fun k (h : k < aheadN (d, a) l) => aheadN_yes h)
  have HAN := Lib.hid (fun y (h : l[aheadN (d, a) l]? = some y) => aheadN_no h)
  generalize aheadN (d, a) l = K0 at *
  rcases hrow.2 with ⟨hn1, hn2⟩ | ⟨g, cc, cur, hn1, _, _, hnc, hcm, _⟩
  · simp only [Value.slice.injEq] at hn1
    obtain ⟨e1, _, e3⟩ := hn1
    obtain rfl : l = [] := List.eq_nil_of_length_eq_zero hn2
    subst e1
    subst e3
    obtain rfl : K0 = 0 := by simpa using hkle
    have hlen6 : (([] : List ItT) ++ [(d, a)]).length = 1 := rfl
    have hlen7 : (([] : List ItT) ++ [(d, a)] ++ []).length = 1 := rfl
    have LD := Lib.hid (lies_nil w)
    have ovz := ((Only.alloc [] w (.cells #[] 38)).cell hlt (by simp) 0).trans hv
    rw [List.length_nil] at hv ovz
    clear hR hrow hn2 HAY HAN HQ hkle hl hg
    go_enter Try.func26, Try.ntmps26
    go_wp2_with fail
    go_loopw [6] (fun c wr => c = .int .i64 0 ∧ w = wr) (fun c _ => 0)
    case atStart => exact ⟨rfl, rfl⟩
    case round =>
      obtain ⟨rfl, rfl⟩ := hrel
      go_upto_region 4 with (at_builtin; refine step_new rfl (.tmp 53) (.tmp 59) rfl [] _ _ _ w (by simp) LD.out (fun a e _ => absurd e (by simp)) (by first | rfl | simp [Act.eval, Act.put]) (by first | rfl | simp [Act.eval, Act.put]) ?_; intro v5 w5 hown hO5; rw [List.length_nil] at hown; obtain ⟨va5, vc5, rfl⟩ := own_form hown; have OWN5 := Lib.hid hown; have O5 := Lib.hid hO5; clear hown hO5)
      have hd5 := O5.out
      have vd : w5.cell? ⟨r, 0, none⟩ = some (.slice none 0 0) := (hd5.cell hlt (by simp) 0).trans hv
      have hltd : r < w5.heap.size := Nat.lt_of_lt_of_le hlt hd5.size
      have oX : Only [] w5 (w5.alloc (.cells #[.int .i64 (d : Nat), .int .u64 (a : Nat)] 38)) := Only.alloc [] w5 _
      have OTa := Lib.hid (World.ownsRow_nil (w5.alloc (.cells #[.int .i64 (d : Nat), .int .u64 (a : Nat)] 38)) 0 38 2)
      have LXa := Lib.hid (lies_one w5 (d, a) 38)
      have hlt5 : r < w5.heap.size := hltd
      have RX := Lib.hid (HR.out.kept (O5.out.trans oX) (by simp))
      have vda := (oX.cell hlt5 (by simp) 0).trans vd
      have v5r : ∀ g', (Value.slice va5 0 vc5).ownBlock = some g' → w.heap.size ≤ g' ∧ g' < w5.heap.size := fun g' e => OWN5.out.lt g' e
      clear LD ovz
      go_wp2_with (at_builtin; first
        | (refine step_app rfl (.tmp 72) (.tmp 73) rfl 0 _ ([] ++ [(d, a)]) [] va5 0 vc5 _ OW6.out (Nat.zero_le _) (by simp) L6.out (by first | rfl | simp [Act.eval, Act.put]) (by first | rfl | simp [Act.eval, Act.put]) ?_; intro v7 w7 hown7 hgr7 hob7; rw [hlen7] at hown7; obtain ⟨va7, vc7, rfl⟩ := own_form hown7; have OW7 := Lib.hid hown7; have G7 := Lib.hid (grownN hgr7); have B7 := Lib.hid hob7; have v7c := ((grownN hgr7).cell lt6 r6b 0).trans v6c; have v7f := ((grownN hgr7).frozen lt6 r6b 0).trans v6f; have lt7 := Nat.lt_of_lt_of_le lt6 hgr7.size; clear hown7 hgr7 hob7)
        | (refine step_app rfl (.tmp 67) (.tmp 71) rfl 0 _ [] [(d, a)] _ 1 1 _ OTa.out (Nat.zero_le _) (by simp) LXa.out (by first | rfl | simp [Act.eval, Act.put]) (by first | rfl | simp [Act.eval, Act.put]) ?_; intro v6 w6 hown6 hgr6 hob6; rw [hlen6] at hown6; obtain ⟨va6, vc6, rfl⟩ := own_form hown6; have OW6 := Lib.hid hown6; have G6 := Lib.hid (grownN hgr6); have B6 := Lib.hid hob6; have r6 : r ∉ (Value.slice none 0 0).ownBlock.toList := (by simp [Value.ownBlock]); have lta := Nat.lt_of_lt_of_le hlt5 oX.size; have r6b : r ∉ (Value.slice va6 1 vc6).ownBlock.toList := (fun hx => by rcases B6.out with h1 | h1 <;> (rw [h1] at hx; simp only [Value.ownBlock, Option.toList_some, Option.toList_none, List.mem_singleton, List.not_mem_nil] at hx); (rw [← hx] at lta; exact Nat.lt_irrefl _ lta)); have v6c := ((grownN hgr6).cell lta r6 0).trans vda; have v6f := ((grownN hgr6).frozen lta r6 0).trans RX.out.f0; have lt6 := Nat.lt_of_lt_of_le lta hgr6.size; have L6 := Lib.hid (lies_all (l := []) (own_only (own_only OWN5.out oX (by simp)) (grownN hgr6) (fun g' e => by simp [Value.ownBlock]))); rw [List.length_nil] at L6; clear hown6 hgr6 hob6))
      all_goals
        go_end0
        obtain ⟨p1, p2, p3⟩ := RX.out.grow vda (X := [] ++ [(d, a)] ++ []) (v := .slice va7 1 vc7) OW7.out (fun g' e => by cases e) (((G6.out.mono (S' := (Value.slice va6 1 vc6).ownBlock.toList) (by simp [Value.ownBlock])).trans G7.out).back (fun x hx => by
          rcases B6.out with h1 | h1
          · rw [h1] at hx; exact Or.inl hx
          · rw [h1] at hx; simp only [Option.toList_some, List.mem_singleton] at hx; exact Or.inr (Nat.le_of_eq hx.symm)) (Nat.le_refl _)) (fun g' e => by
          rcases B7.out with h1 | h1
          · rw [h1] at e
            rcases B6.out with h2 | h2
            · rw [h2] at e; exact Or.inl e
            · rw [h2] at e; cases e; exact Or.inr (Nat.le_refl _)
          · rw [h1] at e; cases e; exact Or.inr G6.out.size)
        have hOO : Only H w _ := ((O5.out.trans oX).mono (by simp)).trans p2
        first | exact ⟨_, rfl, p1, hOO, fun x hx => (p3 x hx).imp id (fun h => Nat.le_trans ((O5.out.trans oX).size) h)⟩ | exact ⟨rfl, _, p1, hOO, fun x hx => (p3 x hx).imp id (fun h => Nat.le_trans ((O5.out.trans oX).size) h)⟩
  · simp only [Value.slice.injEq] at hn1
    obtain ⟨e1, _, e3⟩ := hn1
    subst e1
    subst e3
    unfold maxLen at hcm
    have hgr : g ∈ H ∧ g ≠ r := hg g rfl
    have hgq : g < w.heap.size := (HQ.out.lt g rfl).2
    have hkc : K0 ≤ cap := by omega
    have HS := Lib.hid (own_seen hrow)
    have HAD : Hid (∃ AD : Addr, (if cap = K0 then some (⟨g, 0, none⟩ : Addr) else some ⟨g, K0 * 2, none⟩) = some AD ∧ Lies w (some AD) (l.length - K0) (cap - K0) (l.drop K0) ∧ AD.block = g ∧ AD.spot = none) := Lib.hid (by
      by_cases h : cap = K0
      · refine ⟨⟨g, 0, none⟩, by rw [if_pos h], ?_, rfl, rfl⟩
        rw [show l.drop K0 = [] from List.drop_eq_nil_of_le (by omega), show l.length - K0 = 0 by omega]
        exact lies_none _ _ _
      · exact ⟨⟨g, K0 * 2, none⟩, by rw [if_neg h], lies_drop hrow (by omega), rfl, rfl⟩)
    have hlenD : (l.drop K0).length = l.length - K0 := List.length_drop
    have hlen6 : (l.take K0 ++ [(d, a)]).length = K0 + 1 := by rw [List.length_append, List.length_take]; simp; omega
    have hlen7 : (l.take K0 ++ [(d, a)] ++ l.drop K0).length = l.length + 1 := by rw [List.length_append, hlen6, hlenD]; omega
    clear hR hrow hg
    go_enter Try.func26, Try.ntmps26
    go_wp2_with fail
    go_loopw [6] (fun c wr => ∃ k : Nat, c = .int .i64 k ∧ k ≤ K0 ∧ w = wr) (fun c _ => l.length + 1 - (intOf c).toNat)
    case atStart => exact ⟨0, rfl, Nat.zero_le _, rfl⟩
    case round =>
      obtain ⟨k, rfl, hk, rfl⟩ := hrel
      by_cases hkl : k < l.length
      · obtain ⟨x, hx⟩ : ∃ x, l[k]? = some x := ⟨l[k], List.getElem?_eq_getElem hkl⟩
        have HXK := Lib.hid hx
        obtain ⟨b, off, hb0, hb, -, -, x0, x1⟩ := HS.out.at hx
        cases hb0
        rw [Nat.zero_add] at x0 x1
        have hyes : Hp.lt x (d, a) → k < K0 := fun h => by
          by_cases e : k < K0
          · exact e
          · obtain rfl : k = K0 := by omega
            exact absurd h (HAN.out _ hx)
        have hno : ¬ Hp.lt x (d, a) → k = K0 := fun h => by
          by_cases e : k < K0
          · obtain ⟨y, hy, hly⟩ := HAY.out k e
            rw [hx] at hy
            cases hy
            exact absurd hly h
          · omega
        obtain ⟨xd, xt⟩ := x
        simp only at x0 x1
        have hlt3 : Hp.lt (xd, xt) (d, a) ↔ xt < a ∨ xt = a ∧ xd < d := Iff.rfl
        rw [hlt3] at hyes hno
        have gk : (k : Int) < (l.length : Int) := by omega
        have g1 : decide ((k : Int) < (l.length : Int)) = true := decide_eq_true gk
        clear hx hlt3
        by_cases c1 : xt < a
        · have hkK : k < K0 := hyes (Or.inl c1)
          have d1 : decide ((xt : Int) < (a : Int)) = true := decide_eq_true (by omega)
          have c1' : (xt : Int) < (a : Int) := by omega
          clear hyes hno c1 HQ HAD hlenD hlen6 hlen7
          go_wp2_with fail
          go_roundw
          case rel => exact ⟨k + 1, by push_cast; rfl, by omega, by trivial⟩
          case measure => simp only [intOf]; omega
        · have d1 : decide ((xt : Int) < (a : Int)) = false := decide_eq_false (by omega)
          by_cases c2 : xt = a
          · have d2 : ((xt : Int) == (a : Int)) = true := by simp; omega
            by_cases c3 : xd < d
            · have hkK : k < K0 := hyes (Or.inr ⟨c2, c3⟩)
              have d3 : decide ((xd : Int) < (d : Int)) = true := decide_eq_true (by omega)
              clear hyes hno HQ HAD hlenD hlen6 hlen7
              go_wp2_with fail
              go_roundw
              case rel => exact ⟨k + 1, by push_cast; rfl, by omega, by trivial⟩
              case measure => simp only [intOf]; omega
            · have d3 : decide ((xd : Int) < (d : Int)) = false := decide_eq_false (by omega)
              obtain rfl : k = K0 := hno (fun h => by omega)
              clear hyes hno hk
              obtain ⟨AD, hAD, hLA, hADb, hADs⟩ := HAD.out
              have hck : ¬ cap = k := by omega
              rw [if_neg hck] at hAD
              cases hAD
              have LD := Lib.hid hLA
              have ovz := ((Only.alloc [] w (.cells #[] 38)).cell hlt (by simp) 0).trans hv
              clear hLA HAD
              go_upto_region 4 with (at_builtin; refine step_new rfl (.tmp 53) (.tmp 59) rfl (l.drop k) _ (l.length - k) (cap - k) w (by rw [hlenD]; omega) LD.out (fun a e _ => by cases e; exact ⟨Nat.lt_of_le_of_lt (Nat.le_of_eq hADb) hgq, hADs⟩) (by first | rfl | simp [Act.eval, Act.put]) (by first | rfl | (simp [Act.eval, Act.put, hAD]; done) | (simp [Act.eval, Act.put]; exact hAD)) ?_; intro v5 w5 hown hO5; rw [hlenD] at hown; obtain ⟨va5, vc5, rfl⟩ := own_form hown; have OWN5 := Lib.hid hown; have O5 := Lib.hid hO5; clear hown hO5)
              have hd5 := O5.out
              have vd : w5.cell? ⟨r, 0, none⟩ = some (.slice (some ⟨g, 0, none⟩) l.length cap) := (hd5.cell hlt (by simp) 0).trans hv
              have hltd : r < w5.heap.size := Nat.lt_of_lt_of_le hlt hd5.size
              have oX : Only [] w5 (w5.alloc (.cells #[.int .i64 (d : Nat), .int .u64 (a : Nat)] 38)) := Only.alloc [] w5 _
              have OTa := Lib.hid (own_only (own_take (own_only HQ.out O5.out (by simp)) (k := k) (by omega)) oX (by simp))
              have LXa := Lib.hid (lies_one w5 (d, a) 38)
              have hlt5 : r < w5.heap.size := hltd
              have RX := Lib.hid (HR.out.kept (O5.out.trans oX) (by simp))
              have vda := (oX.cell hlt5 (by simp) 0).trans vd
              have v5r : ∀ g', (Value.slice va5 (l.length - k) vc5).ownBlock = some g' → w.heap.size ≤ g' ∧ g' < w5.heap.size := fun g' e => OWN5.out.lt g' e
              clear HQ LD ovz HAY HAN HS
              go_wp2_with (at_builtin; first
                | (refine step_app rfl (.tmp 72) (.tmp 73) rfl 0 _ (l.take k ++ [(d, a)]) (l.drop k) va5 (l.length - k) vc5 _ (by rw [hlen6]; exact OW6.out) (Nat.zero_le _) (by rw [hlen6, hlenD]; omega) L6.out (by first | rfl | simp [Act.eval, Act.put]) (by first | rfl | simp [Act.eval, Act.put]) ?_; intro v7 w7 hown7 hgr7 hob7; rw [hlen7] at hown7; obtain ⟨va7, vc7, rfl⟩ := own_form hown7; have OW7 := Lib.hid hown7; have G7 := Lib.hid (grownN hgr7); have B7 := Lib.hid hob7; have r7 : r ∉ (Value.slice va6 (k + 1) vc6).ownBlock.toList := r6b; have v7c := ((grownN hgr7).cell lt6 r7 0).trans v6c; have v7f := ((grownN hgr7).frozen lt6 r7 0).trans v6f; have lt7 := Nat.lt_of_lt_of_le lt6 hgr7.size; clear hown7 hgr7 hob7)
                | (refine step_app rfl (.tmp 67) (.tmp 71) rfl 0 _ (l.take k) [(d, a)] _ 1 1 _ OTa.out (Nat.zero_le _) (by rw [List.length_take]; simp; omega) LXa.out (by first | rfl | simp [Act.eval, Act.put]) (by first | rfl | simp [Act.eval, Act.put]) ?_; intro v6 w6 hown6 hgr6 hob6; rw [hlen6] at hown6; obtain ⟨va6, vc6, rfl⟩ := own_form hown6; have OW6 := Lib.hid hown6; have G6 := Lib.hid (grownN hgr6); have B6 := Lib.hid hob6; have r6 : r ∉ (Value.slice (some ⟨g, 0, none⟩) k cap).ownBlock.toList := (by simp [Value.ownBlock]; exact fun h => hgr.2 h.symm); have lta := Nat.lt_of_lt_of_le hlt5 oX.size; have r6b : r ∉ (Value.slice va6 (k + 1) vc6).ownBlock.toList := (fun hx => by rcases B6.out with h1 | h1 <;> (rw [h1] at hx; simp only [Value.ownBlock, Option.toList_some, List.mem_singleton] at hx); (exact hgr.2 hx.symm); (rw [← hx] at lta; exact Nat.lt_irrefl _ lta)); have v6c := ((grownN hgr6).cell lta r6 0).trans vda; have v6f := ((grownN hgr6).frozen lta r6 0).trans RX.out.f0; have lt6 := Nat.lt_of_lt_of_le lta hgr6.size; have L6 := Lib.hid (lies_all (l := l.drop k) (by rw [hlenD]; exact own_only (own_only OWN5.out oX (by simp)) (grownN hgr6) (fun g' e => by have := (v5r g' e).1; simp [Value.ownBlock]; omega))); rw [hlenD] at L6; clear hown6 hgr6 hob6))
              all_goals
                go_end0
                obtain ⟨p1, p2, p3⟩ := RX.out.grow vda (X := l.take k ++ [(d, a)] ++ l.drop k) (v := .slice va7 (l.length + 1) vc7) (by rw [hlen7]; exact OW7.out) (fun g' e => by cases e; exact hgr) (((G6.out.mono (S' := g :: (Value.slice va6 (k + 1) vc6).ownBlock.toList) (by simp [Value.ownBlock])).trans (G7.out.mono (fun x hx => List.mem_cons_of_mem _ hx))).back (fun x hx => by
                  rcases List.mem_cons.1 hx with rfl | hx
                  · exact Or.inl (by simp [Value.ownBlock])
                  · rcases B6.out with h1 | h1
                    · rw [h1] at hx; exact Or.inl hx
                    · rw [h1] at hx; simp only [Option.toList_some, List.mem_singleton] at hx; exact Or.inr (Nat.le_of_eq hx.symm)) (Nat.le_refl _)) (fun g' e => by
                  rcases B7.out with h1 | h1
                  · rw [h1] at e
                    rcases B6.out with h2 | h2
                    · rw [h2] at e; exact Or.inl e
                    · rw [h2] at e; cases e; exact Or.inr (Nat.le_refl _)
                  · rw [h1] at e; cases e; exact Or.inr G6.out.size)
                have hlist : l.take k ++ [(d, a)] ++ l.drop k = l.take k ++ (d, a) :: l.drop k := by simp
                rw [hlist] at p1
                have hOO : Only H w _ := ((O5.out.trans oX).mono (by simp)).trans p2
                first | exact ⟨_, rfl, p1, hOO, fun x hx => (p3 x hx).imp id (fun h => Nat.le_trans ((O5.out.trans oX).size) h)⟩ | exact ⟨rfl, _, p1, hOO, fun x hx => (p3 x hx).imp id (fun h => Nat.le_trans ((O5.out.trans oX).size) h)⟩
          · have d2 : ((xt : Int) == (a : Int)) = false := by simp; omega
            obtain rfl : k = K0 := hno (fun h => by omega)
            clear hyes hno hk
            obtain ⟨AD, hAD, hLA, hADb, hADs⟩ := HAD.out
            have hck : ¬ cap = k := by omega
            rw [if_neg hck] at hAD
            cases hAD
            have LD := Lib.hid hLA
            have ovz := ((Only.alloc [] w (.cells #[] 38)).cell hlt (by simp) 0).trans hv
            clear hLA HAD
            go_upto_region 4 with (at_builtin; refine step_new rfl (.tmp 53) (.tmp 59) rfl (l.drop k) _ (l.length - k) (cap - k) w (by rw [hlenD]; omega) LD.out (fun a e _ => by cases e; exact ⟨Nat.lt_of_le_of_lt (Nat.le_of_eq hADb) hgq, hADs⟩) (by first | rfl | simp [Act.eval, Act.put]) (by first | rfl | (simp [Act.eval, Act.put, hAD]; done) | (simp [Act.eval, Act.put]; exact hAD)) ?_; intro v5 w5 hown hO5; rw [hlenD] at hown; obtain ⟨va5, vc5, rfl⟩ := own_form hown; have OWN5 := Lib.hid hown; have O5 := Lib.hid hO5; clear hown hO5)
            have hd5 := O5.out
            have vd : w5.cell? ⟨r, 0, none⟩ = some (.slice (some ⟨g, 0, none⟩) l.length cap) := (hd5.cell hlt (by simp) 0).trans hv
            have hltd : r < w5.heap.size := Nat.lt_of_lt_of_le hlt hd5.size
            have oX : Only [] w5 (w5.alloc (.cells #[.int .i64 (d : Nat), .int .u64 (a : Nat)] 38)) := Only.alloc [] w5 _
            have OTa := Lib.hid (own_only (own_take (own_only HQ.out O5.out (by simp)) (k := k) (by omega)) oX (by simp))
            have LXa := Lib.hid (lies_one w5 (d, a) 38)
            have hlt5 : r < w5.heap.size := hltd
            have RX := Lib.hid (HR.out.kept (O5.out.trans oX) (by simp))
            have vda := (oX.cell hlt5 (by simp) 0).trans vd
            have v5r : ∀ g', (Value.slice va5 (l.length - k) vc5).ownBlock = some g' → w.heap.size ≤ g' ∧ g' < w5.heap.size := fun g' e => OWN5.out.lt g' e
            clear HQ LD ovz HAY HAN HS
            go_wp2_with (at_builtin; first
              | (refine step_app rfl (.tmp 72) (.tmp 73) rfl 0 _ (l.take k ++ [(d, a)]) (l.drop k) va5 (l.length - k) vc5 _ (by rw [hlen6]; exact OW6.out) (Nat.zero_le _) (by rw [hlen6, hlenD]; omega) L6.out (by first | rfl | simp [Act.eval, Act.put]) (by first | rfl | simp [Act.eval, Act.put]) ?_; intro v7 w7 hown7 hgr7 hob7; rw [hlen7] at hown7; obtain ⟨va7, vc7, rfl⟩ := own_form hown7; have OW7 := Lib.hid hown7; have G7 := Lib.hid (grownN hgr7); have B7 := Lib.hid hob7; have r7 : r ∉ (Value.slice va6 (k + 1) vc6).ownBlock.toList := r6b; have v7c := ((grownN hgr7).cell lt6 r7 0).trans v6c; have v7f := ((grownN hgr7).frozen lt6 r7 0).trans v6f; have lt7 := Nat.lt_of_lt_of_le lt6 hgr7.size; clear hown7 hgr7 hob7)
              | (refine step_app rfl (.tmp 67) (.tmp 71) rfl 0 _ (l.take k) [(d, a)] _ 1 1 _ OTa.out (Nat.zero_le _) (by rw [List.length_take]; simp; omega) LXa.out (by first | rfl | simp [Act.eval, Act.put]) (by first | rfl | simp [Act.eval, Act.put]) ?_; intro v6 w6 hown6 hgr6 hob6; rw [hlen6] at hown6; obtain ⟨va6, vc6, rfl⟩ := own_form hown6; have OW6 := Lib.hid hown6; have G6 := Lib.hid (grownN hgr6); have B6 := Lib.hid hob6; have r6 : r ∉ (Value.slice (some ⟨g, 0, none⟩) k cap).ownBlock.toList := (by simp [Value.ownBlock]; exact fun h => hgr.2 h.symm); have lta := Nat.lt_of_lt_of_le hlt5 oX.size; have r6b : r ∉ (Value.slice va6 (k + 1) vc6).ownBlock.toList := (fun hx => by rcases B6.out with h1 | h1 <;> (rw [h1] at hx; simp only [Value.ownBlock, Option.toList_some, List.mem_singleton] at hx); (exact hgr.2 hx.symm); (rw [← hx] at lta; exact Nat.lt_irrefl _ lta)); have v6c := ((grownN hgr6).cell lta r6 0).trans vda; have v6f := ((grownN hgr6).frozen lta r6 0).trans RX.out.f0; have lt6 := Nat.lt_of_lt_of_le lta hgr6.size; have L6 := Lib.hid (lies_all (l := l.drop k) (by rw [hlenD]; exact own_only (own_only OWN5.out oX (by simp)) (grownN hgr6) (fun g' e => by have := (v5r g' e).1; simp [Value.ownBlock]; omega))); rw [hlenD] at L6; clear hown6 hgr6 hob6))
            all_goals
              go_end0
              obtain ⟨p1, p2, p3⟩ := RX.out.grow vda (X := l.take k ++ [(d, a)] ++ l.drop k) (v := .slice va7 (l.length + 1) vc7) (by rw [hlen7]; exact OW7.out) (fun g' e => by cases e; exact hgr) (((G6.out.mono (S' := g :: (Value.slice va6 (k + 1) vc6).ownBlock.toList) (by simp [Value.ownBlock])).trans (G7.out.mono (fun x hx => List.mem_cons_of_mem _ hx))).back (fun x hx => by
                rcases List.mem_cons.1 hx with rfl | hx
                · exact Or.inl (by simp [Value.ownBlock])
                · rcases B6.out with h1 | h1
                  · rw [h1] at hx; exact Or.inl hx
                  · rw [h1] at hx; simp only [Option.toList_some, List.mem_singleton] at hx; exact Or.inr (Nat.le_of_eq hx.symm)) (Nat.le_refl _)) (fun g' e => by
                rcases B7.out with h1 | h1
                · rw [h1] at e
                  rcases B6.out with h2 | h2
                  · rw [h2] at e; exact Or.inl e
                  · rw [h2] at e; cases e; exact Or.inr (Nat.le_refl _)
                · rw [h1] at e; cases e; exact Or.inr G6.out.size)
              have hlist : l.take k ++ [(d, a)] ++ l.drop k = l.take k ++ (d, a) :: l.drop k := by simp
              rw [hlist] at p1
              have hOO : Only H w _ := ((O5.out.trans oX).mono (by simp)).trans p2
              first | exact ⟨_, rfl, p1, hOO, fun x hx => (p3 x hx).imp id (fun h => Nat.le_trans ((O5.out.trans oX).size) h)⟩ | exact ⟨rfl, _, p1, hOO, fun x hx => (p3 x hx).imp id (fun h => Nat.le_trans ((O5.out.trans oX).size) h)⟩
      · have g1 : decide ((k : Int) < (l.length : Int)) = false := decide_eq_false (by omega)
        obtain rfl : k = K0 := by omega
        clear hk
        obtain ⟨AD, hAD, hLA, hADb, hADs⟩ := HAD.out
        skip
        have LD := Lib.hid hLA
        have ovz := ((Only.alloc [] w (.cells #[] 38)).cell hlt (by simp) 0).trans hv
        clear hLA HAD
        go_upto_region 4 with (at_builtin; refine step_new rfl (.tmp 53) (.tmp 59) rfl (l.drop k) _ (l.length - k) (cap - k) w (by rw [hlenD]; omega) LD.out (fun a e _ => by cases e; exact ⟨Nat.lt_of_le_of_lt (Nat.le_of_eq hADb) hgq, hADs⟩) (by first | rfl | simp [Act.eval, Act.put]) (by first | rfl | (simp [Act.eval, Act.put, hAD]; done) | (simp [Act.eval, Act.put]; exact hAD)) ?_; intro v5 w5 hown hO5; rw [hlenD] at hown; obtain ⟨va5, vc5, rfl⟩ := own_form hown; have OWN5 := Lib.hid hown; have O5 := Lib.hid hO5; clear hown hO5)
        have hd5 := O5.out
        have vd : w5.cell? ⟨r, 0, none⟩ = some (.slice (some ⟨g, 0, none⟩) l.length cap) := (hd5.cell hlt (by simp) 0).trans hv
        have hltd : r < w5.heap.size := Nat.lt_of_lt_of_le hlt hd5.size
        have oX : Only [] w5 (w5.alloc (.cells #[.int .i64 (d : Nat), .int .u64 (a : Nat)] 38)) := Only.alloc [] w5 _
        have OTa := Lib.hid (own_only (own_take (own_only HQ.out O5.out (by simp)) (k := k) (by omega)) oX (by simp))
        have LXa := Lib.hid (lies_one w5 (d, a) 38)
        have hlt5 : r < w5.heap.size := hltd
        have RX := Lib.hid (HR.out.kept (O5.out.trans oX) (by simp))
        have vda := (oX.cell hlt5 (by simp) 0).trans vd
        have v5r : ∀ g', (Value.slice va5 (l.length - k) vc5).ownBlock = some g' → w.heap.size ≤ g' ∧ g' < w5.heap.size := fun g' e => OWN5.out.lt g' e
        clear HQ LD ovz HAY HAN HS
        go_wp2_with (at_builtin; first
          | (refine step_app rfl (.tmp 72) (.tmp 73) rfl 0 _ (l.take k ++ [(d, a)]) (l.drop k) va5 (l.length - k) vc5 _ (by rw [hlen6]; exact OW6.out) (Nat.zero_le _) (by rw [hlen6, hlenD]; omega) L6.out (by first | rfl | simp [Act.eval, Act.put]) (by first | rfl | simp [Act.eval, Act.put]) ?_; intro v7 w7 hown7 hgr7 hob7; rw [hlen7] at hown7; obtain ⟨va7, vc7, rfl⟩ := own_form hown7; have OW7 := Lib.hid hown7; have G7 := Lib.hid (grownN hgr7); have B7 := Lib.hid hob7; have r7 : r ∉ (Value.slice va6 (k + 1) vc6).ownBlock.toList := r6b; have v7c := ((grownN hgr7).cell lt6 r7 0).trans v6c; have v7f := ((grownN hgr7).frozen lt6 r7 0).trans v6f; have lt7 := Nat.lt_of_lt_of_le lt6 hgr7.size; clear hown7 hgr7 hob7)
          | (refine step_app rfl (.tmp 67) (.tmp 71) rfl 0 _ (l.take k) [(d, a)] _ 1 1 _ OTa.out (Nat.zero_le _) (by rw [List.length_take]; simp; omega) LXa.out (by first | rfl | simp [Act.eval, Act.put]) (by first | rfl | simp [Act.eval, Act.put]) ?_; intro v6 w6 hown6 hgr6 hob6; rw [hlen6] at hown6; obtain ⟨va6, vc6, rfl⟩ := own_form hown6; have OW6 := Lib.hid hown6; have G6 := Lib.hid (grownN hgr6); have B6 := Lib.hid hob6; have r6 : r ∉ (Value.slice (some ⟨g, 0, none⟩) k cap).ownBlock.toList := (by simp [Value.ownBlock]; exact fun h => hgr.2 h.symm); have lta := Nat.lt_of_lt_of_le hlt5 oX.size; have r6b : r ∉ (Value.slice va6 (k + 1) vc6).ownBlock.toList := (fun hx => by rcases B6.out with h1 | h1 <;> (rw [h1] at hx; simp only [Value.ownBlock, Option.toList_some, List.mem_singleton] at hx); (exact hgr.2 hx.symm); (rw [← hx] at lta; exact Nat.lt_irrefl _ lta)); have v6c := ((grownN hgr6).cell lta r6 0).trans vda; have v6f := ((grownN hgr6).frozen lta r6 0).trans RX.out.f0; have lt6 := Nat.lt_of_lt_of_le lta hgr6.size; have L6 := Lib.hid (lies_all (l := l.drop k) (by rw [hlenD]; exact own_only (own_only OWN5.out oX (by simp)) (grownN hgr6) (fun g' e => by have := (v5r g' e).1; simp [Value.ownBlock]; omega))); rw [hlenD] at L6; clear hown6 hgr6 hob6))
        all_goals
          go_end0
          obtain ⟨p1, p2, p3⟩ := RX.out.grow vda (X := l.take k ++ [(d, a)] ++ l.drop k) (v := .slice va7 (l.length + 1) vc7) (by rw [hlen7]; exact OW7.out) (fun g' e => by cases e; exact hgr) (((G6.out.mono (S' := g :: (Value.slice va6 (k + 1) vc6).ownBlock.toList) (by simp [Value.ownBlock])).trans (G7.out.mono (fun x hx => List.mem_cons_of_mem _ hx))).back (fun x hx => by
            rcases List.mem_cons.1 hx with rfl | hx
            · exact Or.inl (by simp [Value.ownBlock])
            · rcases B6.out with h1 | h1
              · rw [h1] at hx; exact Or.inl hx
              · rw [h1] at hx; simp only [Option.toList_some, List.mem_singleton] at hx; exact Or.inr (Nat.le_of_eq hx.symm)) (Nat.le_refl _)) (fun g' e => by
            rcases B7.out with h1 | h1
            · rw [h1] at e
              rcases B6.out with h2 | h2
              · rw [h2] at e; exact Or.inl e
              · rw [h2] at e; cases e; exact Or.inr (Nat.le_refl _)
            · rw [h1] at e; cases e; exact Or.inr G6.out.size)
          have hlist : l.take k ++ [(d, a)] ++ l.drop k = l.take k ++ (d, a) :: l.drop k := by simp
          rw [hlist] at p1
          have hOO : Only H w _ := ((O5.out.trans oX).mono (by simp)).trans p2
          first | exact ⟨_, rfl, p1, hOO, fun x hx => (p3 x hx).imp id (fun h => Nat.le_trans ((O5.out.trans oX).size) h)⟩ | exact ⟨rfl, _, p1, hOO, fun x hx => (p3 x hx).imp id (fun h => Nat.le_trans ((O5.out.trans oX).size) h)⟩
end Hq
end Go.Proofs.Ytmeadkllbjkjbaa
