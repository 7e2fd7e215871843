/-
  What the document's own change, Unmap and Protect answer and leave. Conditions: that its space lies there, and that each argument is of its Go type.
-/
import Derived.Test.YtiiggmfindfkfaaGreatStRops
import Derived.RegionTactic
import Derived.ChangeAlike
namespace Go.Proofs.YtiiggmfindfkfaaGreat
open Go.RowKit Nt
namespace St
open Ph En Wk
/-- Is one of the first of a first index's pages there? -/
def lft (q : Nat → PgT) (i k : Nat) : Bool := (List.range k).any fun j => (q (64 * i + j)).2.1
theorem lft_zero (q : Nat → PgT) (i : Nat) : lft q i 0 = false := by simp [lft]
theorem lft_next (q : Nat → PgT) (i k : Nat) : lft q i (k + 1) = (lft q i k || (q (64 * i + k)).2.1) := by
  unfold lft
  rw [List.range_succ, List.any_append]
  simp
theorem tabR_fr0 {s t : Rst} {i : Nat} (h : tabR s i = some t) (h0 : 0 ≤ s.fr) : 0 ≤ t.fr := by
  unfold tabR at h
  split at h
  · injection h with h; subst h; exact h0
  · split at h
    · cases h
    · injection h with h; subst h; simp only; omega
def fin (t : Rst) (i : Nat) : Rst := if lft t.q i 64 = true then t else ⟨t.fr + 1, upd t.f i 0, t.q⟩
def chgR (s : Rst) (p : Int) (to : PgT) : Int × Rst :=
  if inR 4096 p = false then (11, s)
  else if (s.q p.toNat).2.1 = false then (12, s)
  else match tabR s (p.toNat / 64) with
    | none => (15, s)
    | some t => (0, fin { t with q := upd t.q p.toNat (if to.2.1 = true then ((s.q p.toNat).1, to.2) else to) } (p.toNat / 64))
set_option maxRecDepth 100000 in
set_option maxHeartbeats 2000000 in
theorem rchg_yes (r P G n : Nat) (p : Int) (a b : Bool) (s : Rst) (w : World) (hS : Rs w r P G n s) (hb : s.fr ≤ 5000) (hb0 : 0 ≤ s.fr) :
    Calls Tryz.prog 82 #[.pointer (some ⟨r, 0, none⟩), .int .i64 p, .agg #[.int .i64 0, .bool true, .bool a, .bool b]] w fun e w' => e = .returned (.int .i64 (chgR s p (0, true, a, b)).1) ∧ Rs w' r P G n (chgR s p (0, true, a, b)).2 ∧ Only [r, P, G] w w' := by
  obtain ⟨ans, hans⟩ : ∃ ans, ans = chgR s p (0, true, a, b) := ⟨_, rfl⟩
  rw [← hans]
  have LT := Lib.hid (And.intro hS.lt (And.intro hS.ltP hS.ltG))
  have HS := Lib.hid (hS.kept (Only.alloc [] w (.cells #[.int .i64 0, .bool true, .bool a, .bool b] 82)) (by simp) (by simp) (by simp))
  have O0 := Lib.hid (Only.alloc [r, P, G] w (.cells #[.int .i64 0, .bool true, .bool a, .bool b] 82))
  have Y0 := Lib.hid (Tl.Lay.new w 82 [.int .i64 0, .bool true, .bool a, .bool b])
  have HB := Lib.hid hb
  clear hS hb
  cases h1 : inR 4096 p with
  | false =>
    have e : chgR s p (0, true, a, b) = (11, s) := by unfold chgR; rw [if_pos h1]
    obtain rfl := hans.trans e
    have D1 := Lib.hid (show (decide (0 ≤ p) && decide (p < 4096)) = false from h1)
    clear e hans h1
    go_enter Tryz.func82, Tryz.ntmps82
    go_wp2_with (go_at_call 80; refine (rspan_any p 4096 _).mono ?_; rintro e w1 ⟨rfl, rfl⟩; rw [D1.out])
    go_ret
    exact ⟨rfl, HS.out, O0.out⟩
  | true =>
  have D1 := Lib.hid (show (decide (0 ≤ p) && decide (p < 4096)) = true from h1)
  obtain ⟨k, rfl, hk⟩ := inR_nat h1
  have e0 : chgR s k (0, true, a, b) = (if (s.q k).2.1 = false then (12, s) else match tabR s (k / 64) with
    | none => (15, s)
    | some t => (0, fin { t with q := upd t.q k ((s.q k).1, true, a, b) } (k / 64)) : Int × Rst) := by
    unfold chgR
    rw [if_neg (by rw [h1]; simp)]
    rfl
  rw [e0] at hans
  have q1 := HS.out.q1 k hk
  have c0 := HS.out.c0
  clear e0 h1
  by_cases hT : (s.q k).2.1 = false
  · rw [if_pos hT] at hans
    subst hans
    rw [hT] at q1
    clear hT
    go_enter Tryz.func82, Tryz.ntmps82
    go_wp2_with (go_at_call 80; refine (rspan_any (k : Int) 4096 _).mono ?_; rintro e w1 ⟨rfl, rfl⟩; rw [D1.out])
    go_ret
    exact ⟨rfl, HS.out, O0.out⟩
  rw [if_neg hT] at hans
  have hT' : (s.q k).2.1 = true := by simpa using hT
  rw [hT'] at q1
  clear hT hT'
  have ek : ((k / 64 : Nat) : Int) = (k : Int) / 64 := by omega
  cases htb : tabR s (k / 64) with
  | none =>
    rw [htb] at hans
    subst hans
    have CT := rtable_no r P G n (k / 64) s _ HS.out (by omega) htb
    rw [ek] at CT
    have CT := Lib.hid CT
    clear ek htb
    go_enter Tryz.func82, Tryz.ntmps82
    go_wp2_with (go_at_call 80; refine (rspan_any (k : Int) 4096 _).mono ?_; rintro e w1 ⟨rfl, rfl⟩; rw [D1.out])
    refine CT.out.mono ?_
    rintro e w1 ⟨rfl, rfl⟩
    go_wp2
    go_ret
    exact ⟨rfl, HS.out, O0.out⟩
  | some t =>
    rw [htb] at hans
    have CT := rtable_yes r P G n (k / 64) s t _ HS.out (by omega) htb HB.out
    rw [ek] at CT
    have CT := Lib.hid CT
    have TQ := Lib.hid (tabR_q htb)
    have TF := Lib.hid (tabR_fr htb)
    have T0 := Lib.hid (tabR_fr0 htb hb0)
    clear hb0
    obtain ⟨i, hi⟩ : ∃ i, i = k / 64 := ⟨_, rfl⟩
    rw [← hi] at hans
    have HI := Lib.hid hi
    have AN := Lib.hid hans
    clear ek htb hans hi
    go_enter Tryz.func82, Tryz.ntmps82
    go_wp2_with (go_at_call 80; refine (rspan_any (k : Int) 4096 _).mono ?_; rintro e w1 ⟨rfl, rfl⟩; rw [D1.out])
    obtain ⟨bx, hbx⟩ : ∃ bx, bx = w.heap.size := ⟨_, rfl⟩
    rw [← hbx] at Y0 ⊢
    have BX := Lib.hid hbx
    clear hbx
    generalize w.alloc (.cells #[.int .i64 0, .bool true, .bool a, .bool b] 82) = u at *
    refine CT.out.mono ?_
    rintro e w1 ⟨rfl, hR, hO⟩
    have NB := Lib.hid (show bx ≠ r ∧ bx ≠ P ∧ bx ≠ G from by have h1 := BX.out; have h2 := LT.out; omega)
    have H1 := Lib.hid hR
    have O1 := Lib.hid (O0.out.trans hO)
    have Y1 := Lib.hid (Y0.out.kept hO (by have := NB.out; simp; omega))
    clear hR hO CT c0 q1 O0 HS Y0
    have c0 := H1.out.c0
    have k0 := H1.out.q0 k hk
    rw [show t.q = s.q from TQ.out] at k0
    have y0 := Y1.out.cell 0
    have y1 := Y1.out.cell 1
    have f0 := Y1.out.free 0
    simp only [List.getElem?_cons_zero, List.getElem?_cons_succ] at y0 y1
    have Y2 := Lib.hid (Y1.out.set 0 (.int .i64 (s.q k).1))
    have ob : Only [bx] w1 (w1.setCell ⟨bx, 0, none⟩ (.int .i64 (s.q k).1)) := Only.setCell w1 (by simp) 0 _
    have H2 := Lib.hid (H1.out.kept ob (by have := NB.out; simp; omega) (by have := NB.out; simp; omega) (by have := NB.out; simp; omega))
    have O2 := Lib.hid (show Only [r, P, G] w (w1.setCell ⟨bx, 0, none⟩ (.int .i64 (s.q k).1)) from Only.back (S := [r, P, G, bx]) (n := w.heap.size) ((O1.out.mono (by simp)).trans (ob.mono (by simp))) (by have h1 := BX.out; intro y hy; simp at hy; rcases hy with rfl | rfl | rfl | rfl; exact Or.inl (by simp); exact Or.inl (by simp); exact Or.inl (by simp); exact Or.inr (by omega)) (Nat.le_refl _))
    simp only [List.set_cons_zero] at Y2
    clear H1 O1 Y1 ob
    go_wp2_with fail
    clear y0 y1 f0 c0 k0
    generalize w1.setCell ⟨bx, 0, none⟩ (.int .i64 (s.q k).1) = w2 at *
    have H2 := Lib.hid (show Rs w2 r P G n t from H2.out)
    have c0 := H2.out.c0
    have y0 := Y2.out.cell 0
    have y1 := Y2.out.cell 1
    have y2 := Y2.out.cell 2
    have y3 := Y2.out.cell 3
    simp only [List.getElem?_cons_zero, List.getElem?_cons_succ] at y0 y1 y2 y3
    have k0 := H2.out.q0 k hk
    have k1 := H2.out.q1 k hk
    have k2 := H2.out.q2 k hk
    have k3 := H2.out.q3 k hk
    have z0 := H2.out.fq (k * 4) (by omega)
    have z1 := H2.out.fq (k * 4 + 1) (by omega)
    have z2 := H2.out.fq (k * 4 + 2) (by omega)
    have z3 := H2.out.fq (k * 4 + 3) (by omega)
    have H3 := Lib.hid (show Rs (((((w2.setCell ⟨P, k * 4, none⟩ (.int .i64 (s.q k).1)).setCell ⟨P, k * 4 + 1, none⟩ (.bool true)).setCell ⟨P, k * 4 + 2, none⟩ (.bool a)).setCell ⟨P, k * 4 + 3, none⟩ (.bool b)).drew) r P G n { t with q := upd t.q k ((s.q k).1, true, a, b) } from (H2.out.setQ hk ((s.q k).1, true, a, b)).kept (Only.drewN [] (set4q w2 P k ((s.q k).1, true, a, b)) 1) (by simp) (by simp) (by simp))
    have O3 := Lib.hid (show Only [r, P, G] w (((((w2.setCell ⟨P, k * 4, none⟩ (.int .i64 (s.q k).1)).setCell ⟨P, k * 4 + 1, none⟩ (.bool true)).setCell ⟨P, k * 4 + 2, none⟩ (.bool a)).setCell ⟨P, k * 4 + 3, none⟩ (.bool b)).drew) from (O2.out.trans ((only_set4q w2 P k ((s.q k).1, true, a, b)).mono (by simp))).trans (Only.drewN [r, P, G] (set4q w2 P k ((s.q k).1, true, a, b)) 1))
    clear H2 O2 Y2
    go_region
    clear c0 k0 k1 k2 k3 z0 z1 z2 z3 y0 y1 y2 y3
    generalize ((((w2.setCell ⟨P, k * 4, none⟩ (.int .i64 (s.q k).1)).setCell ⟨P, k * 4 + 1, none⟩ (.bool true)).setCell ⟨P, k * 4 + 2, none⟩ (.bool a)).setCell ⟨P, k * 4 + 3, none⟩ (.bool b)).drew = w3 at *
    obtain ⟨t2, ht2⟩ : ∃ t2 : Rst, t2 = { t with q := upd t.q k ((s.q k).1, true, a, b) } := ⟨_, rfl⟩
    have TB := Lib.hid (show 0 ≤ t2.fr ∧ t2.fr ≤ 5000 from by have h1 := TF.out; have h2 := T0.out; have h3 := HB.out; rw [ht2]; simp only; omega)
    rw [← ht2] at H3 AN
    clear ht2 TF TQ T0
    go_wp2_with fail
    go_loop [7, 8] (fun f c => ∃ j : Nat, c = .int .i64 j ∧ j ≤ 64 ∧ f = .bool (lft t2.q i j)) (fun _ c => 64 - (intOf c).toNat)
    case atStart => exact ⟨0, rfl, by omega, by rw [lft_zero]⟩
    case round =>
      obtain ⟨j, rfl, hj, rfl⟩ := hrel
      by_cases hlt : j < 64
      · have c0 := H3.out.c0
        have hp : 64 * i + j < 4096 := by have := HI.out; omega
        have k1 := H3.out.q1 (64 * i + j) hp
        have ei : ((k : Int) / 64 * 64 + (j : Int)).toNat = 64 * i + j := by have := HI.out; omega
        have LN := Lib.hid (lft_next t2.q i j)
        cases hq : lft t2.q i j with
        | true =>
          rw [hq] at LN
          go_wp2_with fail
          go_round
          case rel => exact ⟨j + 1, by go_num, by omega, by rw [LN.out]; rfl⟩
          case measure => simp only [intOf, Int.toNat_natCast]; omega
        | false =>
          rw [hq] at LN
          go_wp2_with fail
          go_round
          case rel => exact ⟨j + 1, by go_num, by omega, by rw [LN.out, Bool.false_or]⟩
          case measure => simp only [intOf, Int.toNat_natCast]; omega
      · obtain rfl : j = 64 := by omega
        cases hq : lft t2.q i 64 with
        | true =>
          have ef : fin t2 i = t2 := by unfold fin; rw [if_pos hq]
          have ea := AN.out
          rw [ef] at ea
          subst ea
          clear AN ef
          go_wp2_with fail
          go_ret
          exact ⟨rfl, H3.out, O3.out⟩
        | false =>
          have ef : fin t2 i = ⟨t2.fr + 1, upd t2.f i 0, t2.q⟩ := by unfold fin; rw [if_neg (by rw [hq]; simp)]
          have ea := AN.out
          rw [ef] at ea
          subst ea
          clear AN ef
          have hi64 : i < 64 := by have := HI.out; omega
          have c0 := H3.out.c1
          have g0 := H3.out.g0 i hi64
          have fg := H3.out.fg i hi64
          have ei : ((k : Int) / 64).toNat = i := by have := HI.out; omega
          have H4 := Lib.hid (H3.out.setF hi64 0)
          have H5 := Lib.hid (H4.out.setFr (t2.fr + 1))
          have O5 := Lib.hid ((O3.out.trans (Only.setCell w3 (b := G) (by simp) i (.int .i64 0))).trans (Only.setCell _ (b := r) (by simp) 3 (.int .i64 (t2.fr + 1))))
          have e1 := H4.out.c3
          have e2 := H4.out.f3
          have b0 := TB.out.1
          have b1 := TB.out.2
          simp only at e1
          go_wp2_with fail
          go_ret
          exact ⟨rfl, H5.out, O5.out⟩
set_option maxRecDepth 100000 in
set_option maxHeartbeats 2000000 in
theorem rchg_no (r P G n : Nat) (p : Int) (s : Rst) (w : World) (hS : Rs w r P G n s) (hb : s.fr ≤ 5000) (hb0 : 0 ≤ s.fr) :
    Calls Tryz.prog 82 #[.pointer (some ⟨r, 0, none⟩), .int .i64 p, .agg #[.int .i64 0, .bool false, .bool false, .bool false]] w fun e w' => e = .returned (.int .i64 (chgR s p (0, false, false, false)).1) ∧ Rs w' r P G n (chgR s p (0, false, false, false)).2 ∧ Only [r, P, G] w w' := by
  obtain ⟨ans, hans⟩ : ∃ ans, ans = chgR s p (0, false, false, false) := ⟨_, rfl⟩
  rw [← hans]
  have LT := Lib.hid (And.intro hS.lt (And.intro hS.ltP hS.ltG))
  have HS := Lib.hid (hS.kept (Only.alloc [] w (.cells #[.int .i64 0, .bool false, .bool false, .bool false] 82)) (by simp) (by simp) (by simp))
  have O0 := Lib.hid (Only.alloc [r, P, G] w (.cells #[.int .i64 0, .bool false, .bool false, .bool false] 82))
  have Y0 := Lib.hid (Tl.Lay.new w 82 [.int .i64 0, .bool false, .bool false, .bool false])
  have HB := Lib.hid hb
  clear hS hb
  cases h1 : inR 4096 p with
  | false =>
    have e : chgR s p (0, false, false, false) = (11, s) := by unfold chgR; rw [if_pos h1]
    obtain rfl := hans.trans e
    have D1 := Lib.hid (show (decide (0 ≤ p) && decide (p < 4096)) = false from h1)
    clear e hans h1
    go_enter Tryz.func82, Tryz.ntmps82
    go_wp2_with (go_at_call 80; refine (rspan_any p 4096 _).mono ?_; rintro e w1 ⟨rfl, rfl⟩; rw [D1.out])
    go_ret
    exact ⟨rfl, HS.out, O0.out⟩
  | true =>
  have D1 := Lib.hid (show (decide (0 ≤ p) && decide (p < 4096)) = true from h1)
  obtain ⟨k, rfl, hk⟩ := inR_nat h1
  have e0 : chgR s k (0, false, false, false) = (if (s.q k).2.1 = false then (12, s) else match tabR s (k / 64) with
    | none => (15, s)
    | some t => (0, fin { t with q := upd t.q k (0, false, false, false) } (k / 64)) : Int × Rst) := by
    unfold chgR
    rw [if_neg (by rw [h1]; simp)]
    rfl
  rw [e0] at hans
  have q1 := HS.out.q1 k hk
  have c0 := HS.out.c0
  clear e0 h1
  by_cases hT : (s.q k).2.1 = false
  · rw [if_pos hT] at hans
    subst hans
    rw [hT] at q1
    clear hT
    go_enter Tryz.func82, Tryz.ntmps82
    go_wp2_with (go_at_call 80; refine (rspan_any (k : Int) 4096 _).mono ?_; rintro e w1 ⟨rfl, rfl⟩; rw [D1.out])
    go_ret
    exact ⟨rfl, HS.out, O0.out⟩
  rw [if_neg hT] at hans
  have hT' : (s.q k).2.1 = true := by simpa using hT
  rw [hT'] at q1
  clear hT hT'
  have ek : ((k / 64 : Nat) : Int) = (k : Int) / 64 := by omega
  cases htb : tabR s (k / 64) with
  | none =>
    rw [htb] at hans
    subst hans
    have CT := rtable_no r P G n (k / 64) s _ HS.out (by omega) htb
    rw [ek] at CT
    have CT := Lib.hid CT
    clear ek htb
    go_enter Tryz.func82, Tryz.ntmps82
    go_wp2_with (go_at_call 80; refine (rspan_any (k : Int) 4096 _).mono ?_; rintro e w1 ⟨rfl, rfl⟩; rw [D1.out])
    refine CT.out.mono ?_
    rintro e w1 ⟨rfl, rfl⟩
    go_wp2
    go_ret
    exact ⟨rfl, HS.out, O0.out⟩
  | some t =>
    rw [htb] at hans
    have CT := rtable_yes r P G n (k / 64) s t _ HS.out (by omega) htb HB.out
    rw [ek] at CT
    have CT := Lib.hid CT
    have TQ := Lib.hid (tabR_q htb)
    have TF := Lib.hid (tabR_fr htb)
    have T0 := Lib.hid (tabR_fr0 htb hb0)
    clear hb0
    obtain ⟨i, hi⟩ : ∃ i, i = k / 64 := ⟨_, rfl⟩
    rw [← hi] at hans
    have HI := Lib.hid hi
    have AN := Lib.hid hans
    clear ek htb hans hi
    go_enter Tryz.func82, Tryz.ntmps82
    go_wp2_with (go_at_call 80; refine (rspan_any (k : Int) 4096 _).mono ?_; rintro e w1 ⟨rfl, rfl⟩; rw [D1.out])
    obtain ⟨bx, hbx⟩ : ∃ bx, bx = w.heap.size := ⟨_, rfl⟩
    rw [← hbx] at Y0 ⊢
    have BX := Lib.hid hbx
    clear hbx
    generalize w.alloc (.cells #[.int .i64 0, .bool false, .bool false, .bool false] 82) = u at *
    refine CT.out.mono ?_
    rintro e w1 ⟨rfl, hR, hO⟩
    have NB := Lib.hid (show bx ≠ r ∧ bx ≠ P ∧ bx ≠ G from by have h1 := BX.out; have h2 := LT.out; omega)
    have H1 := Lib.hid hR
    have O1 := Lib.hid (O0.out.trans hO)
    have Y1 := Lib.hid (Y0.out.kept hO (by have := NB.out; simp; omega))
    clear hR hO CT c0 q1 O0 HS Y0
    have y1 := Y1.out.cell 1
    simp only [List.getElem?_cons_zero, List.getElem?_cons_succ] at y1
    have Y2 := Lib.hid Y1.out
    have H2 := Lib.hid H1.out
    have O2 := Lib.hid O1.out
    clear H1 O1 Y1
    go_wp2_with fail
    clear y1
    generalize w1 = w2 at *
    have H2 := Lib.hid (show Rs w2 r P G n t from H2.out)
    have c0 := H2.out.c0
    have y0 := Y2.out.cell 0
    have y1 := Y2.out.cell 1
    have y2 := Y2.out.cell 2
    have y3 := Y2.out.cell 3
    simp only [List.getElem?_cons_zero, List.getElem?_cons_succ] at y0 y1 y2 y3
    have k0 := H2.out.q0 k hk
    have k1 := H2.out.q1 k hk
    have k2 := H2.out.q2 k hk
    have k3 := H2.out.q3 k hk
    have z0 := H2.out.fq (k * 4) (by omega)
    have z1 := H2.out.fq (k * 4 + 1) (by omega)
    have z2 := H2.out.fq (k * 4 + 2) (by omega)
    have z3 := H2.out.fq (k * 4 + 3) (by omega)
    have H3 := Lib.hid (show Rs (((((w2.setCell ⟨P, k * 4, none⟩ (.int .i64 0)).setCell ⟨P, k * 4 + 1, none⟩ (.bool false)).setCell ⟨P, k * 4 + 2, none⟩ (.bool false)).setCell ⟨P, k * 4 + 3, none⟩ (.bool false)).drew) r P G n { t with q := upd t.q k (0, false, false, false) } from (H2.out.setQ hk (0, false, false, false)).kept (Only.drewN [] (set4q w2 P k (0, false, false, false)) 1) (by simp) (by simp) (by simp))
    have O3 := Lib.hid (show Only [r, P, G] w (((((w2.setCell ⟨P, k * 4, none⟩ (.int .i64 0)).setCell ⟨P, k * 4 + 1, none⟩ (.bool false)).setCell ⟨P, k * 4 + 2, none⟩ (.bool false)).setCell ⟨P, k * 4 + 3, none⟩ (.bool false)).drew) from (O2.out.trans ((only_set4q w2 P k (0, false, false, false)).mono (by simp))).trans (Only.drewN [r, P, G] (set4q w2 P k (0, false, false, false)) 1))
    clear H2 O2 Y2
    go_region
    clear c0 k0 k1 k2 k3 z0 z1 z2 z3 y0 y1 y2 y3
    generalize ((((w2.setCell ⟨P, k * 4, none⟩ (.int .i64 0)).setCell ⟨P, k * 4 + 1, none⟩ (.bool false)).setCell ⟨P, k * 4 + 2, none⟩ (.bool false)).setCell ⟨P, k * 4 + 3, none⟩ (.bool false)).drew = w3 at *
    obtain ⟨t2, ht2⟩ : ∃ t2 : Rst, t2 = { t with q := upd t.q k (0, false, false, false) } := ⟨_, rfl⟩
    have TB := Lib.hid (show 0 ≤ t2.fr ∧ t2.fr ≤ 5000 from by have h1 := TF.out; have h2 := T0.out; have h3 := HB.out; rw [ht2]; simp only; omega)
    rw [← ht2] at H3 AN
    clear ht2 TF TQ T0
    go_wp2_with fail
    go_loop [7, 8] (fun f c => ∃ j : Nat, c = .int .i64 j ∧ j ≤ 64 ∧ f = .bool (lft t2.q i j)) (fun _ c => 64 - (intOf c).toNat)
    case atStart => exact ⟨0, rfl, by omega, by rw [lft_zero]⟩
    case round =>
      obtain ⟨j, rfl, hj, rfl⟩ := hrel
      by_cases hlt : j < 64
      · have c0 := H3.out.c0
        have hp : 64 * i + j < 4096 := by have := HI.out; omega
        have k1 := H3.out.q1 (64 * i + j) hp
        have ei : ((k : Int) / 64 * 64 + (j : Int)).toNat = 64 * i + j := by have := HI.out; omega
        have LN := Lib.hid (lft_next t2.q i j)
        cases hq : lft t2.q i j with
        | true =>
          rw [hq] at LN
          go_wp2_with fail
          go_round
          case rel => exact ⟨j + 1, by go_num, by omega, by rw [LN.out]; rfl⟩
          case measure => simp only [intOf, Int.toNat_natCast]; omega
        | false =>
          rw [hq] at LN
          go_wp2_with fail
          go_round
          case rel => exact ⟨j + 1, by go_num, by omega, by rw [LN.out, Bool.false_or]⟩
          case measure => simp only [intOf, Int.toNat_natCast]; omega
      · obtain rfl : j = 64 := by omega
        cases hq : lft t2.q i 64 with
        | true =>
          have ef : fin t2 i = t2 := by unfold fin; rw [if_pos hq]
          have ea := AN.out
          rw [ef] at ea
          subst ea
          clear AN ef
          go_wp2_with fail
          go_ret
          exact ⟨rfl, H3.out, O3.out⟩
        | false =>
          have ef : fin t2 i = ⟨t2.fr + 1, upd t2.f i 0, t2.q⟩ := by unfold fin; rw [if_neg (by rw [hq]; simp)]
          have ea := AN.out
          rw [ef] at ea
          subst ea
          clear AN ef
          have hi64 : i < 64 := by have := HI.out; omega
          have c0 := H3.out.c1
          have g0 := H3.out.g0 i hi64
          have fg := H3.out.fg i hi64
          have ei : ((k : Int) / 64).toNat = i := by have := HI.out; omega
          have H4 := Lib.hid (H3.out.setF hi64 0)
          have H5 := Lib.hid (H4.out.setFr (t2.fr + 1))
          have O5 := Lib.hid ((O3.out.trans (Only.setCell w3 (b := G) (by simp) i (.int .i64 0))).trans (Only.setCell _ (b := r) (by simp) 3 (.int .i64 (t2.fr + 1))))
          have e1 := H4.out.c3
          have e2 := H4.out.f3
          have b0 := TB.out.1
          have b1 := TB.out.2
          simp only at e1
          go_wp2_with fail
          go_ret
          exact ⟨rfl, H5.out, O5.out⟩
end St
end Go.Proofs.YtiiggmfindfkfaaGreat
