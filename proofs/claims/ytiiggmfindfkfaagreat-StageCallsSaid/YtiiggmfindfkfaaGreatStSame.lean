/-
  The statement's 'same': a space and the document's own one tell the same, and it says yes. Conditions: that both lie there, and tell the same.
-/
import Derived.Test.YtiiggmfindfkfaaGreatStTel
import Derived.Test.YtiiggmfindfkfaaGreatStTwo
import Derived.Deep.QuietTactic
import Derived.BigQuiet
namespace Go.Proofs.YtiiggmfindfkfaaGreat
open Go.RowKit Nt
namespace St
open Ph (Only)
open Ph En Wk
/-- The pages that are told, of the first. -/
def tol (A : Nat → Fst) (n : Nat) : List Nat := (List.range n).filter (fun p => (told A p).isSome)
theorem tol_next (A : Nat → Fst) (p : Nat) : tol A (p + 1) = tol A p ++ (if (told A p).isSome = true then [p] else []) := by
  unfold tol
  rw [List.range_succ, List.filter_append]
  cases h : (told A p).isSome <;> simp [h]
theorem tol_len (A : Nat → Fst) (n : Nat) : (tol A n).length ≤ n := by unfold tol; exact Nat.le_trans (List.length_filter_le _ _) (by simp)
theorem tol_at {A : Nat → Fst} {p : Nat} (h : (told A p).isSome = true) : ∀ {n : Nat}, p < n → (tol A n)[(tol A p).length]? = some p
  | 0, hp => by omega
  | n + 1, hp => by
    rw [tol_next]
    by_cases e : p = n
    · subst e
      rw [List.getElem?_append_right (Nat.le_refl _), Nat.sub_self, if_pos h]
      rfl
    · have ih := tol_at h (n := n) (by omega)
      rw [List.getElem?_append_left (List.getElem?_eq_some_iff.1 ih).1]
      exact ih
theorem fK_B {A : Nat → Fst} {p : Nat} {t : Tp} (h : told A p = some t) : fK (A (p / 64)) = if t.B = true then 1 else 2 := by
  unfold told Fst.told at h
  split at h
  · cases h
  · rename_i w e F hA
    injection h with h
    subst h
    rw [hA]; rfl
  · rename_i q pg hA
    split at h
    · cases h
    · injection h with h
      subst h
      rw [hA]; rfl
theorem seen_at {B : Nat} {w : World} {pp : Option Addr} {len cap : Nat} {l : List Nat} (h : Fr.Seen B w (.slice pp len cap) l) (hl : 0 < l.length) : ∃ b, pp = some ⟨b, 0, none⟩ ∧ B ≤ b ∧ b < w.heap.size ∧ ∀ (j y : Nat), l[j]? = some y → w.cell? ⟨b, j, none⟩ = some (.int .i64 (y : Int)) := by
  obtain ⟨a, c, e, _, hr⟩ := h
  injection e with e _ _
  subst e
  exact hr hl
set_option maxRecDepth 100000 in
set_option maxHeartbeats 4000000 in
theorem same_any (B g : Nat) (L : Loc) (v : Value) (x : Pl) (A : Nat → Fst) (k r P G : Nat) (s : Rst) (w : World) (hD : Wd B g L w v x) (hR : Rep L.n x A) (hI : Inv L.n k x.root x.os A) (hS : Rs w r P G L.n s) (hT : Tel k A s) :
    Calls Tryz.prog 11 #[.pointer (some ⟨g, 0, none⟩), .pointer (some ⟨r, 0, none⟩)] w fun e w' => e = .returned (.bool true) ∧ Below w.heap.size w w' := by
  have D0 := Lib.hid hD
  have RR := Lib.hid hR
  have S0 := Lib.hid hS
  have TT := Lib.hid hT
  have C1 := Lib.hid hI.c1
  have j3 := hD.c.2.2.2
  clear hD hR hI hS hT
  go_enter Tryz.func11, Tryz.ntmps11
  go_wp2_with fail
  refine (pages_seen w D0.out.st RR.out.live).mono ?_
  rintro e w1 ⟨vp, rfl, hs, hO⟩
  obtain ⟨pp, cp, rfl⟩ := hs.form
  rw [pages_told RR.out] at hs ⊢
  have bO := hO.below (B := w.heap.size) (Nat.le_refl _) (by simp)
  obtain ⟨lp, hlp⟩ : ∃ lp, lp = (List.range 4096).filter (fun p => (told A p).isSome) := ⟨_, rfl⟩
  rw [← hlp] at hs ⊢
  have LP := Lib.hid (show lp = tol A 4096 from hlp)
  have hl4 : lp.length ≤ 4096 := by rw [LP.out]; exact tol_len A 4096
  obtain ⟨np, hnp⟩ : ∃ np, np = lp.length := ⟨_, rfl⟩
  rw [← hnp] at hl4 ⊢
  have NP := Lib.hid hnp
  have V1 := Lib.hid hs
  have D1 := Lib.hid (D0.out.below bO)
  have S1 := Lib.hid (S0.out.below bO)
  have U1 := Lib.hid bO
  clear hs hO bO hlp hnp j3 D0 S0
  go_wp2_with fail
  go_loopw [6, 7] (fun c q wr => ∃ p : Nat, q = .int .i64 p ∧ p ≤ 4096 ∧ c = .int .i64 (((tol A p).length : Nat) : Int) ∧ Wd B g L wr v x ∧ Rs wr r P G L.n s ∧ Fr.Seen w.heap.size wr (.slice pp lp.length cp) lp ∧ Below w.heap.size w wr) (fun _ q _ => 4096 - (intOf q).toNat)
  case atStart => exact ⟨0, rfl, by omega, rfl, D1.out, S1.out, V1.out, U1.out⟩
  case round =>
    obtain ⟨p, rfl, hp, rfl, hD, hS, hV, hU⟩ := hrel
    have D2 := Lib.hid hD
    have S2 := Lib.hid hS
    have V2 := Lib.hid hV
    have U2 := Lib.hid hU
    clear hD hS hV hU D1 S1 V1 U1
    have ql := tol_len A p
    obtain ⟨cc, hcc⟩ : ∃ cc, cc = (tol A p).length := ⟨_, rfl⟩
    rw [← hcc] at ql ⊢
    have CC := Lib.hid hcc
    clear hcc
    by_cases hlt : p < 4096
    · have c0 := S2.out.c0
      have k1 := S2.out.q1 p hlt
      rw [TT.out.q p hlt, pgO_T] at k1
      cases ht : told A p with
      | none =>
        rw [ht] at k1
        have CN := Lib.hid (show (tol A (p + 1)).length = cc by rw [tol_next, ht, CC.out]; simp)
        simp only [Option.isSome_none] at k1
        clear ht
        go_wp2_with fail
        go_roundw
        case rel => exact ⟨p + 1, by go_num, by omega, by rw [CN.out], D2.out, S2.out, V2.out, U2.out⟩
        case measure => simp only [intOf, Int.toNat_natCast]; omega
      | some t =>
        rw [ht] at k1
        simp only [Option.isSome_some] at k1
        have CN := Lib.hid (show (tol A (p + 1)).length = cc + 1 by rw [tol_next, ht, CC.out]; simp)
        have hat : lp[cc]? = some p := by rw [LP.out, CC.out]; exact tol_at (by rw [ht]; rfl) hlt
        have hcn : cc < np := by have := (List.getElem?_eq_some_iff.1 hat).1; rw [NP.out]; exact this
        obtain ⟨bl, hbl, hbB, hbl1, hcl⟩ := seen_at V2.out (by have := NP.out; omega)
        have HBL := Lib.hid hbl
        subst hbl
        have cl := hcl cc p hat
        have j3 := D2.out.c.2.2.2
        have HT := Lib.hid ht
        clear hcl hat ht
        go_wp2_with fail
        clear cl c0 k1 hcn
        refine (look_some p t wr D2.out.st RR.out hlt HT.out).mono ?_
        rintro e w2 ⟨rfl, b2⟩
        have D3 := Lib.hid (fun m => ((D2.out.below b2).alloc (.cells #[.bool true, .bool t.W, .bool t.X, .bool t.B, .int .i64 (t.F : Int)] 62)).drewN m)
        have S3 := Lib.hid ((S2.out.below b2).news (.cells #[.bool true, .bool t.W, .bool t.X, .bool t.B, .int .i64 (t.F : Int)] 62))
        have S4 := Lib.hid (fun m => S3.out.kept (Only.drewN [] _ m) (by simp) (by simp) (by simp))
        have ov := (Only.of b2 []).trans (Only.alloc [] w2 (.cells #[.bool true, .bool t.W, .bool t.X, .bool t.B, .int .i64 (t.F : Int)] 62))
        have V4 := Lib.hid (fun m => V2.out.kept (ov.trans (Only.drewN [] _ m)) (by simp))
        have U4 := Lib.hid (fun m => U2.out.trans ((ov.trans (Only.drewN [] _ m)).below U2.out.size (by simp)))
        have Y3 := Tl.Lay.new w2 62 [.bool true, .bool t.W, .bool t.X, .bool t.B, .int .i64 (t.F : Int)]
        have y1 := Y3.cell 1
        have y2 := Y3.cell 2
        have y3 := Y3.cell 3
        have y4 := Y3.cell 4
        simp only [List.getElem?_cons_zero, List.getElem?_cons_succ] at y1 y2 y3 y4
        have eq := (TT.out.q p hlt).trans (by rw [HT.out])
        have c0 := S3.out.c0
        have c1 := S3.out.c1
        have k0 := S3.out.q0 p hlt
        have k2 := S3.out.q2 p hlt
        have k3 := S3.out.q3 p hlt
        rw [eq] at k0 k2 k3
        simp only [pgO] at k0 k2 k3
        have g0 := S3.out.g0 (p / 64) (by omega)
        rw [TT.out.f _ (by omega), fK_B HT.out] at g0
        have ei : ((p : Int) / 64).toNat = p / 64 := by omega
        clear ov b2 eq Y3 D2 S2 V2 U2 S3 j3
        cases hb : t.B with
        | true =>
          rw [hb, if_pos rfl] at g0
          rw [hb] at y3 D3 S4 V4 U4 k0 k2 k3 c0 c1 y1 y2 y4
          go_wp2_with fail
          go_quiet (fail)
          clear y1 y2 y3 y4 k0 k2 k3 c0 c1 g0 ei
          go_wp2_with fail
          go_roundw
          case rel => exact ⟨p + 1, by go_num, by omega, by rw [CN.out]; go_num, D3.out _, S4.out _, V4.out _, U4.out _⟩
          case measure => simp only [intOf, Int.toNat_natCast]; omega
        | false =>
          rw [hb, if_neg (by simp)] at g0
          rw [hb] at y3 D3 S4 V4 U4 k0 k2 k3 c0 c1 y1 y2 y4
          go_wp2_with fail
          go_quiet (fail)
          clear y1 y2 y3 y4 k0 k2 k3 c0 c1 g0 ei
          go_wp2_with fail
          go_roundw
          case rel => exact ⟨p + 1, by go_num, by omega, by rw [CN.out]; go_num, D3.out _, S4.out _, V4.out _, U4.out _⟩
          case measure => simp only [intOf, Int.toNat_natCast]; omega
    · obtain rfl : p = 4096 := by omega
      obtain rfl : cc = np := by rw [CC.out, NP.out, LP.out]
      have j3 := D2.out.c.2.2.2
      obtain ⟨T, hTe⟩ : ∃ T, T = tabs A := ⟨_, rfl⟩
      have T64 : T ≤ 64 := by rw [hTe]; exact cntN_le _ 64
      have CR := fun wq (h : Rs wq r P G L.n s) => rtabs_any r P G L.n s wq h
      rw [cntN_congr (Q := fun i => isT (A i)) (fun i hi => by rw [TT.out.f i hi, Bool.eq_iff_iff]; simp [fK_2])] at CR
      change ∀ wq (h : Rs wq r P G L.n s), Calls _ _ _ wq fun e w' => e = .returned (.int .i64 ((tabs A : Nat) : Int)) ∧ _ at CR
      have CT := ntab_any wr D2.out.st RR.out
      have ew : ((Fr.which 1 x.os).length : Int) = ((T + 1 : Nat) : Int) := by
        have h := Fr.which_count 1 x.os
        rw [C1.out, ← hTe] at h
        show ((Fr.which ((1 : Nat) : Int) x.os).length : Int) = _
        omega
      rw [← hTe] at CR CT
      have EW := Lib.hid ew
      have KR := Lib.hid CR
      clear ew CR hTe V2
      go_wp2_with fail
      refine CT.mono ?_
      rintro e w2 ⟨rfl, b2⟩
      have D3 := Lib.hid (D2.out.below b2)
      have S3 := Lib.hid (S2.out.below b2)
      have U3 := Lib.hid (U2.out.trans (b2.mono U2.out.size))
      clear b2 CT D2 S2 U2 j3
      have j1 := D3.out.c.2.1
      go_wp2_with fail
      refine (KR.out w2 S3.out).mono ?_
      rintro e w3 ⟨rfl, rfl⟩
      go_wp2_with fail
      have CF := Fr.count_any L.t L.tF 1 x.os w2 D3.out.st.tab
      rw [EW.out] at CF
      refine CF.mono ?_
      rintro e w3 ⟨rfl, rfl⟩
      clear CF j1
      go_wp2_with fail
      refine (KR.out w2 S3.out).mono ?_
      rintro e w3 ⟨rfl, rfl⟩
      go_wp2_with fail
      go_ret
      exact ⟨rfl, U3.out⟩
end St
end Go.Proofs.YtiiggmfindfkfaaGreat
