/-
  What is done in stage's Unmap, Protect, Split and Merge. Conditions: that a space lies there that tells its pages, and that each argument is of its Go type.
-/
import Derived.Test.YtiiggmfindfkfaaGreatStSing
import Derived.Test.YtiiggmfindfkfaaGreatStDid
namespace Go.Proofs.YtiiggmfindfkfaaGreat
open Go.RowKit Nt
namespace St
open Ph En Wk
/-- A variable that a closure holds. -/
structure Bx (L : Loc) (w : World) (v : Value) (b : Nat) (u : Value) : Prop where
  c : w.cell? ⟨b, 0, none⟩ = some u
  lt : b < w.heap.size
  out : b ∉ L.all
  off : v.ownBlock ≠ some b
theorem S_all {L : Loc} {b : Nat} (h : b ∉ L.all) : b ∉ L.S := fun e => h (by simp [Loc.S] at e; simp [Loc.all]; omega)
section
variable {L : Loc} {w w' : World} {v v' : Value} {b : Nat} {u : Value}
theorem Bx.hop (h : Bx L w v b u) (hp : Hop L.S v v' w w') : Bx L w' v' b u :=
  ⟨(hp.cell h.lt (S_all h.out) h.off 0).trans h.c, Nat.lt_of_lt_of_le h.lt hp.size, h.out, hp.off h.lt h.off⟩
theorem Bx.only (h : Bx L w v b u) (ho : Only L.S w w') : Bx L w' v b u := h.hop (Hop.of ho v)
theorem Bx.below (h : Bx L w v b u) (hb : Below w.heap.size w w') : Bx L w' v b u := h.only (Only.of hb L.S)
theorem Bx.alloc (h : Bx L w v b u) (o : Obj) : Bx L (w.alloc o) v b u := h.only (Only.alloc L.S w o)
theorem Bx.drewN (h : Bx L w v b u) (k : Nat) : Bx L (w.drewN k) v b u := h.only (Only.drewN L.S w k)
end
variable {L : Loc} {v : Value} {x x1 : Pl} {A A1 : Nat → Fst}
theorem hop_below {S : List Nat} {w w' : World} (hb : Below w.heap.size w w') (v : Value) : Hop S v v w w' := Hop.of (Only.of hb S) v
/-- A page's own entry, and where it stands. -/
theorem single_any (p t : Nat) (pg : Pgs) (q : Tp) (w : World) (hS : St L w v x) (hR : Rep L.n x A) (hl : x.log = []) (hp : p < 4096) (hT : told A p = some q) (hr : ready L.n L.vm x A (p / 64) = some (x1, A1)) (hA : A1 (p / 64) = .tab t pg) :
    Calls Tryz.prog 63 #[.pointer (some ⟨L.s, 0, none⟩), .int .i64 p] w (Fin L v w (.tuple #[.int .i64 ((p / 64 : Nat) : Int), .int .u32 ((256 * t + 4 * (p % 64) : Nat) : Int), .int .i64 (q.F : Int)]) x1) := by
  unfold ready at hr
  unfold told Fst.told at hT
  cases e : A (p / 64) with
  | no => rw [e] at hT; cases hT
  | tab s g =>
    rw [e] at hr hT
    simp only [Option.some.injEq, Prod.mk.injEq] at hr
    obtain ⟨rfl, rfl⟩ := hr
    rw [e] at hA
    injection hA with h1 h2
    subst h1 h2
    cases hg : g (p % 64) with
    | none => simp only [hg] at hT; cases hT
    | some y =>
      obtain ⟨a, b, F⟩ := y
      simp only [hg, Option.some.injEq] at hT
      subst hT
      exact (single_tab p s g a b F w hS hR hp e hg).mono fun _ _ h => ⟨h.1, v, hS.below h.2, hop_below h.2 v⟩
  | blk a b F =>
    rw [e] at hr hT
    simp only at hr
    cases hs : Fr.spot 1 x.os with
    | none => rw [hs] at hr; cases hr
    | some s =>
      rw [hs] at hr
      simp only [Option.some.injEq, Prod.mk.injEq] at hr
      obtain ⟨rfl, rfl⟩ := hr
      rw [setA_at] at hA
      injection hA with h1 h2
      subst h1
      simp only [Option.some.injEq] at hT
      subst hT
      exact single_blk p s a b F w hS hR hl hp e hs
theorem single_no (p : Nat) (w : World) (hS : St L w v x) (hR : Rep L.n x A) (hp : p < 4096) (hr : ready L.n L.vm x A (p / 64) = none) :
    Calls Tryz.prog 63 #[.pointer (some ⟨L.s, 0, none⟩), .int .i64 p] w fun e w' => e = panE 15 ∧ St L w' v x ∧ Only L.S w w' := by
  obtain ⟨a, b, F, h1, h2⟩ := ready_none hr
  exact single_full p a b F w hS hR hp h1 h2
theorem clearUp_any (i t : Nat) (pg : Pgs) (w : World) (hS : St L w v x) (hR : Rep L.n x A) (hi : i < 64) (hA : A i = .tab t pg) (hl : x.log.length ≤ 900) :
    Calls Tryz.prog 64 #[.pointer (some ⟨L.s, 0, none⟩), .int .i64 i] w (Fin L v w (.tuple #[]) (tidy L.n L.vm x A i).1) := by
  unfold tidy
  rw [hA]
  by_cases hb : bare (.tab t pg) = true
  · rw [if_pos hb, repP_at hA]
    exact clearUp_yes i t pg w hS hR hi hA hl (bare_iff.1 hb)
  · rw [if_neg hb]
    have hn : ∃ j, j < 64 ∧ pg j ≠ none := Classical.byContradiction fun hc => hb (bare_iff.2 fun j hj => Classical.byContradiction fun h => hc ⟨j, hj, h⟩)
    obtain ⟨j, hj, hn⟩ := hn
    exact (clearUp_no i t j pg w hS hR hi hA hj hn).mono fun _ _ h => ⟨h.1, v, h.2.1, Hop.of h.2.2 v⟩
theorem cend_pan {k : Int} (hk : k ≠ 0) {w w' : World} {v' : Value} {x' : Pl} (h1 : St L w' v' x') (h2 : Hop L.S v v' w w') : CEnd L v k x' w (panE k) w' := ⟨by rw [if_neg hk], v', h1, h2⟩
theorem cend_ok {w w' : World} {v' : Value} {x' : Pl} (h1 : St L w' v' x') (h2 : Hop L.S v v' w w') : CEnd L v 0 x' w (.returned (.tuple #[])) w' := ⟨by rw [if_pos rfl], v', h1, h2⟩
section
variable (p : Int) (bs bp : Nat) (w : World) (hS : St L w v x) (hR : Rep L.n x A) (hl : x.log = []) (Bs : Bx L w v bs (.pointer (some ⟨L.s, 0, none⟩))) (Bp : Bx L w v bp (.int .i64 p))
include hS hR hl Bs Bp
theorem unm1_any : Calls Tryz.prog 62 #[.pointer (some ⟨bs, 0, none⟩), .pointer (some ⟨bp, 0, none⟩)] w (CEnd L v (unmP L.n L.vm x A p).k (unmP L.n L.vm x A p).x w) := by
  have cs := Bs.c
  have cp := Bp.c
  cases hr : inR 4096 p with
  | false =>
    have e1 : unmP L.n L.vm x A p = ⟨11, x, A⟩ := by unfold unmP; rw [if_pos hr]
    rw [e1]
    have HN := Lib.hid (show ¬ (0 ≤ p ∧ p < 4096) from fun h => by have := inR_iff.2 h; rw [hr] at this; cases this)
    have HS := Lib.hid hS
    clear hr e1 hS hR hl Bs Bp
    go_enter Tryz.func62, Tryz.ntmps62
    go_wp2_with fail
    refine (single_range p w HN.out).mono ?_
    rintro e w1 ⟨rfl, rfl⟩
    unfold panE
    exact ⟨rfl, cend_pan (k := 11) (by decide) HS.out (Hop.refl _ _ _)⟩
  | true =>
    obtain ⟨k, rfl, hk⟩ := inR_nat hr
    cases hT : told A k with
    | none =>
      have e1 : unmP L.n L.vm x A k = ⟨12, x, A⟩ := by unfold unmP; rw [if_neg (by rw [hr]; simp), Int.toNat_natCast, hT]; rfl
      rw [e1]
      have HS := Lib.hid hS
      have HR := Lib.hid hR
      have HT := Lib.hid hT
      clear hr e1 hS hR hl Bs Bp hT
      go_enter Tryz.func62, Tryz.ntmps62
      go_wp2_with fail
      refine (single_none k w HS.out HR.out hk HT.out).mono ?_
      rintro e w1 ⟨rfl, b1⟩
      unfold panE
      exact ⟨rfl, cend_pan (k := 12) (by decide) (HS.out.below b1) (hop_below b1 v)⟩
    | some q =>
      cases hL : ready L.n L.vm x A (k / 64) with
      | none =>
        have e1 : unmP L.n L.vm x A k = ⟨15, x, A⟩ := by unfold unmP; rw [if_neg (by rw [hr]; simp), Int.toNat_natCast, hT, hL]; rfl
        rw [e1]
        have HS := Lib.hid hS
        have HR := Lib.hid hR
        have HL := Lib.hid hL
        clear hr e1 hS hR hl Bs Bp hT hL
        go_enter Tryz.func62, Tryz.ntmps62
        go_wp2_with fail
        refine (single_no k w HS.out HR.out hk HL.out).mono ?_
        rintro e w1 ⟨rfl, hS, hO⟩
        unfold panE
        exact ⟨rfl, cend_pan (k := 15) (by decide) hS (Hop.of hO v)⟩
      | some y =>
        obtain ⟨x1, A1⟩ := y
        obtain ⟨r1, ⟨t, pg, e1, e2⟩, l1, tk, d1⟩ := ready_some hR hl hk hT hL
        have hi : k / 64 < 64 := by omega
        have hj : k % 64 < 64 := by omega
        obtain ⟨r2, _⟩ := pg_did (vm := L.vm) d1 r1 hi hj e1 (o := none) (pgOK_none L.n)
        have EX := Lib.hid (show unmP L.n L.vm x A k = ⟨0, (tidy L.n L.vm (x1.chg L.n L.vm (256 * t + 4 * (k % 64)) (pgW none)) (setA A1 (k / 64) (.tab t (setP pg (k % 64) none))) (k / 64)).1, (tidy L.n L.vm (x1.chg L.n L.vm (256 * t + 4 * (k % 64)) (pgW none)) (setA A1 (k / 64) (.tab t (setP pg (k % 64) none))) (k / 64)).2⟩ by
          unfold unmP; rw [if_neg (by rw [hr]; simp), Int.toNat_natCast, hT, hL]; simp only [pgP_at e1]; rfl)
        have htn := (r1.tabAt hi e1).1
        have hf := hR.few
        have HS := Lib.hid hS
        have HR := Lib.hid hR
        have HR2 := Lib.hid r2
        have HT := Lib.hid hT
        have HL := Lib.hid hL
        have H0 := Lib.hid hl
        have HA := Lib.hid e1
        have X0 := Lib.hid Bs
        clear hr hS hR hl Bs Bp hT hL e1 e2 r1 r2 d1
        go_enter Tryz.func62, Tryz.ntmps62
        go_wp2_with fail
        refine (single_any k t pg q w HS.out HR.out H0.out hk HT.out HL.out HA.out).mono ?_
        rintro e w1 ⟨rfl, v1, hS, hP⟩
        have S1 := Lib.hid hS
        have P1 := Lib.hid hP
        have X1 := Lib.hid (X0.out.hop hP)
        have cs := X1.out.c
        clear hS hP HS X0 HR HT HL H0 cp
        go_wp2_with fail
        refine (change_at t (k % 64) _ false false false false 0 (pgW none) w1 (by push_cast; rfl) S1.out htn hj (by omega) encN_0).mono ?_
        rintro e w2 ⟨rfl, v2, hS, hP⟩
        have S2 := Lib.hid hS
        have P2 := Lib.hid (P1.out.trans hP)
        have X2 := Lib.hid (X1.out.hop hP)
        have cs := X2.out.c
        have l2 := Pl.chg_len L.n L.vm x1 (256 * t + 4 * (k % 64)) (pgW none)
        clear hS hP S1 P1 X1
        go_wp2_with fail
        refine (clearUp_any (k / 64) t _ w2 S2.out HR2.out hi (setA_at _ _ _) (by omega)).mono ?_
        rintro e w3 ⟨rfl, v3, hS, hP⟩
        have F3 := Lib.hid (And.intro hS (P2.out.trans hP))
        clear hS hP S2 P2 X2 cs
        go_wp2
        go_end0
        rw [EX.out]
        exact cend_ok F3.out.1 F3.out.2
theorem pro1_any (we ex : Bool) (bw be : Nat) (Bw : Bx L w v bw (.bool we)) (Be : Bx L w v be (.bool ex)) : Calls Tryz.prog 67 #[.pointer (some ⟨bs, 0, none⟩), .pointer (some ⟨bp, 0, none⟩), .pointer (some ⟨bw, 0, none⟩), .pointer (some ⟨be, 0, none⟩)] w (CEnd L v (proP L.n L.vm x A p we ex).k (proP L.n L.vm x A p we ex).x w) := by
  have cs := Bs.c
  have cp := Bp.c
  cases hr : inR 4096 p with
  | false =>
    have e1 : proP L.n L.vm x A p we ex = ⟨11, x, A⟩ := by unfold proP; rw [if_pos hr]
    rw [e1]
    have HN := Lib.hid (show ¬ (0 ≤ p ∧ p < 4096) from fun h => by have := inR_iff.2 h; rw [hr] at this; cases this)
    have HS := Lib.hid hS
    clear hr e1 hS hR hl Bs Bp Bw Be
    go_enter Tryz.func67, Tryz.ntmps67
    go_wp2_with fail
    refine (single_range p w HN.out).mono ?_
    rintro e w1 ⟨rfl, rfl⟩
    unfold panE
    exact ⟨rfl, cend_pan (k := 11) (by decide) HS.out (Hop.refl _ _ _)⟩
  | true =>
    obtain ⟨k, rfl, hk⟩ := inR_nat hr
    cases hT : told A k with
    | none =>
      have e1 : proP L.n L.vm x A k we ex = ⟨12, x, A⟩ := by unfold proP; rw [if_neg (by rw [hr]; simp), Int.toNat_natCast, hT]
      rw [e1]
      have HS := Lib.hid hS
      have HR := Lib.hid hR
      have HT := Lib.hid hT
      clear hr e1 hS hR hl Bs Bp hT Bw Be
      go_enter Tryz.func67, Tryz.ntmps67
      go_wp2_with fail
      refine (single_none k w HS.out HR.out hk HT.out).mono ?_
      rintro e w1 ⟨rfl, b1⟩
      unfold panE
      exact ⟨rfl, cend_pan (k := 12) (by decide) (HS.out.below b1) (hop_below b1 v)⟩
    | some q =>
      cases hL : ready L.n L.vm x A (k / 64) with
      | none =>
        have e1 : proP L.n L.vm x A k we ex = ⟨15, x, A⟩ := by unfold proP; rw [if_neg (by rw [hr]; simp), Int.toNat_natCast, hT, hL]
        rw [e1]
        have HS := Lib.hid hS
        have HR := Lib.hid hR
        have HL := Lib.hid hL
        clear hr e1 hS hR hl Bs Bp hT hL Bw Be
        go_enter Tryz.func67, Tryz.ntmps67
        go_wp2_with fail
        refine (single_no k w HS.out HR.out hk HL.out).mono ?_
        rintro e w1 ⟨rfl, hS, hO⟩
        unfold panE
        exact ⟨rfl, cend_pan (k := 15) (by decide) hS (Hop.of hO v)⟩
      | some y =>
        obtain ⟨x1, A1⟩ := y
        obtain ⟨r1, ⟨t, pg, e1, e2⟩, l1, tk, d1⟩ := ready_some hR hl hk hT hL
        have hi : k / 64 < 64 := by omega
        have hj : k % 64 < 64 := by omega
        have hF := told_F hR hk hT
        have EX := Lib.hid (show proP L.n L.vm x A k we ex = ⟨0, x1.chg L.n L.vm (256 * t + 4 * (k % 64)) (pgW (some (we, ex, q.F))), setA A1 (k / 64) (.tab t (setP pg (k % 64) (some (we, ex, q.F))))⟩ by
          unfold proP; rw [if_neg (by rw [hr]; simp), Int.toNat_natCast, hT, hL]; simp only [pgP_at e1])
        have htn := (r1.tabAt hi e1).1
        have hf := hR.few
        have HS := Lib.hid hS
        have HR := Lib.hid hR
        have HT := Lib.hid hT
        have HL := Lib.hid hL
        have H0 := Lib.hid hl
        have HA := Lib.hid e1
        have X0 := Lib.hid Bs
        have W0 := Lib.hid Bw
        have E0 := Lib.hid Be
        clear hr hS hR hl Bs Bp hT hL e1 e2 r1 d1 Bw Be
        go_enter Tryz.func67, Tryz.ntmps67
        go_wp2_with fail
        refine (single_any k t pg q w HS.out HR.out H0.out hk HT.out HL.out HA.out).mono ?_
        rintro e w1 ⟨rfl, v1, hS, hP⟩
        have S1 := Lib.hid hS
        have P1 := Lib.hid hP
        have cs := (X0.out.hop hP).c
        have cw := (W0.out.hop hP).c
        have ce := (E0.out.hop hP).c
        clear hS hP HS X0 HR HT HL H0 cp W0 E0
        go_wp2_with fail
        refine (change_at t (k % 64) _ true we ex false q.F (pgW (some (we, ex, q.F))) w1 (by push_cast; rfl) S1.out htn hj (by omega) (encN_lw _ _ _ (by omega) (by omega))).mono ?_
        rintro e w2 ⟨rfl, v2, hS, hP⟩
        have F2 := Lib.hid (And.intro hS (P1.out.trans hP))
        clear hS hP S1 P1 cs cw ce
        go_wp2
        go_end0
        rw [EX.out]
        exact cend_ok F2.out.1 F2.out.2
end
section
variable (i : Int) (bs bp : Nat) (w : World) (hS : St L w v x) (hR : Rep L.n x A) (hl : x.log = []) (Bs : Bx L w v bs (.pointer (some ⟨L.s, 0, none⟩))) (Bp : Bx L w v bp (.int .i64 i))
include hS hR hl Bs Bp
theorem spl1_any : Calls Tryz.prog 78 #[.pointer (some ⟨bp, 0, none⟩), .pointer (some ⟨bs, 0, none⟩)] w (CEnd L v (splP L.n L.vm x A i).k (splP L.n L.vm x A i).x w) := by
  have cs := Bs.c
  have cp := Bp.c
  have fb := fieldB
  cases hr : inR 64 i with
  | false =>
    have e1 : splP L.n L.vm x A i = ⟨11, x, A⟩ := by unfold splP; rw [if_pos hr]
    rw [e1]
    have HN := Lib.hid (show ¬ (0 ≤ i ∧ i < 64) from fun h => by have := inR_iff.2 h; rw [hr] at this; cases this)
    have HS := Lib.hid hS
    clear hr e1 hS hR hl Bs Bp
    go_enter Tryz.func78, Tryz.ntmps78
    go_wp2_with fail
    refine (needFirst_no i w HN.out).mono ?_
    rintro e w1 ⟨rfl, rfl⟩
    unfold panE
    exact ⟨rfl, cend_pan (k := 11) (by decide) HS.out (Hop.refl _ _ _)⟩
  | true =>
    obtain ⟨k, rfl, hk⟩ := inR_nat hr
    have hf := hR.few
    have HS := Lib.hid hS
    have HR := Lib.hid hR
    have H0 := Lib.hid hl
    have NO : ∀ (V W X : Bool) (f : Int), isB (A k) = false → entOf (A k).W = ⟨V, W, X, false, f⟩ → Calls Tryz.prog 78 #[.pointer (some ⟨bp, 0, none⟩), .pointer (some ⟨bs, 0, none⟩)] w (CEnd L v (splP L.n L.vm x A k).k (splP L.n L.vm x A k).x w) := by
      intro V W X f hB hE
      have e1 : splP L.n L.vm x A k = ⟨12, x, A⟩ := by unfold splP; rw [if_neg (by rw [hr]; simp), Int.toNat_natCast, if_pos hB]
      rw [e1]
      have HE := Lib.hid hE
      clear hr e1 hS hR hl Bs Bp hB hE
      go_enter Tryz.func78, Tryz.ntmps78
      go_wp2_with (go_at_call 66; refine (needFirst_yes _ _ (by omega)).mono ?_; rintro e w' ⟨rfl, rfl⟩)
      refine (first_rep k w HS.out HR.out hk _ _ _ _ _ HE.out).mono ?_
      rintro e w1 ⟨rfl, b1⟩
      have F1 := Lib.hid (And.intro (HS.out.below b1) (hop_below (S := L.S) b1 v))
      clear b1 HS HR HE
      go_wp2_with fail
      refine (need_no _ _).mono ?_
      rintro e w' ⟨rfl, rfl⟩
      unfold panE
      exact ⟨rfl, cend_pan (k := 12) (by decide) F1.out.1 F1.out.2⟩
    cases hA : A k with
    | no => exact NO _ _ _ _ (by rw [hA]; rfl) (by rw [hA]; exact entOf_0)
    | tab t pg => exact NO _ _ _ _ (by rw [hA]; rfl) (by rw [hA]; exact entOf_lw _ _ _ (by omega) (by have := (hR.tabAt hk hA).1; omega))
    | blk bw be F =>
      have hF : F + 64 ≤ L.n := by have := hR.ok k hk; rw [hA] at this; exact this.2
      have HE := Lib.hid (show entOf (A k).W = ⟨true, bw, be, true, F⟩ by rw [hA]; exact entOf_lw _ _ _ (by omega) (by omega))
      clear NO
      have HA := Lib.hid hA
      have X0 := Lib.hid Bs
      have X1 := Lib.hid Bp
      cases hs : Fr.spot 1 x.os with
      | none =>
        have e0 : splP L.n L.vm x A k = ⟨15, x, A⟩ := by unfold splP; rw [if_neg (by rw [hr]; simp), Int.toNat_natCast, if_neg (by rw [hA]; simp [isB])]; unfold ready; rw [hA]; simp only [hs]
        rw [e0]
        clear e0
        have HP := Lib.hid hs
        clear hr hS hR hl Bs Bp hA hs
        go_enter Tryz.func78, Tryz.ntmps78
        go_wp2_with (go_at_call 66; refine (needFirst_yes _ _ (by omega)).mono ?_; rintro e w' ⟨rfl, rfl⟩)
        refine (first_rep k w HS.out HR.out hk _ _ _ _ _ HE.out).mono ?_
        rintro e w1 ⟨rfl, b1⟩
        have F1 := Lib.hid (And.intro (HS.out.below b1) (hop_below (S := L.S) b1 v))
        have cp := (X1.out.below b1).c
        have cs := (X0.out.below b1).c
        clear b1 HS
        go_wp2_with (go_at_call 56; refine (need_yes _ _).mono ?_; rintro e w' ⟨rfl, rfl⟩)
        refine (breakUp_no k bw be F w1 F1.out.1 HR.out hk HA.out HP.out).mono ?_
        rintro e w2 ⟨rfl, hS, hO⟩
        unfold panE
        exact ⟨rfl, cend_pan (k := 15) (by decide) hS (F1.out.2.trans (Hop.of hO v))⟩
      | some t =>
        have e0 : splP L.n L.vm x A k = ⟨0, bup L.n L.vm x k t bw be F, setA A k (.tab t (blkPg bw be F))⟩ := by unfold splP; rw [if_neg (by rw [hr]; simp), Int.toNat_natCast, if_neg (by rw [hA]; simp [isB])]; unfold ready; rw [hA]; simp only [hs]
        rw [e0]
        clear e0
        have HP := Lib.hid hs
        have hx := spot1 hs
        have hl0 : x.log.length ≤ 100 := by rw [hl]; simp
        clear hr hS hR hl Bs Bp hA hs
        go_enter Tryz.func78, Tryz.ntmps78
        go_wp2_with (go_at_call 66; refine (needFirst_yes _ _ (by omega)).mono ?_; rintro e w' ⟨rfl, rfl⟩)
        refine (first_rep k w HS.out HR.out hk _ _ _ _ _ HE.out).mono ?_
        rintro e w1 ⟨rfl, b1⟩
        have F1 := Lib.hid (And.intro (HS.out.below b1) (hop_below (S := L.S) b1 v))
        have cp := (X1.out.below b1).c
        have cs := (X0.out.below b1).c
        clear b1 HS
        go_wp2_with (go_at_call 56; refine (need_yes _ _).mono ?_; rintro e w' ⟨rfl, rfl⟩)
        refine (breakUp_yes k t bw be F w1 F1.out.1 HR.out hk HA.out HP.out hx hl0).mono ?_
        rintro e w2 ⟨rfl, v2, hS, hP⟩
        have F2 := Lib.hid (And.intro hS (F1.out.2.trans hP))
        clear F1 hS hP cp cs X0 X1
        go_wp2
        go_end0
        exact cend_ok F2.out.1 F2.out.2
end
end St
end Go.Proofs.YtiiggmfindfkfaaGreat
