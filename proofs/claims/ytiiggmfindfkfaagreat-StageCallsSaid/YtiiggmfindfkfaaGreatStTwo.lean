/-
  A space's pages as a new row; two spaces over one memory. Conditions: none.
-/
import Derived.Test.YtiiggmfindfkfaaGreatStBack
namespace Go.Proofs.YtiiggmfindfkfaaGreat
open Go.RowKit Nt
namespace St
open Ph En Wk
/-- How a call that answers a new row of numbers ends. -/
def PgEnd (l : List Nat) (w : World) (e : Ending) (w' : World) : Prop := ∃ v, e = .returned v ∧ Fr.Seen w.heap.size w' v l ∧ Only [] w w'
set_option maxRecDepth 100000 in
set_option maxHeartbeats 2000000 in
theorem pagesW_seen (m F n c : Nat) (z : Nat → Int) (root : Int) (w : World) (hM : Mem w m F n c z) :
    Calls Tryz.prog 83 #[.pointer (some ⟨m, 0, none⟩), .int .i64 root] w (PgEnd (pagesL n z root 4096) w) := by
  obtain ⟨i0, hi, hz0, hz1, hz2⟩ := info_parts Ph.infoI
  have HM := Lib.hid hM
  clear hM
  go_enter Tryz.func83, Tryz.ntmps83
  go_wp2_with fail
  go_loopw [5, 9] (fun v i wr => ∃ k : Nat, k ≤ 4096 ∧ i = .int .i64 k ∧ Ints wr w.heap.size v (pagesL n z root k) ∧ Only [] w wr) (fun _ i _ => 4096 - (intOf i).toNat)
  case atStart => exact ⟨0, Nat.zero_le _, rfl, ⟨World.ownsRow_nil _ _ _ _⟩, Only.refl _ _⟩
  case round =>
    obtain ⟨k, hk, rfl, hI, hO⟩ := hrel
    have IH := Lib.hid hI
    have WO := Lib.hid hO
    clear hI hO
    by_cases hlt : k < 4096
    · have hds := pagesL_succ n z root k
      have hdn := pagesL_len n z root k
      obtain ⟨⟨⟨V, W, X, B, f⟩, ok⟩, hS⟩ : ∃ s, lookS n z root (k : Int) = s := ⟨_, rfl⟩
      have HS := Lib.hid hS
      rw [hS] at hds
      clear hS
      go_wp2_with fail
      refine (Wk.look_any m F n c z root k wr (HM.out.kept WO.out (by simp) (by simp))).mono ?_
      rintro e w2 ⟨rfl, b2⟩
      rw [HS.out]
      simp only [Ent.val]
      have bx : Only [] w2 (w2.alloc (.cells #[.bool V, .bool W, .bool X, .bool B, .int .i64 f] 62)) := Only.alloc _ _ _
      have I2 := Lib.hid ((ints_kept IH.out (Only.of b2 []) (by simp)))
      have O2 := Lib.hid (WO.out.trans (Only.of b2 []))
      have I3 := Lib.hid (ints_kept I2.out bx (by simp))
      have O3 := Lib.hid (O2.out.trans bx)
      clear IH WO b2 bx HS
      cases ok
      · rw [if_neg (by decide), List.append_nil] at hds
        have DS := Lib.hid hds
        clear hds
        go_wp2
        go_roundw
        case rel => exact ⟨k + 1, by omega, by go_num, by rw [DS.out]; exact I3.out, O3.out⟩
        case measure => simp [intOf]; omega
      · rw [if_pos rfl] at hds
        have DS := Lib.hid hds
        have cell1 := cells1 (w2.alloc (.cells #[.bool V, .bool W, .bool X, .bool B, .int .i64 f] 62)) (.int .i64 k) 3
        rw [World.size_alloc] at cell1
        have C1 := Lib.hid cell1
        have hz2' := O2.out.size
        clear hds cell1
        go_wp2_with (at_builtin; refine wpList_append_own _ rfl (.tmp 20) (.tmp 22) 42 rfl w.heap.size 3 i0 (.int .i64 0) 1 8 Tryz.underlying42 hi hz0 hz1 hz2 rfl (by decide) u5 (pagesL n z root k).length (Ph.ints (pagesL n z root k)) rfl (I3.out.own.alloc _) ⟨w2.heap.size + 1, 0, none⟩ 1 1 [.int .i64 k] rfl rfl C1.out (by simp [Value.oneCell']) (by unfold maxLen; omega) (by omega) (by simp; omega) ?_; intro v' w3 hown hgrow hnil; have OW := Lib.hid hown; have GR := Lib.hid hgrow; clear hown hgrow hnil)
        go_roundw
        case rel =>
          refine ⟨k + 1, by omega, by go_num, ⟨?_⟩, Only.of ?_ _⟩
          · rw [DS.out, List.length_append, ints_append]
            exact OW.out
          · exact (((O3.out.below (Nat.le_refl _) (by simp)).alloc O3.out.size _).grown GR.out (by simp; omega) (fun j hj => (I2.out.own.lt j hj).1))
        case measure => simp [intOf]; omega
    · have e : k = 4096 := by omega
      subst e
      go_wp2
      go_ret
      exact ⟨_, rfl, Fr.row_seen IH.out.own, WO.out⟩
variable {L : Loc} {v : Value} {x : Pl} {A : Nat → Fst}
set_option maxRecDepth 100000 in
theorem pages_seen (w : World) (hS : St L w v x) (hg : x.gone = false) :
    Calls Tryz.prog 42 #[.pointer (some ⟨L.s, 0, none⟩)] w (PgEnd (pagesL L.n x.z x.root 4096) w) := by
  have c5 := hS.c5
  rw [hg] at c5
  have c0 := hS.c0
  have c4 := hS.c4
  have S1 := Lib.hid (hS.drewN 1)
  have O1 := Lib.hid (Only.drewN [] w 1)
  change Hid (St L w.drew v x) at S1
  change Hid (Only [] w w.drew) at O1
  clear hS
  go_enter Tryz.func42, Tryz.ntmps42
  go_wp2_with fail
  refine wp_region_still_tail 8 (by kernel_rfl) (by kernel_rfl) ?_
  simp only [List.take_succ_cons, List.take_zero, List.drop_succ_cons, List.drop_zero]
  change wpStill _ _ w.drew (fun a' => wpList _ _ _ _ a' w.drew) _ _
  repeat still_step
  refine wpStill_nil ?_
  clear c0 c4 c5
  generalize w.drew = u1 at *
  go_wp2_with fail
  refine (pagesW_seen L.m L.F L.n L.c x.z x.root u1 S1.out.mem).mono ?_
  rintro e w1 ⟨va, rfl, hR, hO⟩
  go_wp2
  go_ret
  exact ⟨va, rfl, hR.mono O1.out.size, O1.out.trans hO⟩
/-- The pages hang on what the first indexes are, alone. -/
theorem pages_told {n : Nat} (hR : Rep n x A) : pagesL n x.z x.root 4096 = (List.range 4096).filter (fun p => (told A p).isSome) := by
  unfold pagesL
  refine List.filter_congr fun p hp => ?_
  rw [look_rep hR p (List.mem_range.1 hp)]
  cases told A p <;> rfl
/-! ### Two spaces -/
structure Shr (L L' : Loc) : Prop where
  m : L'.m = L.m
  F : L'.F = L.F
  c : L'.c = L.c
  t : L'.t = L.t
  tF : L'.tF = L.tF
  p : L'.p = L.p
  pm : L'.pm = L.pm
  room : L'.room = L.room
  n : L'.n = L.n
theorem Shr.symm {L L' : Loc} (h : Shr L L') : Shr L' L := ⟨h.m.symm, h.F.symm, h.c.symm, h.t.symm, h.tF.symm, h.p.symm, h.pm.symm, h.room.symm, h.n.symm⟩
/-- What is shared is as another one's. -/
def Pl.as (y x : Pl) : Pl := { y with z := x.z, os := x.os, next := x.next, ps := x.ps }
structure Duo (L L' : Loc) (w : World) (v v' : Value) (x y : Pl) : Prop where
  a : St L w v x
  b : St L' w v' (y.as x)
  sh : Shr L L'
  ne : L.s ≠ L'.s
  r1 : v.ownBlock ≠ some L'.s
  r2 : v'.ownBlock ≠ some L.s
  ap : ∀ k, v.ownBlock = some k → v'.ownBlock ≠ some k
theorem as_as (y x z : Pl) : (y.as x).as z = y.as z := rfl
theorem as_self (x : Pl) : x.as x = x := rfl
theorem Duo.swap {L L' : Loc} {w : World} {v v' : Value} {x y : Pl} (h : Duo L L' w v v' x y) : Duo L' L w v' v (y.as x) x :=
  ⟨h.b, h.a, h.sh.symm, h.ne.symm, h.r2, h.r1, fun k e e' => h.ap k e' e⟩
/-- A call on the one. -/
theorem Duo.step {L L' : Loc} {w w' : World} {v v' v1 : Value} {x y x1 : Pl} (h : Duo L L' w v v' x y) (h1 : St L w' v1 x1) (hp : Hop L.S v v1 w w') : Duo L L' w' v1 v' x1 y := by
  have b := h.b
  have hs := h.sh
  have hlt := b.lt
  have ns : L'.s ∉ L.S := by
    have ap := b.ap
    simp only [Loc.S, List.mem_cons, List.not_mem_nil, or_false, not_or]
    exact ⟨h.ne.symm, by rw [← hs.F]; exact ap.sF, by rw [← hs.t]; exact ap.st, by rw [← hs.tF]; exact ap.stF, by rw [← hs.pm]; exact ap.spm⟩
  have cc := fun j => hp.cell hlt ns h.r1 j
  have own' : w'.ownsRow 0 54 3 v' (y.as x).log.length (flatD (y.as x).log) := by
    have ho := b.own
    have hl := ho.lt
    rcases ho with ⟨e1, e2⟩
    refine ⟨e1, ?_⟩
    rcases e2 with e2 | ⟨g, cap, cur, rfl, h1', h2', h3', h4', h5', h6'⟩
    · exact Or.inl e2
    · refine Or.inr ⟨g, cap, cur, rfl, h1', ?_, h3', h4', h5', h6'⟩
      rw [hp.block g (hl g rfl).2 (fun hm => ?_) (fun e => h.ap g e rfl)]
      · exact h2'
      · simp only [Loc.S, List.mem_cons, List.not_mem_nil, or_false] at hm
        have hf := b.far g rfl
        simp only [Loc.all, List.mem_cons, List.not_mem_nil, or_false, not_or] at hf
        rw [hs.F, hs.t, hs.tF, hs.pm] at hf
        rcases hm with e | e | e | e | e
        · exact h.r2 (by rw [← e]; rfl)
        · exact hf.2.2.1 e
        · exact hf.2.2.2.1 e
        · exact hf.2.2.2.2.1 e
        · exact hf.2.2.2.2.2.2 e
  have b' : St L' w' v' (y.as x1) := by
    refine ⟨Nat.lt_of_lt_of_le hlt hp.size, (cc 0).trans b.c0, (cc 1).trans b.c1, (cc 2).trans b.c2, (cc 3).trans b.c3, (cc 4).trans b.c4, (cc 5).trans b.c5, (cc 6).trans b.c6, fun j => (hp.frozen hlt ns h.r1 j).trans (b.fr j), ?_, ?_, ?_, own', b.far, b.ap⟩
    · rw [hs.m, hs.F, hs.n, hs.c]; exact h1.mem
    · rw [hs.t, hs.tF]; exact h1.tab
    · rw [hs.p, hs.pm, hs.room]; exact h1.tlb
  exact ⟨h1, b', hs, h.ne, hp.off hlt h.r1 |> fun e => e, h.r2, fun k e e' => by
    have hk : k < w.heap.size := (b.own.lt k e').2
    exact h.ap k (hp.far k hk e) e'⟩
/-- Worlds that go on otherwise. -/
theorem Duo.quiet {L L' : Loc} {w w' : World} {v v' : Value} {x y : Pl} (h : Duo L L' w v v' x y) (ho : Only [] w w') : Duo L L' w' v v' x y := ⟨h.a.quiet ho, h.b.quiet ho, h.sh, h.ne, h.r1, h.r2, h.ap⟩
/-- No table is both's. -/
def Dis (x y : Pl) (A A' : Nat → Fst) : Prop := ∀ t, (t = x.root ∨ IsTab A t) → ¬ (t = y.root ∨ IsTab A' t)
theorem Dis.swap {x y : Pl} {A A' : Nat → Fst} (h : Dis x y A A') : Dis y x A' A := fun t h1 h2 => h t h2 h1
/-- What a call on the one does to the other. -/
theorem other_rep {n vm : Nat} {x x1 y : Pl} {A A1 A' : Nat → Fst} {tk gv : Option Nat} (hR : Rep n (y.as x) A') (h1 : Rep n x1 A1) (hd : Did n vm x x1 A A1 tk gv) (dj : Dis x y A A') : Rep n (y.as x1) A' ∧ Dis x1 y A1 A' := by
  have tn : ∀ t, (t = y.root ∨ IsTab A' t) → tk ≠ some t ∧ gv ≠ some t ∧ t ≠ x.root ∧ ∀ i s pg, i < 64 → A i = .tab s pg → t ≠ s := by
    intro t ht
    have own : x.os[t]? = some 1 := by
      rcases ht with rfl | ⟨i, pg, hi, e⟩
      · exact hR.own
      · exact (hR.tabAt hi e).2.1
    refine ⟨fun e => ?_, fun e => ?_, fun e => dj t (Or.inl e) ht, fun i s pg hi e hts => dj t (Or.inr ⟨i, pg, hi, hts ▸ e⟩) ht⟩
    · have := hd.free t e
      rw [own] at this
      cases this
    · obtain ⟨i, pg, hi, e'⟩ := hd.mine t e
      exact dj t (Or.inr ⟨i, pg, hi, e'⟩) ht
  refine ⟨hR.same (x' := y.as x1) h1.by8 h1.len rfl rfl fun t ht => ?_, fun t ht => ?_⟩
  · have ht' : t = y.root ∨ IsTab A' t := ht
    obtain ⟨e1, e2, e3, e4⟩ := tn t ht'
    refine ⟨?_, fun j hj => wd_congr hj fun k hk => hd.far k (by rw [hk]; exact e3) (fun i s pg hi e => by rw [hk]; exact e4 i s pg hi e) (by rw [hk]; exact e1)⟩
    show x1.os[t]? = some 1
    rw [hd.os]
    have own : x.os[t]? = some 1 := by
      rcases ht' with rfl | ⟨i, pg, hi, e⟩
      · exact hR.own
      · exact (hR.tabAt hi e).2.1
    have s1 : (setO x.os tk 1)[t]? = some 1 := by
      cases tk with
      | none => exact own
      | some s => show (x.os.set s 1)[t]? = _; rw [List.getElem?_set_ne (fun e => e1 (by rw [e]))]; exact own
    cases gv with
    | none => exact s1
    | some s => show ((setO x.os tk 1).set s 0)[t]? = _; rw [List.getElem?_set_ne (fun e => e2 (by rw [e]))]; exact s1
  · intro ht2
    obtain ⟨e1, e2, e3, e4⟩ := tn t ht2
    rcases ht with rfl | ⟨i, pg, hi, e⟩
    · exact e3 hd.root
    · rcases (hd.tabs i t pg hi e).1 with e' | ⟨i', pg', hi', e'⟩
      · exact e1 e'
      · exact e4 i' t pg' hi' e' rfl
/-- Another one's frames stay another one's. -/
theorem did_two {n vm : Nat} {x x1 : Pl} {A A1 : Nat → Fst} {tk gv : Option Nat} (hx : Rep n x A) (hd : Did n vm x x1 A A1 tk gv) : Fr.which 2 x1.os = Fr.which 2 x.os := by
  have key : ∀ j : Nat, x1.os[j]? = some 2 ↔ x.os[j]? = some 2 := by
    intro j
    rw [hd.os]
    have s1 : (setO x.os tk 1)[j]? = some 2 ↔ x.os[j]? = some 2 := by
      cases tk with
      | none => exact Iff.rfl
      | some s =>
        show (x.os.set s 1)[j]? = _ ↔ _
        by_cases e : s = j
        · subst e
          have h0 := hd.free s rfl
          rw [List.getElem?_set_self (List.getElem?_eq_some_iff.1 h0).1, h0]
          simp
        · rw [List.getElem?_set_ne e]
    rw [← s1]
    cases gv with
    | none => exact Iff.rfl
    | some g =>
      show ((setO x.os tk 1).set g 0)[j]? = _ ↔ _
      by_cases e : g = j
      · subst e
        obtain ⟨i, pg, hi, e'⟩ := hd.mine g rfl
        have h1 := (hx.tabAt hi e').2.1
        have h2 : (setO x.os tk 1)[g]? = some 1 := by
          cases tk with
          | none => exact h1
          | some s =>
            show (x.os.set s 1)[g]? = _
            by_cases es : s = g
            · subst es
              have := hd.free s rfl
              rw [h1] at this
              cases this
            · rw [List.getElem?_set_ne es]; exact h1
        rw [List.getElem?_set_self (List.getElem?_eq_some_iff.1 h2).1, h2]
        simp
      · rw [List.getElem?_set_ne e]
  have hlen : x1.os.length = x.os.length := by
    rw [hd.os]
    cases tk <;> cases gv <;> simp [setO]
  unfold Fr.which Fr.wh
  rw [hlen]
  refine List.filter_congr fun j _ => ?_
  have k2 := key j
  have io : ∀ os : List Nat, Fr.isOf 2 os j = decide (os[j]? = some 2) := fun os => by
    unfold Fr.isOf
    cases os[j]? with
    | none => rfl
    | some a => by_cases e : a = 2 <;> simp [e] <;> omega
  rw [io, io]
  exact decide_eq_decide.2 k2
/-- Only the monitor's frames are changed. -/
theorem did_own {n vm : Nat} {x x1 : Pl} {A A1 : Nat → Fst} {tk gv : Option Nat} (hx : Rep n x A) (hd : Did n vm x x1 A A1 tk gv) {q : Nat} (hq : q ∈ dl x1.z x.z n) : ∃ o, x1.os[q]? = some o ∧ (o = 1 ∨ o = 0) := by
  unfold dl at hq
  rw [List.mem_filter] at hq
  obtain ⟨_, hne⟩ := hq
  have hex : ∃ j, j < 256 ∧ x1.z (q * 256 + j) ≠ x.z (q * 256 + j) := Classical.byContradiction fun hc => by
    have : eqN 256 (fr x1.z q) (fr x.z q) = true := eqN_yes fun j hj => Classical.byContradiction fun h => hc ⟨j, hj, h⟩
    rw [this] at hne
    cases hne
  obtain ⟨j, hj, hz⟩ := hex
  have hd2 : (q * 256 + j) / 256 = q := by omega
  have hcase : q = x.root ∨ IsTab A q ∨ tk = some q := Classical.byContradiction fun hc => by
    refine hz (hd.far _ ?_ ?_ ?_)
    · rw [hd2]; exact fun e => hc (Or.inl e)
    · intro i s pg hi e es
      rw [hd2] at es
      exact hc (Or.inr (Or.inl ⟨i, pg, hi, es ▸ e⟩))
    · rw [hd2]; exact fun e => hc (Or.inr (Or.inr e))
  have s1 : (setO x.os tk 1)[q]? = some 1 := by
    by_cases ht : tk = some q
    · have h0 := hd.free q ht
      rw [ht]
      exact List.getElem?_set_self (List.getElem?_eq_some_iff.1 h0).1
    · have own : x.os[q]? = some 1 := by
        rcases hcase with rfl | ⟨i, pg, hi, e⟩ | e
        · exact hx.own
        · exact (hx.tabAt hi e).2.1
        · exact absurd e ht
      cases tk with
      | none => exact own
      | some s => show (x.os.set s 1)[q]? = _; rw [List.getElem?_set_ne (fun e => ht (by rw [e]))]; exact own
  rw [hd.os]
  by_cases hg : gv = some q
  · rw [hg]
    exact ⟨0, List.getElem?_set_self (List.getElem?_eq_some_iff.1 s1).1, Or.inr rfl⟩
  · refine ⟨1, ?_, Or.inl rfl⟩
    cases gv with
    | none => exact s1
    | some s => show ((setO x.os tk 1).set s 0)[q]? = _; rw [List.getElem?_set_ne (fun e => hg (by rw [e]))]; exact s1
end St
end Go.Proofs.YtiiggmfindfkfaaGreat
