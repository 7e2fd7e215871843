/-
  What the laws' Begin makes, and Do answers and leaves. Conditions: that each argument is of its Go type.
-/
import Derived.Test.YtiiggmfindfkfaaGreatStAbs
import Derived.Test.YtiiggmfindfkfaaGreatFrKit
namespace Go.Proofs.YtiiggmfindfkfaaGreat
open Go.RowKit Nt
namespace St
open Ph En Wk
variable {L : Loc} {v : Value} {x : Pl} {A : Nat → Fst}
/-- A world of the laws: its place, what it stands on; all is new. -/
structure Wd (B g : Nat) (L : Loc) (w : World) (v : Value) (x : Pl) : Prop where
  st : St L w v x
  lay : Tl.Lay w g 36 [.pointer (some ⟨L.m, 0, none⟩), .pointer (some ⟨L.t, 0, none⟩), .pointer (some ⟨L.p, 0, none⟩), .pointer (some ⟨L.s, 0, none⟩)]
  out : g ∉ L.all
  off : v.ownBlock ≠ some g
  new : ∀ k ∈ L.all, B ≤ k
  newg : B ≤ g
  newv : ∀ k, v.ownBlock = some k → B ≤ k
section
variable {B g : Nat} {w w' : World} {v' : Value} {x' : Pl}
theorem Wd.le (h : Wd B g L w v x) : B ≤ w.heap.size := Nat.le_of_lt (Nat.lt_of_le_of_lt h.newg h.lay.lt)
theorem Wd.hop (h : Wd B g L w v x) (hs : St L w' v' x') (hp : Hop L.S v v' w w') : Wd B g L w' v' x' := by
  refine ⟨hs, hp.lay h.lay (S_all h.out) h.off, h.out, hp.off h.lay.lt h.off, h.new, h.newg, fun k hk => ?_⟩
  by_cases hlt : k < w.heap.size
  · exact h.newv k (hp.far k hlt hk)
  · have := h.le; omega
theorem Wd.below (h : Wd B g L w v x) (hb : Below w.heap.size w w') : Wd B g L w' v x := h.hop (h.st.below hb) (hop_below hb v)
theorem Wd.drewN (h : Wd B g L w v x) (k : Nat) : Wd B g L (w.drewN k) v x := h.hop (h.st.drewN k) (Hop.of (Only.drewN L.S w k) v)
theorem Wd.alloc (h : Wd B g L w v x) (o : Obj) : Wd B g L (w.alloc o) v x := h.hop (h.st.alloc o) (Hop.of (Only.alloc L.S w o) v)
/-- What is old stays. -/
theorem Wd.bel (h : Wd B g L w v x) (hp : Hop L.S v v' w w') : Below B w w' :=
  ⟨hp.os, hp.tape, hp.output, hp.size, fun k hk => hp.block k (Nat.lt_of_lt_of_le hk h.le) (fun hm => by have := h.new k (by simp [Loc.S] at hm; simp [Loc.all]; omega); omega) (fun e => by have := h.newv k e; omega)⟩
theorem Wd.c (h : Wd B g L w v x) : w.cell? ⟨g, 0, none⟩ = some (.pointer (some ⟨L.m, 0, none⟩)) ∧ w.cell? ⟨g, 1, none⟩ = some (.pointer (some ⟨L.t, 0, none⟩)) ∧ w.cell? ⟨g, 2, none⟩ = some (.pointer (some ⟨L.p, 0, none⟩)) ∧ w.cell? ⟨g, 3, none⟩ = some (.pointer (some ⟨L.s, 0, none⟩)) := ⟨h.lay.cell 0, h.lay.cell 1, h.lay.cell 2, h.lay.cell 3⟩
end
/-- How Begin ends. -/
def BegEnd (n away : Nat) (w : World) (e : Ending) (w' : World) : Prop :=
  ∃ g L v, e = .returned (.pointer (some ⟨g, 0, none⟩)) ∧ Wd w.heap.size g L w' v (beg n away 8) ∧ Below w.heap.size w w' ∧ L.n = n ∧ L.vm = 7 ∧ L.room = 8
set_option maxRecDepth 100000 in
set_option maxHeartbeats 4000000 in
theorem begin_any (n away : Nat) (w : World) (h1 : n ≤ 1024) (h2 : away < n) :
    Calls Tryz.prog 7 #[.int .i64 n, .int .i64 away] w (BegEnd n away w) := by
  have d0 : IntKind.i64.wrap ((n : Int) - away) = ((n - away : Nat) : Int) := by rw [IntKind.wrap_i64]; omega
  have d0 := Lib.hid d0
  go_enter Tryz.func7, Tryz.ntmps7
  go_wp2_with fail
  refine (Ph.new_any n w (by omega) h1).mono ?_
  rintro e w1 ⟨m, F, c, rfl, hM, hO, g1, g2⟩
  have M1 := Lib.hid hM
  have O1 := Lib.hid hO
  have s1 := hO.size
  have m1 := hM.lt
  have m2 := hM.row.lt
  clear hM hO
  go_wp2_with fail
  refine (Fr.new_yes n w1 (by omega) h1).mono ?_
  rintro e w2 ⟨rfl, hT, hO⟩
  have T2 := Lib.hid hT
  have M2 := Lib.hid (M1.out.kept hO (by simp) (by simp))
  have O2 := Lib.hid (O1.out.trans hO)
  have s2 := hO.size
  have t1 := hT.tb.lt
  have t2 := hT.tb.row.lt
  obtain ⟨t, et⟩ : ∃ t, t = w1.heap.size + 1 := ⟨_, rfl⟩
  obtain ⟨tF, eF⟩ : ∃ t, t = w1.heap.size := ⟨_, rfl⟩
  rw [← et] at T2 t1 ⊢
  rw [← eF] at T2 t2
  have ET := Lib.hid (And.intro et eF)
  clear hT hO M1 O1 et eF
  go_wp2_with fail
  refine (Tl.new_yes 8 w2 (by decide) (by decide)).mono ?_
  rintro e w3 ⟨rfl, hP, hO⟩
  have P3 := Lib.hid hP
  have T3 := Lib.hid (T2.out.kept hO (by simp) (by simp))
  have M3 := Lib.hid (M2.out.kept hO (by simp) (by simp))
  have O3 := Lib.hid (O2.out.trans hO)
  have s3 := hO.size
  have p1 := hP.lt
  have p2 := hP.map.lt
  obtain ⟨p, ep⟩ : ∃ t, t = w2.heap.size + 1 := ⟨_, rfl⟩
  obtain ⟨pm, em⟩ : ∃ t, t = w2.heap.size := ⟨_, rfl⟩
  rw [← ep] at P3 p1 ⊢
  rw [← em] at P3 p2
  have Q3 := Lib.hid (And.intro (show m < w1.heap.size ∧ F < w1.heap.size ∧ w.heap.size ≤ w1.heap.size ∧ w1.heap.size ≤ w2.heap.size ∧ w2.heap.size ≤ w3.heap.size from ⟨m1, m2, s1, s2, s3⟩) (And.intro ET.out (And.intro ep em)))
  clear hP hO T2 M2 O2 ep em m1 m2 s1 s2 s3 ET
  go_wp2_with fail
  go_loopw [11] (fun q wr => ∃ i : Nat, q = .int .i64 i ∧ i ≤ n ∧ Fr.Tab wr t tF (Fr.prt n i 2) ∧ Only [t, tF] w3 wr) (fun q _ => n - (intOf q).toNat)
  case atStart => exact ⟨0, rfl, Nat.zero_le _, T3.out, Only.refl _ _⟩
  case round =>
    obtain ⟨i, rfl, hi, hT, hO⟩ := hrel
    have T4 := Lib.hid hT
    have O4 := Lib.hid hO
    clear hT hO T3
    by_cases hlt : i < n
    · go_wp2_with fail
      refine (Fr.take_any t tF 2 _ wr T4.out).mono ?_
      rw [show (2 : Int) = ((2 : Nat) : Int) from rfl, Fr.prt_take hlt (by decide) (by decide)]
      rintro e w5 ⟨rfl, hT, hO⟩
      have T5 := Lib.hid hT
      have O5 := Lib.hid (O4.out.trans hO)
      clear hT hO T4 O4
      go_wp2_with fail
      go_roundw
      case rel => exact ⟨i + 1, by go_num, by omega, T5.out, O5.out⟩
      case measure => simp only [intOf, Int.toNat_natCast]; omega
    · obtain rfl : i = n := by omega
      have f0 : Fr.prt i i 2 = own0 i 0 := by
        apply List.ext_getElem?
        intro j
        by_cases hj : j < i
        · rw [Fr.prt_get (Nat.le_refl _) hj, if_pos hj, own0_get (Nat.zero_le _) hj, if_neg (by omega)]
        · rw [List.getElem?_eq_none (by rw [Fr.prt_len]; omega), List.getElem?_eq_none (by rw [own0_len (Nat.zero_le _)]; omega)]
      have t4 := T4.out
      rw [f0] at t4
      have T4 := Lib.hid t4
      clear t4 f0
      obtain ⟨wz, hwz⟩ : ∃ wz, wz = wr := ⟨_, rfl⟩
      subst hwz
      go_wp2_with fail
      go_loopw [12] (fun q wr => ∃ j : Nat, q = .int .i64 j ∧ j ≤ i - away ∧ Fr.Tab wr t tF (own0 i j) ∧ Only [t, tF] w3 wr) (fun q _ => i - (intOf q).toNat)
      case atStart => exact ⟨0, rfl, Nat.zero_le _, T4.out, O4.out⟩
      case round =>
        obtain ⟨j, rfl, hj, hT, hO⟩ := hrel
        have T6 := Lib.hid hT
        have O6 := Lib.hid hO
        clear hT hO T4 O4
        by_cases hlt : j < i - away
        · have hlt' : (j : Int) < (i : Int) - away := by omega
          go_wp2_with fail
          refine (Fr.give_any t tF 2 j _ wr T6.out).mono ?_
          have em : Fr.mvP j 2 0 (own0 i j) = (0, own0 i (j + 1)) := by
            have e2 : (own0 i j)[j]? = some 2 := by rw [own0_get (by omega) (by omega), if_neg (by omega)]
            unfold Fr.mvP
            rw [if_neg (by rw [own0_len (by omega)]; rintro (h | h | h | h) <;> first | omega | (revert h; decide) | exact h.1 rfl), Int.toNat_natCast, e2, if_neg (by simp), ← own0_next (by omega)]
            rfl
          rw [em]
          rintro e w7 ⟨rfl, hT, hO⟩
          have T7 := Lib.hid hT
          have O7 := Lib.hid (O6.out.trans hO)
          clear hT hO T6 O6 em
          go_wp2_with fail
          go_roundw
          case rel => exact ⟨j + 1, by go_num, by omega, T7.out, O7.out⟩
          case measure => simp only [intOf, Int.toNat_natCast]; omega
        · obtain rfl : j = i - away := by omega
          have hlt' : ¬ ((i - away : Nat) : Int) < (i : Int) - away := by omega
          have M7 := Lib.hid (M3.out.kept O6.out (by obtain ⟨⟨q1, q2, q3, q4, q5⟩, ⟨q6, q7⟩, q8, q9⟩ := Q3.out; simp; omega) (by obtain ⟨⟨q1, q2, q3, q4, q5⟩, ⟨q6, q7⟩, q8, q9⟩ := Q3.out; simp; omega))
          have P7 := Lib.hid (P3.out.kept O6.out (by obtain ⟨⟨q1, q2, q3, q4, q5⟩, ⟨q6, q7⟩, q8, q9⟩ := Q3.out; simp; omega) (by obtain ⟨⟨q1, q2, q3, q4, q5⟩, ⟨q6, q7⟩, q8, q9⟩ := Q3.out; simp; omega))
          have U7 := Lib.hid (show Below w.heap.size w wr from (O3.out.below (Nat.le_refl _) (by simp)).trans (O6.out.below (by obtain ⟨⟨q1, q2, q3, q4, q5⟩, ⟨q6, q7⟩, q8, q9⟩ := Q3.out; omega) (by obtain ⟨⟨q1, q2, q3, q4, q5⟩, ⟨q6, q7⟩, q8, q9⟩ := Q3.out; simp; omega)))
          have z7 := O6.out.size
          clear M3 P3 O3 O6
          obtain ⟨LL, hL⟩ : ∃ LL : Loc, LL = ⟨wr.heap.size + 1, m, F, c, t, tF, p, pm, 8, i, 7⟩ := ⟨_, rfl⟩
          have ap : Apt LL := by
            obtain ⟨⟨q1, q2, q3, q4, q5⟩, ⟨q6, q7⟩, q8, q9⟩ := Q3.out
            have mne : m ≠ F := by
              rintro rfl
              have e1 := M7.out.head
              have e2 := M7.out.row.cell 0 (by omega)
              rw [e1] at e2
              cases e2
            subst hL
            constructor <;> (first | omega | (simp only; omega))
          have e0 : LL.n = i ∧ LL.vm = 7 ∧ LL.room = 8 ∧ LL.m = m ∧ LL.F = F ∧ LL.c = c ∧ LL.t = t ∧ LL.tF = tF ∧ LL.p = p ∧ LL.pm = pm ∧ LL.s = wr.heap.size + 1 := by subst hL; exact ⟨rfl, rfl, rfl, rfl, rfl, rfl, rfl, rfl, rfl, rfl, rfl⟩
          have C7 := new_yes (L := LL) (fun _ => 0) (own0 i (i - away)) 0 0 (List.replicate 8 none) wr (by subst hL; exact M7.out) (by subst hL; exact T6.out) (by subst hL; exact P7.out) ap e0.2.2.2.2.2.2.2.2.2.2 (by omega) (own0_spot (by omega) (by omega)) (by omega)
          obtain ⟨r1, r2, r3, r4, r5, r6, r7, r8, r9, r10, r11⟩ := e0
          rw [r4, r7, r9, r2, show ((7 : Nat) : Int) = 7 from rfl] at C7
          have C8 := Lib.hid C7
          have R1 := Lib.hid (And.intro r1 (And.intro r2 r3))
          have R2 := Lib.hid (And.intro (And.intro r4 (And.intro r5 r6)) (And.intro (And.intro r7 r8) (And.intro (And.intro r9 r10) r11)))
          have A8 := Lib.hid ap
          obtain ⟨sn, esn⟩ : ∃ sn, sn = LL.s := ⟨_, rfl⟩
          rw [← esn] at C8
          have E8 := Lib.hid esn
          clear C7 r1 r2 r3 r4 r5 r6 r7 r8 r9 r10 r11 ap hL M7 T6 P7 esn
          go_wp2_with fail
          refine C8.out.mono ?_
          rintro e w8 ⟨rfl, v8, hS, hO, hV⟩
          have V8 := Lib.hid hV
          clear hV
          have S8 := Lib.hid hS
          have O8 := Lib.hid hO
          clear hS hO C8
          go_wp2
          go_ret
          obtain ⟨⟨q1, q2, q3, q4, q5⟩, ⟨q6, q7⟩, q8, q9⟩ := Q3.out
          obtain ⟨⟨r4, r5, r6⟩, ⟨r7, r8⟩, ⟨r9, r10⟩, r11⟩ := R2.out
          have hlts := S8.out.lts
          have B8 : Below w.heap.size w w8 := U7.out.trans (O8.out.below U7.out.size (fun k hk => by simp only [Loc.S, List.mem_cons, List.not_mem_nil, or_false] at hk; omega))
          refine ⟨w8.heap.size, LL, v8, rfl, ⟨S8.out.alloc _, ?_, fun h => Nat.lt_irrefl _ (hlts _ h), S8.out.off (Nat.le_refl _), fun k hk => ?_, B8.size, fun k hk => ?_⟩, B8.alloc B8.size _, R1.out⟩
          · rw [r4, r7, r9, ← E8.out]
            exact Tl.Lay.new w8 36 [.pointer (some ⟨m, 0, none⟩), .pointer (some ⟨t, 0, none⟩), .pointer (some ⟨p, 0, none⟩), .pointer (some ⟨sn, 0, none⟩)]
          · simp only [Loc.all, List.mem_cons, List.not_mem_nil, or_false] at hk
            omega
          · have := V8.out k hk; have := U7.out.size; omega
set_option maxRecDepth 100000 in
/-- A call on a space. -/
theorem doL_any (c : Cq) (w : World) (hS : St L w v x) (hR : x.gone = false → Rep L.n x A) :
    Calls Tryz.prog 9 #[.pointer (some ⟨L.s, 0, none⟩), .agg #[.int .i64 c.what, .int .i64 c.page, .int .i64 c.frame, .bool c.w, .bool c.e]] w (OEnd L v (stepR L.n L.vm x A c).k (stepR L.n L.vm x A c).x w) := by
  obtain ⟨what, p, f, a, e⟩ := c
  simp only
  have S0 := Lib.hid (hS.alloc (.cells #[.int .i64 what, .int .i64 p, .int .i64 f, .bool a, .bool e] 38))
  have O0 := Lib.hid (Only.alloc L.S w (.cells #[.int .i64 what, .int .i64 p, .int .i64 f, .bool a, .bool e] 38))
  have HR := Lib.hid hR
  have EX := Lib.hid (show stepR L.n L.vm x A ⟨what, p, f, a, e⟩ = gon x (if what = 0 then mapP L.n L.vm x.noLog A p f a e else if what = 1 then runM L.n L.vm x.noLog A p f a e else if what = 2 then unmP L.n L.vm x.noLog A p else if what = 3 then proP L.n L.vm x.noLog A p a e else if what = 4 then splP L.n L.vm x.noLog A p else merP L.n L.vm x.noLog A p) from rfl)
  clear hS hR
  by_cases h0 : what = 0
  · have e1 := EX.out
    rw [if_pos h0] at e1
    rw [e1]
    subst h0
    clear e1 EX
    go_enter Tryz.func9, Tryz.ntmps9
    go_wp2_with fail
    generalize w.alloc (.cells #[.int .i64 0, .int .i64 p, .int .i64 f, .bool a, .bool e] 38) = u at *
    refine (map_call p f a e u S0.out HR.out).mono ?_
    rintro e w1 ⟨rfl, v1, hS, hP⟩
    have F1 := Lib.hid (And.intro hS ((Hop.of O0.out v).trans hP))
    clear hS hP S0 O0
    go_wp2
    go_ret
    exact ⟨rfl, v1, F1.out.1, F1.out.2⟩
  by_cases h1 : what = 1
  · have e1 := EX.out
    rw [if_neg h0, if_pos h1] at e1
    rw [e1]
    subst h1
    clear e1 EX
    go_enter Tryz.func9, Tryz.ntmps9
    go_wp2_with fail
    generalize w.alloc (.cells #[.int .i64 1, .int .i64 p, .int .i64 f, .bool a, .bool e] 38) = u at *
    refine (maprun_call p f a e u S0.out HR.out).mono ?_
    rintro e w1 ⟨rfl, v1, hS, hP⟩
    have F1 := Lib.hid (And.intro hS ((Hop.of O0.out v).trans hP))
    clear hS hP S0 O0
    go_wp2
    go_ret
    exact ⟨rfl, v1, F1.out.1, F1.out.2⟩
  by_cases h2 : what = 2
  · have e1 := EX.out
    rw [if_neg h0, if_neg h1, if_pos h2] at e1
    rw [e1]
    subst h2
    clear e1 EX
    go_enter Tryz.func9, Tryz.ntmps9
    go_wp2_with fail
    generalize w.alloc (.cells #[.int .i64 2, .int .i64 p, .int .i64 f, .bool a, .bool e] 38) = u at *
    refine (unmap_call p u S0.out HR.out).mono ?_
    rintro e w1 ⟨rfl, v1, hS, hP⟩
    have F1 := Lib.hid (And.intro hS ((Hop.of O0.out v).trans hP))
    clear hS hP S0 O0
    go_wp2
    go_ret
    exact ⟨rfl, v1, F1.out.1, F1.out.2⟩
  by_cases h3 : what = 3
  · have e1 := EX.out
    rw [if_neg h0, if_neg h1, if_neg h2, if_pos h3] at e1
    rw [e1]
    subst h3
    clear e1 EX
    go_enter Tryz.func9, Tryz.ntmps9
    go_wp2_with fail
    generalize w.alloc (.cells #[.int .i64 3, .int .i64 p, .int .i64 f, .bool a, .bool e] 38) = u at *
    refine (protect_call p a e u S0.out HR.out).mono ?_
    rintro e w1 ⟨rfl, v1, hS, hP⟩
    have F1 := Lib.hid (And.intro hS ((Hop.of O0.out v).trans hP))
    clear hS hP S0 O0
    go_wp2
    go_ret
    exact ⟨rfl, v1, F1.out.1, F1.out.2⟩
  by_cases h4 : what = 4
  · have e1 := EX.out
    rw [if_neg h0, if_neg h1, if_neg h2, if_neg h3, if_pos h4] at e1
    rw [e1]
    subst h4
    clear e1 EX
    go_enter Tryz.func9, Tryz.ntmps9
    go_wp2_with fail
    generalize w.alloc (.cells #[.int .i64 4, .int .i64 p, .int .i64 f, .bool a, .bool e] 38) = u at *
    refine (split_call p u S0.out HR.out).mono ?_
    rintro e w1 ⟨rfl, v1, hS, hP⟩
    have F1 := Lib.hid (And.intro hS ((Hop.of O0.out v).trans hP))
    clear hS hP S0 O0
    go_wp2
    go_ret
    exact ⟨rfl, v1, F1.out.1, F1.out.2⟩
  · have e1 := EX.out
    rw [if_neg h0, if_neg h1, if_neg h2, if_neg h3, if_neg h4] at e1
    rw [e1]
    clear e1 EX
    have d0 : (what == 0) = false := by simpa using h0
    have d1 : (what == 1) = false := by simpa using h1
    have d2 : (what == 2) = false := by simpa using h2
    have d3 : (what == 3) = false := by simpa using h3
    have d4 : (what == 4) = false := by simpa using h4
    clear h0 h1 h2 h3 h4
    go_enter Tryz.func9, Tryz.ntmps9
    go_wp2_with fail
    generalize w.alloc (.cells #[.int .i64 what, .int .i64 p, .int .i64 f, .bool a, .bool e] 38) = u at *
    refine (merge_call p u S0.out HR.out).mono ?_
    rintro e w1 ⟨rfl, v1, hS, hP⟩
    have F1 := Lib.hid (And.intro hS ((Hop.of O0.out v).trans hP))
    clear hS hP S0 O0
    go_wp2
    go_ret
    exact ⟨rfl, v1, F1.out.1, F1.out.2⟩
end St
end Go.Proofs.YtiiggmfindfkfaaGreat
