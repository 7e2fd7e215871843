/-
  What the document's own Map, MapRun, Unmap, Protect, Split and Merge answer and leave. Conditions: that its space lies there, and that each argument is of its Go type.
-/
import Derived.Test.YtiiggmfindfkfaaGreatStRs
import Derived.Test.YtiiggmfindfkfaaGreatStStep
namespace Go.Proofs.YtiiggmfindfkfaaGreat
open Go.RowKit Nt
namespace St
open Ph En Wk
theorem tabR_q {s t : Rst} {i : Nat} (h : tabR s i = some t) : t.q = s.q := by
  unfold tabR at h
  split at h
  · injection h with h; subst h; rfl
  · split at h
    · cases h
    · injection h with h; subst h; rfl
theorem tabR_fr {s t : Rst} {i : Nat} (h : tabR s i = some t) : t.fr ≤ s.fr := by
  unfold tabR at h
  split at h
  · injection h with h; subst h; exact Int.le_refl _
  · split at h
    · cases h
    · injection h with h; subst h; simp only; omega
def mapR (n : Nat) (s : Rst) (p f : Int) (w e : Bool) : Int × Rst :=
  if inR 4096 p = false ∨ inR n f = false then (11, s)
  else if (s.q p.toNat).2.1 = true then (13, s)
  else match tabR s (p.toNat / 64) with
    | none => (15, s)
    | some t => (0, { t with q := upd t.q p.toNat (f, true, w, e) })
theorem inR_x (m : Nat) (p : Int) : inR m p = (decide (0 ≤ p) && decide (p < (m : Int))) := rfl
set_option maxRecDepth 100000 in
set_option maxHeartbeats 1000000 in
theorem rmap_any (r P G n : Nat) (p f : Int) (a b : Bool) (s : Rst) (w : World) (hS : Rs w r P G n s) (hb : s.fr ≤ 5000) :
    Calls Tryz.prog 36 #[.pointer (some ⟨r, 0, none⟩), .int .i64 p, .int .i64 f, .bool a, .bool b] w fun e w' => e = .returned (.int .i64 (mapR n s p f a b).1) ∧ Rs w' r P G n (mapR n s p f a b).2 ∧ Only [r, P, G] w w' := by
  obtain ⟨ans, hans⟩ : ∃ ans, ans = mapR n s p f a b := ⟨_, rfl⟩
  rw [← hans]
  have HS := Lib.hid hS
  have HB := Lib.hid hb
  have c2 := hS.c2
  clear hS hb
  cases h1 : inR 4096 p with
  | false =>
    have e : mapR n s p f a b = (11, s) := by unfold mapR; rw [if_pos (Or.inl h1)]
    obtain rfl := hans.trans e
    have d1 : (decide (0 ≤ p) && decide (p < 4096)) = false := h1
    have D1 := Lib.hid d1
    clear e hans h1 d1
    go_enter Tryz.func36, Tryz.ntmps36
    go_wp2_with (go_at_call 80; refine (rspan_any p 4096 _).mono ?_; rintro e w1 ⟨rfl, rfl⟩; rw [D1.out])
    go_ret
    exact ⟨rfl, HS.out, Only.refl _ _⟩
  | true =>
  have d1 : (decide (0 ≤ p) && decide (p < 4096)) = true := h1
  have D1 := Lib.hid d1
  cases h2 : inR n f with
  | false =>
    have e : mapR n s p f a b = (11, s) := by unfold mapR; rw [if_pos (Or.inr h2)]
    obtain rfl := hans.trans e
    have D2 := Lib.hid (show (decide (0 ≤ f) && decide (f < (n : Int))) = false from h2)
    clear e hans h1 d1 h2
    go_enter Tryz.func36, Tryz.ntmps36
    go_wp2_with (first | (go_at_call 80; with_reducible refine (rspan_any p 4096 _).mono ?_; rintro e w1 ⟨rfl, rfl⟩; rw [D1.out]) | (go_at_call 80; with_reducible refine (rspan_any f n _).mono ?_; rintro e w1 ⟨rfl, rfl⟩; rw [D2.out]))
    go_ret
    exact ⟨rfl, HS.out, Only.refl _ _⟩
  | true =>
  have D2 := Lib.hid (show (decide (0 ≤ f) && decide (f < (n : Int))) = true from h2)
  obtain ⟨k, rfl, hk⟩ := inR_nat h1
  have e0 : mapR n s k f a b = (if (s.q k).2.1 = true then (13, s) else match tabR s (k / 64) with
    | none => (15, s)
    | some t => (0, { t with q := upd t.q k (f, true, a, b) }) : Int × Rst) := by
    unfold mapR
    rw [if_neg (by rw [h1, h2]; simp)]
    rfl
  rw [e0] at hans
  have q1 := HS.out.q1 k hk
  have c0 := HS.out.c0
  clear e0 d1 h1 h2
  by_cases hT : (s.q k).2.1 = true
  · rw [if_pos hT] at hans
    subst hans
    rw [hT] at q1
    clear hT
    go_enter Tryz.func36, Tryz.ntmps36
    go_wp2_with (first | (go_at_call 80; with_reducible refine (rspan_any (k : Int) 4096 _).mono ?_; rintro e w1 ⟨rfl, rfl⟩; rw [D1.out]) | (go_at_call 80; with_reducible refine (rspan_any f n _).mono ?_; rintro e w1 ⟨rfl, rfl⟩; rw [D2.out]))
    go_ret
    exact ⟨rfl, HS.out, Only.refl _ _⟩
  · rw [if_neg hT] at hans
    have hT' : (s.q k).2.1 = false := by simpa using hT
    rw [hT'] at q1
    clear hT hT'
    have ek : ((k / 64 : Nat) : Int) = (k : Int) / 64 := by omega
    cases htb : tabR s (k / 64) with
    | none =>
      rw [htb] at hans
      subst hans
      have CT := rtable_no r P G n (k / 64) s w HS.out (by omega) htb
      rw [ek] at CT
      have CT := Lib.hid CT
      clear ek htb
      go_enter Tryz.func36, Tryz.ntmps36
      go_wp2_with (first | (go_at_call 80; with_reducible refine (rspan_any (k : Int) 4096 _).mono ?_; rintro e w1 ⟨rfl, rfl⟩; rw [D1.out]) | (go_at_call 80; with_reducible refine (rspan_any f n _).mono ?_; rintro e w1 ⟨rfl, rfl⟩; rw [D2.out]))
      refine CT.out.mono ?_
      rintro e w1 ⟨rfl, rfl⟩
      go_wp2
      go_ret
      exact ⟨rfl, HS.out, Only.refl _ _⟩
    | some t =>
      rw [htb] at hans
      subst hans
      have CT := rtable_yes r P G n (k / 64) s t w HS.out (by omega) htb HB.out
      rw [ek] at CT
      have CT := Lib.hid CT
      clear ek htb
      go_enter Tryz.func36, Tryz.ntmps36
      go_wp2_with (first | (go_at_call 80; with_reducible refine (rspan_any (k : Int) 4096 _).mono ?_; rintro e w1 ⟨rfl, rfl⟩; rw [D1.out]) | (go_at_call 80; with_reducible refine (rspan_any f n _).mono ?_; rintro e w1 ⟨rfl, rfl⟩; rw [D2.out]))
      refine CT.out.mono ?_
      rintro e w1 ⟨rfl, hT, hO⟩
      have H1 := Lib.hid hT
      have O1 := Lib.hid hO
      clear hT hO CT c0 q1 c2
      have c0 := H1.out.c0
      have k0 := H1.out.q0 k hk
      have k1 := H1.out.q1 k hk
      have k2 := H1.out.q2 k hk
      have k3 := H1.out.q3 k hk
      have z0 := H1.out.fq (k * 4) (by omega)
      have z1 := H1.out.fq (k * 4 + 1) (by omega)
      have z2 := H1.out.fq (k * 4 + 2) (by omega)
      have z3 := H1.out.fq (k * 4 + 3) (by omega)
      have H2 := Lib.hid (H1.out.setQ hk (f, true, a, b))
      have O2 := Lib.hid (O1.out.trans ((only_set4q w1 P k (f, true, a, b)).mono (by simp)))
      go_wp2
      go_ret
      exact ⟨rfl, H2.out, O2.out⟩
def runQ (q : Nat → PgT) (i : Nat) (f : Int) (w e : Bool) (k p : Nat) : PgT := if 64 * i ≤ p ∧ p < 64 * i + k then (f + ((p - 64 * i : Nat) : Int), true, w, e) else q p
theorem runQ_next (q : Nat → PgT) (i : Nat) (f : Int) (w e : Bool) (k : Nat) : runQ q i f w e (k + 1) = upd (runQ q i f w e k) (64 * i + k) (f + (k : Int), true, w, e) := by
  funext p
  unfold upd
  by_cases h : p = 64 * i + k
  · subst h
    unfold runQ
    rw [if_pos rfl, if_pos (by omega), show 64 * i + k - 64 * i = k by omega]
  · rw [if_neg h]
    unfold runQ
    by_cases h1 : 64 * i ≤ p ∧ p < 64 * i + k
    · rw [if_pos h1, if_pos (by omega)]
    · rw [if_neg h1, if_neg (by omega)]
theorem runQ_zero (q : Nat → PgT) (i : Nat) (f : Int) (w e : Bool) : runQ q i f w e 0 = q := by
  funext p
  unfold runQ
  rw [if_neg (by omega)]
def runR (n : Nat) (s : Rst) (i f : Int) (w e : Bool) : Int × Rst :=
  if inR 64 i = false ∨ inR n f = false ∨ f % 64 ≠ 0 ∨ (n : Int) < f + 64 then (11, s)
  else if s.f i.toNat ≠ 0 then (13, s)
  else (0, ⟨s.fr, upd s.f i.toNat 1, runQ s.q i.toNat f w e 64⟩)
set_option maxRecDepth 100000 in
set_option maxHeartbeats 1000000 in
theorem rrun_any (r P G n : Nat) (p f : Int) (a b : Bool) (s : Rst) (w : World) (hS : Rs w r P G n s) :
    Calls Tryz.prog 37 #[.pointer (some ⟨r, 0, none⟩), .int .i64 p, .int .i64 f, .bool a, .bool b] w fun e w' => e = .returned (.int .i64 (runR n s p f a b).1) ∧ Rs w' r P G n (runR n s p f a b).2 ∧ Only [r, P, G] w w' := by
  obtain ⟨ans, hans⟩ : ∃ ans, ans = runR n s p f a b := ⟨_, rfl⟩
  rw [← hans]
  have HS := Lib.hid hS
  have c2 := hS.c2
  have hn := hS.few
  clear hS
  cases h1 : inR 64 p with
  | false =>
    have e : runR n s p f a b = (11, s) := by unfold runR; rw [if_pos (Or.inl h1)]
    obtain rfl := hans.trans e
    have D1 := Lib.hid (show (decide (0 ≤ p) && decide (p < 64)) = false from h1)
    clear e hans h1
    go_enter Tryz.func37, Tryz.ntmps37
    go_wp2_with (go_at_call 80; refine (rspan_any p 64 _).mono ?_; rintro e w1 ⟨rfl, rfl⟩; rw [D1.out])
    go_ret
    exact ⟨rfl, HS.out, Only.refl _ _⟩
  | true =>
  have D1 := Lib.hid (show (decide (0 ≤ p) && decide (p < 64)) = true from h1)
  cases h2 : inR n f with
  | false =>
    have e : runR n s p f a b = (11, s) := by unfold runR; rw [if_pos (Or.inr (Or.inl h2))]
    obtain rfl := hans.trans e
    have D2 := Lib.hid (show (decide (0 ≤ f) && decide (f < (n : Int))) = false from h2)
    clear e hans h1 h2
    go_enter Tryz.func37, Tryz.ntmps37
    go_wp2_with (first | (go_at_call 80; with_reducible refine (rspan_any p 64 _).mono ?_; rintro e w1 ⟨rfl, rfl⟩; rw [D1.out]) | (go_at_call 80; with_reducible refine (rspan_any f n _).mono ?_; rintro e w1 ⟨rfl, rfl⟩; rw [D2.out]))
    go_ret
    exact ⟨rfl, HS.out, Only.refl _ _⟩
  | true =>
  have D2 := Lib.hid (show (decide (0 ≤ f) && decide (f < (n : Int))) = true from h2)
  obtain ⟨i, rfl, hi⟩ := inR_nat h1
  obtain ⟨g, rfl, hg⟩ := inR_nat h2
  by_cases h3 : (g : Int) % 64 = 0
  case neg =>
    have e : runR n s i g a b = (11, s) := by unfold runR; rw [if_pos (Or.inr (Or.inr (Or.inl h3)))]
    obtain rfl := hans.trans e
    have d3 : ((g : Int) % 64 != 0) = true := by simpa using h3
    clear e hans h1 h2 h3
    go_enter Tryz.func37, Tryz.ntmps37
    go_wp2_with (first | (go_at_call 80; with_reducible refine (rspan_any (i : Int) 64 _).mono ?_; rintro e w1 ⟨rfl, rfl⟩; rw [D1.out]) | (go_at_call 80; with_reducible refine (rspan_any (g : Int) n _).mono ?_; rintro e w1 ⟨rfl, rfl⟩; rw [D2.out]))
    go_ret
    exact ⟨rfl, HS.out, Only.refl _ _⟩
  have d3 : ((g : Int) % 64 != 0) = false := by simpa using h3
  by_cases h4 : (n : Int) < g + 64
  · have e : runR n s i g a b = (11, s) := by unfold runR; rw [if_pos (Or.inr (Or.inr (Or.inr h4)))]
    obtain rfl := hans.trans e
    clear e hans h1 h2 h3
    go_enter Tryz.func37, Tryz.ntmps37
    go_wp2_with (first | (go_at_call 80; with_reducible refine (rspan_any (i : Int) 64 _).mono ?_; rintro e w1 ⟨rfl, rfl⟩; rw [D1.out]) | (go_at_call 80; with_reducible refine (rspan_any (g : Int) n _).mono ?_; rintro e w1 ⟨rfl, rfl⟩; rw [D2.out]))
    go_ret
    exact ⟨rfl, HS.out, Only.refl _ _⟩
  have e0 : runR n s i g a b = (if s.f i ≠ 0 then (13, s) else (0, ⟨s.fr, upd s.f i 1, runQ s.q i g a b 64⟩) : Int × Rst) := by
    unfold runR
    rw [if_neg (by rw [h1, h2]; simp only [Bool.true_eq_false, false_or, not_or]; exact ⟨by simpa using h3, h4⟩)]
    rfl
  rw [e0] at hans
  have c0 := HS.out.c1
  have g0 := HS.out.g0 i hi
  clear e0 h1 h2 h3
  by_cases h5 : s.f i = 0
  case neg =>
    rw [if_pos h5] at hans
    subst hans
    have d5 : (s.f i != 0) = true := by simpa using h5
    clear h5
    go_enter Tryz.func37, Tryz.ntmps37
    go_wp2_with (first | (go_at_call 80; with_reducible refine (rspan_any (i : Int) 64 _).mono ?_; rintro e w1 ⟨rfl, rfl⟩; rw [D1.out]) | (go_at_call 80; with_reducible refine (rspan_any (g : Int) n _).mono ?_; rintro e w1 ⟨rfl, rfl⟩; rw [D2.out]))
    go_ret
    exact ⟨rfl, HS.out, Only.refl _ _⟩
  rw [if_neg (by simpa using h5)] at hans
  subst hans
  rw [h5] at g0
  have fg := HS.out.fg i hi
  have H1 := Lib.hid (HS.out.setF hi 1)
  have O1 := Lib.hid (show Only [r, P, G] w (w.setCell ⟨G, i, none⟩ (.int .i64 1)) from Only.setCell w (by simp) i _)
  clear h5
  go_enter Tryz.func37, Tryz.ntmps37
  go_wp2_with (first | (go_at_call 80; with_reducible refine (rspan_any (i : Int) 64 _).mono ?_; rintro e w1 ⟨rfl, rfl⟩; rw [D1.out]) | (go_at_call 80; with_reducible refine (rspan_any (g : Int) n _).mono ?_; rintro e w1 ⟨rfl, rfl⟩; rw [D2.out]))
  clear c0 c2 g0 fg d3 h4
  go_loopw [11] (fun c wr => ∃ k : Nat, c = .int .i64 k ∧ k ≤ 64 ∧ Rs wr r P G n ⟨s.fr, upd s.f i 1, runQ s.q i g a b k⟩ ∧ Only [r, P, G] w wr) (fun c _ => 64 - (intOf c).toNat)
  case atStart => exact ⟨0, rfl, by omega, by rw [runQ_zero]; exact H1.out, O1.out⟩
  case round =>
    obtain ⟨k, rfl, hk, hR, hO⟩ := hrel
    have H2 := Lib.hid hR
    have O2 := Lib.hid hO
    clear hR hO H1 O1
    by_cases hlt : k < 64
    · have hp : 64 * i + k < 4096 := by omega
      have c0 := H2.out.c0
      have k0 := H2.out.q0 (64 * i + k) hp
      have k1 := H2.out.q1 (64 * i + k) hp
      have k2 := H2.out.q2 (64 * i + k) hp
      have k3 := H2.out.q3 (64 * i + k) hp
      have z0 := H2.out.fq ((64 * i + k) * 4) (by omega)
      have z1 := H2.out.fq ((64 * i + k) * 4 + 1) (by omega)
      have z2 := H2.out.fq ((64 * i + k) * 4 + 2) (by omega)
      have z3 := H2.out.fq ((64 * i + k) * 4 + 3) (by omega)
      have H3 := Lib.hid (H2.out.setQ hp ((g : Int) + (k : Int), true, a, b))
      have O3 := Lib.hid (O2.out.trans ((only_set4q wr P (64 * i + k) ((g : Int) + (k : Int), true, a, b)).mono (by simp)))
      have ei : (64 * (i : Int) + (k : Int)).toNat = 64 * i + k := by omega
      go_wp2_with fail
      go_roundw
      case rel => exact ⟨k + 1, by go_num, by omega, by rw [runQ_next]; exact H3.out, O3.out⟩
      case measure => simp only [intOf, Int.toNat_natCast]; omega
    · obtain rfl : k = 64 := by omega
      go_wp2_with fail
      go_ret
      exact ⟨rfl, H2.out, O2.out⟩
end St
end Go.Proofs.YtiiggmfindfkfaaGreat
