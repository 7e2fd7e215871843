/-
  What the document's own Tables and the laws' doRef answer and leave. Conditions: that its space lies there, and that each argument is of its Go type.
-/
import Derived.Test.YtiiggmfindfkfaaGreatStRnew
namespace Go.Proofs.YtiiggmfindfkfaaGreat
open Go.RowKit Nt
namespace St
open Ph En Wk
theorem cntN_le (p : Nat → Bool) : ∀ k, cntN p k ≤ k
  | 0 => Nat.le_refl _
  | k + 1 => by rw [cntN_succ]; have := cntN_le p k; split <;> omega
set_option maxRecDepth 100000 in
theorem rtabs_any (r P G n : Nat) (s : Rst) (w : World) (hS : Rs w r P G n s) :
    Calls Tryz.prog 43 #[.pointer (some ⟨r, 0, none⟩)] w fun e w' => e = .returned (.int .i64 ((cntN (fun i => s.f i == 2) 64 : Nat) : Int)) ∧ w = w' := by
  have HS := Lib.hid hS
  clear hS
  go_enter Tryz.func43, Tryz.ntmps43
  go_wp2_with fail
  go_loop [3, 4] (fun c q => ∃ k : Nat, q = .int .i64 k ∧ k ≤ 64 ∧ c = .int .i64 ((cntN (fun i => s.f i == 2) k : Nat) : Int)) (fun _ q => 64 - (intOf q).toNat)
  case atStart => exact ⟨0, rfl, by omega, rfl⟩
  case round =>
    obtain ⟨k, rfl, hk, rfl⟩ := hrel
    have CN := Lib.hid (cntN_succ (fun i => s.f i == 2) k)
    have CL := cntN_le (fun i => s.f i == 2) k
    by_cases hlt : k < 64
    · have c0 := HS.out.c1
      have g0 := HS.out.g0 k hlt
      cases hq : s.f k == 2 with
      | true =>
        have e2 : s.f k = 2 := by simpa using hq
        rw [e2] at g0
        have C2 := Lib.hid (show cntN (fun i => s.f i == 2) (k + 1) = cntN (fun i => s.f i == 2) k + 1 by rw [CN.out]; simp only [hq]; rfl)
        obtain ⟨cc, hcc⟩ : ∃ cc, cc = cntN (fun i => s.f i == 2) k := ⟨_, rfl⟩
        rw [← hcc] at C2 CL ⊢
        clear hq e2 hcc CN
        go_wp2_with fail
        go_round
        case rel => exact ⟨k + 1, by go_num, by omega, by rw [C2.out]; go_num⟩
        case measure => simp only [intOf, Int.toNat_natCast]; omega
      | false =>
        have C2 := Lib.hid (show cntN (fun i => s.f i == 2) (k + 1) = cntN (fun i => s.f i == 2) k by rw [CN.out]; simp only [hq]; rfl)
        clear CN
        go_wp2_with fail
        go_round
        case rel => exact ⟨k + 1, by go_num, by omega, by rw [C2.out]⟩
        case measure => simp only [intOf, Int.toNat_natCast]; omega
    · obtain rfl : k = 64 := by omega
      go_wp2_with fail
      go_ret
      exact ⟨rfl, rfl⟩
/-- A call on the document's space. -/
def opR (n : Nat) (s : Rst) (c : Cq) : Int × Rst :=
  if c.what = 0 then mapR n s c.page c.frame c.w c.e
  else if c.what = 1 then runR n s c.page c.frame c.w c.e
  else if c.what = 2 then chgR s c.page (0, false, false, false)
  else if c.what = 3 then chgR s c.page (0, true, c.w, c.e)
  else if c.what = 4 then splR s c.page
  else merR s c.page
set_option maxRecDepth 100000 in
set_option maxHeartbeats 1000000 in
theorem doRef_any (r P G n : Nat) (c : Cq) (s : Rst) (w : World) (hS : Rs w r P G n s) (hb : s.fr ≤ 5000) (hb0 : 0 ≤ s.fr) (hq : ∀ p, p < 4096 → 0 ≤ (s.q p).1 ∧ (s.q p).1 ≤ 5000) :
    Calls Tryz.prog 10 #[.pointer (some ⟨r, 0, none⟩), .agg #[.int .i64 c.what, .int .i64 c.page, .int .i64 c.frame, .bool c.w, .bool c.e]] w fun e w' => e = .returned (.int .i64 (opR n s c).1) ∧ Rs w' r P G n (opR n s c).2 ∧ Only [r, P, G] w w' := by
  obtain ⟨what, p, f, a, e⟩ := c
  simp only
  have S0 := Lib.hid (hS.news (.cells #[.int .i64 what, .int .i64 p, .int .i64 f, .bool a, .bool e] 38))
  have O0 := Lib.hid (Only.alloc [r, P, G] w (.cells #[.int .i64 what, .int .i64 p, .int .i64 f, .bool a, .bool e] 38))
  have HQ := Lib.hid hq
  have HB := Lib.hid hb
  have HB0 := Lib.hid hb0
  have EX := Lib.hid (show opR n s ⟨what, p, f, a, e⟩ = (if what = 0 then mapR n s p f a e else if what = 1 then runR n s p f a e else if what = 2 then chgR s p (0, false, false, false) else if what = 3 then chgR s p (0, true, a, e) else if what = 4 then splR s p else merR s p) from rfl)
  clear hS hb hb0 hq
  by_cases h0 : what = 0
  · have e1 := EX.out
    rw [if_pos h0] at e1
    rw [e1]
    subst h0
    clear e1 EX
    go_enter Tryz.func10, Tryz.ntmps10
    go_wp2_with fail
    generalize w.alloc (.cells #[.int .i64 0, .int .i64 p, .int .i64 f, .bool a, .bool e] 38) = u at *
    refine (rmap_any r P G n p f a e s u S0.out HB.out).mono ?_
    rintro e w1 ⟨rfl, hR, hP⟩
    have F1 := Lib.hid (And.intro hR (O0.out.trans hP))
    clear hR hP S0 O0
    go_wp2
    go_ret
    exact ⟨rfl, F1.out.1, F1.out.2⟩
  by_cases h1 : what = 1
  · have e1 := EX.out
    rw [if_neg h0, if_pos h1] at e1
    rw [e1]
    subst h1
    clear e1 EX
    go_enter Tryz.func10, Tryz.ntmps10
    go_wp2_with fail
    generalize w.alloc (.cells #[.int .i64 1, .int .i64 p, .int .i64 f, .bool a, .bool e] 38) = u at *
    refine (rrun_any r P G n p f a e s u S0.out).mono ?_
    rintro e w1 ⟨rfl, hR, hP⟩
    have F1 := Lib.hid (And.intro hR (O0.out.trans hP))
    clear hR hP S0 O0
    go_wp2
    go_ret
    exact ⟨rfl, F1.out.1, F1.out.2⟩
  by_cases h2 : what = 2
  · have e1 := EX.out
    rw [if_neg h0, if_neg h1, if_pos h2] at e1
    rw [e1]
    subst h2
    clear e1 EX
    go_enter Tryz.func10, Tryz.ntmps10
    go_wp2_with fail
    generalize w.alloc (.cells #[.int .i64 2, .int .i64 p, .int .i64 f, .bool a, .bool e] 38) = u at *
    refine (runm_any r P G n p s u S0.out HB.out HB0.out).mono ?_
    rintro e w1 ⟨rfl, hR, hP⟩
    have F1 := Lib.hid (And.intro hR (O0.out.trans hP))
    clear hR hP S0 O0
    go_wp2
    go_ret
    exact ⟨rfl, F1.out.1, F1.out.2⟩
  by_cases h3 : what = 3
  · have e1 := EX.out
    rw [if_neg h0, if_neg h1, if_neg h2, if_pos h3] at e1
    rw [e1]
    subst h3
    clear e1 EX
    go_enter Tryz.func10, Tryz.ntmps10
    go_wp2_with fail
    generalize w.alloc (.cells #[.int .i64 3, .int .i64 p, .int .i64 f, .bool a, .bool e] 38) = u at *
    refine (rpro_any r P G n p a e s u S0.out HB.out HB0.out).mono ?_
    rintro e w1 ⟨rfl, hR, hP⟩
    have F1 := Lib.hid (And.intro hR (O0.out.trans hP))
    clear hR hP S0 O0
    go_wp2
    go_ret
    exact ⟨rfl, F1.out.1, F1.out.2⟩
  by_cases h4 : what = 4
  · have e1 := EX.out
    rw [if_neg h0, if_neg h1, if_neg h2, if_neg h3, if_pos h4] at e1
    rw [e1]
    subst h4
    clear e1 EX
    go_enter Tryz.func10, Tryz.ntmps10
    go_wp2_with fail
    generalize w.alloc (.cells #[.int .i64 4, .int .i64 p, .int .i64 f, .bool a, .bool e] 38) = u at *
    refine (rspl_any r P G n p s u S0.out HB.out).mono ?_
    rintro e w1 ⟨rfl, hR, hP⟩
    have F1 := Lib.hid (And.intro hR (O0.out.trans hP))
    clear hR hP S0 O0
    go_wp2
    go_ret
    exact ⟨rfl, F1.out.1, F1.out.2⟩
  · have e1 := EX.out
    rw [if_neg h0, if_neg h1, if_neg h2, if_neg h3, if_neg h4] at e1
    rw [e1]
    clear e1 EX
    have d0 : (what == 0) = false := by simpa using h0
    have d1 : (what == 1) = false := by simpa using h1
    have d2 : (what == 2) = false := by simpa using h2
    have d3 : (what == 3) = false := by simpa using h3
    have d4 : (what == 4) = false := by simpa using h4
    clear h0 h1 h2 h3 h4
    go_enter Tryz.func10, Tryz.ntmps10
    go_wp2_with fail
    generalize w.alloc (.cells #[.int .i64 what, .int .i64 p, .int .i64 f, .bool a, .bool e] 38) = u at *
    refine (rmer_any r P G n p s u S0.out HB.out HB0.out HQ.out).mono ?_
    rintro e w1 ⟨rfl, hR, hP⟩
    have F1 := Lib.hid (And.intro hR (O0.out.trans hP))
    clear hR hP S0 O0
    go_wp2
    go_ret
    exact ⟨rfl, F1.out.1, F1.out.2⟩
end St
end Go.Proofs.YtiiggmfindfkfaaGreat
