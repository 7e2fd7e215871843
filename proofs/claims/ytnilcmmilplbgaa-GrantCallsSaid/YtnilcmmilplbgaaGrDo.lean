/-
  What grant's Accept, Leave, Revoke and Offer answer, and leave. Conditions: that the grants lie there, and are ones.
-/
import Derived.Test.YtnilcmmilplbgaaGrOps
namespace Go.Proofs.Ytnilcmmilplbgaa
open Go.RowKit
namespace Gr
open Ph (Only)
/-- A grant in a block of its own. -/
structure Bx6 (w : World) (b : Nat) (x : GtT) : Prop where
  lt : b < w.heap.size
  c : ∀ k, k < 6 → w.cell? ⟨b, k, none⟩ = some (gC x k)
  fz : ∀ k, k < 6 → w.frozen? ⟨b, k, none⟩ = false
theorem Bx6.kept {w w' : World} {b : Nat} {x : GtT} {S : List Nat} (h : Bx6 w b x) (ho : Only S w w') (hb : b ∉ S) : Bx6 w' b x :=
  ⟨Nat.lt_of_lt_of_le h.lt ho.size, fun k hk => (ho.cell h.lt hb k).trans (h.c k hk), fun k hk => (ho.frozen h.lt hb k).trans (h.fz k hk)⟩
theorem Bx6.new (w : World) (x : GtT) (t : TypeId) {b : Nat} (hb : b = w.heap.size) : Bx6 (w.alloc (.cells #[.int .i64 (sta x), .int .i64 (own x), .int .i64 (frm x), .int .i64 (too x), .int .i64 (pag x), .bool (wri x)] t)) b x := by
  subst hb
  refine ⟨by simp, fun k hk => ?_, fun k _ => World.frozen?_alloc_new w _ _ _⟩
  rw [World.cell?_alloc_new]
  match k, hk with
  | 0, _ => rfl
  | 1, _ => rfl
  | 2, _ => rfl
  | 3, _ => rfl
  | 4, _ => rfl
  | 5, _ => rfl
theorem Bx6.cell1 {w : World} {b : Nat} {x : GtT} (h : Bx6 w b x) {k : Nat} (hk : k < 6) (y : GtT) (hy : ∀ m, m < 6 → m ≠ k → gC y m = gC x m) : Bx6 (w.setCell ⟨b, k, none⟩ (gC y k)) b y := by
  refine ⟨by rw [World.size_setCell]; exact h.lt, fun m hm => ?_, fun j hj => (World.frozen?_setCell _ _ _ _).trans (h.fz j hj)⟩
  rw [cell_put w b k _ _ (by rw [h.c k hk]; rfl)]
  by_cases e : m = k
  · subst e; rw [if_pos rfl]
  · rw [if_neg e, h.c m hm, hy m hm e]
def st6 (w : World) (b : Nat) (x : GtT) : World :=
  (((((w.setCell ⟨b, 0, none⟩ (.int .i64 (sta x))).setCell ⟨b, 1, none⟩ (.int .i64 (own x))).setCell ⟨b, 2, none⟩ (.int .i64 (frm x))).setCell ⟨b, 3, none⟩ (.int .i64 (too x))).setCell ⟨b, 4, none⟩ (.int .i64 (pag x))).setCell ⟨b, 5, none⟩ (.bool (wri x))
theorem only_st6 (w : World) (b : Nat) (x : GtT) : Only [b] w (st6 w b x) :=
  (((((Only.setCell w (by simp) _ _).trans (Only.setCell _ (by simp) _ _)).trans (Only.setCell _ (by simp) _ _)).trans (Only.setCell _ (by simp) _ _)).trans (Only.setCell _ (by simp) _ _)).trans (Only.setCell _ (by simp) _ _)
theorem Bx6.set {w : World} {b : Nat} {z : GtT} (h : Bx6 w b z) (x : GtT) : Bx6 (st6 w b x) b x := by
  obtain ⟨x0, x1, x2, x3, x4, x5⟩ := x
  have h0 := h.cell1 (k := 0) (by omega) (x0, z.2) (fun m hm hne => by
    have : m = 1 ∨ m = 2 ∨ m = 3 ∨ m = 4 ∨ m = 5 := by omega
    rcases this with rfl | rfl | rfl | rfl | rfl <;> rfl)
  have h1 := h0.cell1 (k := 1) (by omega) (x0, x1, z.2.2) (fun m hm hne => by
    have : m = 0 ∨ m = 2 ∨ m = 3 ∨ m = 4 ∨ m = 5 := by omega
    rcases this with rfl | rfl | rfl | rfl | rfl <;> rfl)
  have h2 := h1.cell1 (k := 2) (by omega) (x0, x1, x2, z.2.2.2) (fun m hm hne => by
    have : m = 0 ∨ m = 1 ∨ m = 3 ∨ m = 4 ∨ m = 5 := by omega
    rcases this with rfl | rfl | rfl | rfl | rfl <;> rfl)
  have h3 := h2.cell1 (k := 3) (by omega) (x0, x1, x2, x3, z.2.2.2.2) (fun m hm hne => by
    have : m = 0 ∨ m = 1 ∨ m = 2 ∨ m = 4 ∨ m = 5 := by omega
    rcases this with rfl | rfl | rfl | rfl | rfl <;> rfl)
  have h4 := h3.cell1 (k := 4) (by omega) (x0, x1, x2, x3, x4, z.2.2.2.2.2) (fun m hm hne => by
    have : m = 0 ∨ m = 1 ∨ m = 2 ∨ m = 3 ∨ m = 5 := by omega
    rcases this with rfl | rfl | rfl | rfl | rfl <;> rfl)
  have h5 := h4.cell1 (k := 5) (by omega) (x0, x1, x2, x3, x4, x5) (fun m hm hne => by
    have : m = 0 ∨ m = 1 ∨ m = 2 ∨ m = 3 ∨ m = 4 := by omega
    rcases this with rfl | rfl | rfl | rfl | rfl <;> rfl)
  exact h5
/-- State and page are put. -/
theorem Row6.two {w : World} {b : Nat} {g : Nat → GtT} (h : Row6 w b g) {i : Nat} (hi : i < 32) (s p : Int) :
    Row6 ((w.setCell ⟨b, i * 6, none⟩ (.int .i64 s)).setCell ⟨b, i * 6 + 4, none⟩ (.int .i64 p)) b (upd g i (s, own (g i), frm (g i), too (g i), p, wri (g i))) := by
  have h1 := (h.sta1 hi s).pag1 hi p
  rw [upd_upd, upd_at] at h1
  exact h1
/-! ### What is answered, by cases -/
section
variable {g : Nat → GtT}
theorem idk_of {n t : Int} (h : namP n t = 0) : ¬ (idk n = false ∨ gst t = false) := by
  obtain ⟨a, b⟩ := namP_zero h
  rw [a, b]
  decide
theorem nam_no {n t : Int} (h : namP n t ≠ 0) : idk n = false ∨ gst t = false := by
  unfold namP at h
  split at h
  · rename_i h1; exact h1
  · exact absurd rfl h
theorem acc_page {n t p : Int} (h : p < 0 ∨ 4095 < p) : accP g n t p = (gz, 11, g) := by
  unfold accP
  rw [if_pos (Or.inr (Or.inr h))]
theorem Gv.at_k {n t : Int} (h : Gv g) (hn : namP n t = 0) : Gk (g n.toNat) := by
  obtain ⟨k, rfl, hk⟩ := idk_nat (namP_zero hn).1
  exact h.one k hk
theorem acc_bad {n t p : Int} (hg : Gv g) (h : madP g n t 1 ≠ 0) : accP g n t p = (gz, madP g n t 1, g) ∨ (p < 0 ∨ 4095 < p) := by
  by_cases hp : p < 0 ∨ 4095 < p
  · exact Or.inr hp
  refine Or.inl ?_
  unfold accP madP
  by_cases hn : namP n t = 0
  · have hs := (hg.at_k hn).st
    rw [if_neg (show ¬ namP n t ≠ 0 by simpa using hn), if_neg (show ¬ (idk n = false ∨ gst t = false ∨ p < 0 ∨ 4095 < p) by rintro (x | x | x); exact idk_of hn (Or.inl x); exact idk_of hn (Or.inr x); exact hp x)]
    by_cases h1 : sta (g n.toNat) = 0 ∨ too (g n.toNat) ≠ t
    · rw [if_pos h1, if_pos h1]
    · rw [if_neg h1, if_neg h1]
      unfold madP at h
      rw [if_neg (show ¬ namP n t ≠ 0 by simpa using hn), if_neg h1] at h
      by_cases h2 : sta (g n.toNat) = 1
      · rw [if_neg (show ¬ sta (g n.toNat) ≠ 1 by simpa using h2)] at h
        exact absurd rfl h
      · rw [if_pos h2, if_pos (by rcases hs with x | x | x; exact absurd (Or.inl x) h1; exact absurd x h2; exact x)]
  · rw [if_pos hn, namP_ne hn, if_pos (by rcases nam_no hn with x | x; exact Or.inl x; exact Or.inr (Or.inl x))]
theorem made_good {n t s : Int} (h : madP g n t s = 0) : namP n t = 0 ∧ ¬ (sta (g n.toNat) = 0 ∨ too (g n.toNat) ≠ t) ∧ sta (g n.toNat) = s := by
  unfold madP at h
  split at h
  · rename_i h1; exact absurd h h1
  · rename_i h1
    split at h
    · cases h
    · rename_i h2
      split at h
      · cases h
      · rename_i h3
        exact ⟨by simpa using h1, h2, by simpa using h3⟩
theorem atP_some (g : Nat → GtT) (t p : Int) : decide (0 ≤ atP g t p) = (lst (isAt t p) g 32).isSome := by rw [← atP_eq, lsI_ge]
theorem acc_good {n t p : Int} (hp : ¬ (p < 0 ∨ 4095 < p)) (h : madP g n t 1 = 0) : accP g n t p = if (lst (isAt t p) g 32).isSome = true then (gz, 17, g) else ((2, own (g n.toNat), frm (g n.toNat), too (g n.toNat), p, wri (g n.toNat)), 0, upd g n.toNat (2, own (g n.toNat), frm (g n.toNat), too (g n.toNat), p, wri (g n.toNat))) := by
  obtain ⟨h1, h2, h3⟩ := made_good h
  unfold accP
  rw [if_neg (show ¬ (idk n = false ∨ gst t = false ∨ p < 0 ∨ 4095 < p) by rintro (x | x | x); exact idk_of h1 (Or.inl x); exact idk_of h1 (Or.inr x); exact hp x), if_neg h2, if_neg (by rw [h3]; decide)]
theorem lve_bad {n t : Int} (hg : Gv g) (h : madP g n t 2 ≠ 0) : lveP g n t = (gz, madP g n t 2, g) := by
  unfold lveP madP
  by_cases hn : namP n t = 0
  · have hs := (hg.at_k hn).st
    rw [if_neg (show ¬ namP n t ≠ 0 by simpa using hn), if_neg (idk_of hn)]
    by_cases h1 : sta (g n.toNat) = 0 ∨ too (g n.toNat) ≠ t
    · rw [if_pos h1, if_pos h1]
    · rw [if_neg h1, if_neg h1]
      unfold madP at h
      rw [if_neg (show ¬ namP n t ≠ 0 by simpa using hn), if_neg h1] at h
      by_cases h2 : sta (g n.toNat) = 2
      · rw [if_neg (show ¬ sta (g n.toNat) ≠ 2 by simpa using h2)] at h
        exact absurd rfl h
      · rw [if_pos h2, if_pos (by rcases hs with x | x | x; exact absurd (Or.inl x) h1; exact x; exact absurd x h2)]
  · rw [if_pos hn, namP_ne hn, if_pos (nam_no hn)]
theorem lve_good {n t : Int} (h : madP g n t 2 = 0) : lveP g n t = (g n.toNat, 0, upd g n.toNat (1, own (g n.toNat), frm (g n.toNat), too (g n.toNat), 0, wri (g n.toNat))) := by
  obtain ⟨h1, h2, h3⟩ := made_good h
  unfold lveP
  rw [if_neg (idk_of h1), if_neg h2, if_neg (by rw [h3]; decide)]
theorem rev_bad {n o : Int} (h : namP n o ≠ 0) : revP g n o = (gz, 11, g) := by unfold revP; rw [if_pos (nam_no h)]
theorem rev_good {n o : Int} (h : namP n o = 0) : revP g n o = if sta (g n.toNat) = 0 ∨ own (g n.toNat) ≠ o then (gz, 16, g) else (g n.toNat, 0, upd g n.toNat gz) := by unfold revP; rw [if_neg (idk_of h)]
end
theorem res_leave (tm : Array Value) (W : World) (b : Nat) (x : GtT) (code : Int) (h1 : tm[6]? = some (.pointer (some ⟨b, 0, none⟩))) (h2 : tm[7]? = some (.int .i64 code)) (X : Bx6 W b x) :
    (results Try.f19 tm).run Try.prog W = .ok (.tuple #[gV x, .int .i64 code]) W := by
  have c0 := X.c 0 (by omega)
  have c1 := X.c 1 (by omega)
  have c2 := X.c 2 (by omega)
  have c3 := X.c 3 (by omega)
  have c4 := X.c 4 (by omega)
  have c5 := X.c 5 (by omega)
  simp only [gC] at c0 c1 c2 c3 c4 c5
  simp [results, Try.results19, go_sem, h1, h2, c0, c1, c2, c3, c4, c5]
set_option maxRecDepth 100000 in
theorem leave_any (b : Nat) (n t : Int) (g : Nat → GtT) (w : World) (hR : Row6 w b g) (hg : Gv g) :
    Calls Try.prog 19 #[.pointer (some ⟨b, 0, none⟩), .int .i64 n, .int .i64 t] w fun e w' => e = .returned (.tuple #[gV (lveP g n t).1, .int .i64 (lveP g n t).2.1]) ∧ Row6 w' b (lveP g n t).2.2 ∧ Only [b] w w' := by
  have hz : ∀ w, (zeroValue 37).run Try.prog w = .ok (gV gz) w := fun _ => by kernel_rfl
  have hlt := hR.lt
  have X0 := Bx6.new w gz 37 rfl
  have O0 := Only.alloc [] w (.cells #[.int .i64 (sta gz), .int .i64 (own gz), .int .i64 (frm gz), .int .i64 (too gz), .int .i64 (pag gz), .bool (wri gz)] 37)
  have R1 := Lib.hid (hR.kept O0 (by simp))
  have O1 := Lib.hid O0
  have X1 := Lib.hid X0
  obtain ⟨ans, hans⟩ : ∃ ans, ans = lveP g n t := ⟨_, rfl⟩
  rw [← hans]
  clear hR O0 X0
  go_enter Try.func19, Try.ntmps19
  go_wp2_with fail
  generalize w.alloc (.cells #[.int .i64 (sta gz), .int .i64 (own gz), .int .i64 (frm gz), .int .i64 (too gz), .int .i64 (pag gz), .bool (wri gz)] 37) = u at *
  refine (made_any b n t 2 g u R1.out).mono ?_
  rintro e w1 ⟨rfl, hO⟩
  have R2 := Lib.hid (R1.out.kept hO (by simp))
  have O2 := Lib.hid (O1.out.trans hO)
  have X2 := Lib.hid (X1.out.kept hO (by simp))
  have l1 := R2.out.lt
  have l2 := X2.out.lt
  clear hO R1 O1 X1
  have x0 := X2.out.c 0 (by omega)
  have y0 := X2.out.fz 0 (by omega)
  have x1 := X2.out.c 1 (by omega)
  have y1 := X2.out.fz 1 (by omega)
  have x2 := X2.out.c 2 (by omega)
  have y2 := X2.out.fz 2 (by omega)
  have x3 := X2.out.c 3 (by omega)
  have y3 := X2.out.fz 3 (by omega)
  have x4 := X2.out.c 4 (by omega)
  have y4 := X2.out.fz 4 (by omega)
  have x5 := X2.out.c 5 (by omega)
  have y5 := X2.out.fz 5 (by omega)
  simp only [gC] at x0 x1 x2 x3 x4 x5
  by_cases hm : madP g n t 2 = 0
  · obtain rfl := hans.trans (lve_good hm)
    obtain ⟨k, rfl, hk⟩ := idk_nat (namP_zero (made_good hm).1).1
    simp only []
    rw [hm]
    clear hans hm hg
    have hne : w.heap.size ≠ b := by omega
    have k0 := R2.out.c0 hk
    have k1 := R2.out.c1 hk
    have k2 := R2.out.c2 hk
    have k3 := R2.out.c3 hk
    have k4 := R2.out.c4 hk
    have k5 := R2.out.c5 hk
    have f0 : w1.frozen? ⟨b, k * 6, none⟩ = false := R2.out.fz _ (by omega)
    have f1 : w1.frozen? ⟨b, k * 6 + 1, none⟩ = false := R2.out.fz _ (by omega)
    have f2 : w1.frozen? ⟨b, k * 6 + 2, none⟩ = false := R2.out.fz _ (by omega)
    have f3 : w1.frozen? ⟨b, k * 6 + 3, none⟩ = false := R2.out.fz _ (by omega)
    have f4 : w1.frozen? ⟨b, k * 6 + 4, none⟩ = false := R2.out.fz _ (by omega)
    have f5 : w1.frozen? ⟨b, k * 6 + 5, none⟩ = false := R2.out.fz _ (by omega)
    go_wp2_with fail
    have oZ : Only [b] w1 ((w1.setCell ⟨b, k * 6, none⟩ (.int .i64 1)).setCell ⟨b, k * 6 + 4, none⟩ (.int .i64 0)) := (Only.setCell w1 (by simp) _ _).trans (Only.setCell _ (by simp) _ _)
    have XF := (X2.out.kept oZ (by simp; omega)).set (g k)
    have oS := only_st6 ((w1.setCell ⟨b, k * 6, none⟩ (.int .i64 1)).setCell ⟨b, k * 6 + 4, none⟩ (.int .i64 0)) w.heap.size (g k)
    have RF := (R2.out.two hk 1 0).kept oS (by simp; omega)
    have OF := (((O2.out.mono (S' := [b, w.heap.size]) (by simp)).trans ((oZ.mono (S' := [b, w.heap.size]) (by simp)).trans (oS.mono (S' := [b, w.heap.size]) (by simp)))).back (S' := [b]) (n := w.heap.size) (by simp) (Nat.le_refl _))
    refine bodyPost_ret (v := .tuple #[gV (g k), .int .i64 0]) (res_leave _ _ w.heap.size (g k) 0 rfl rfl (XF.kept (Only.alloc [] _ _) (by simp))) rfl ⟨rfl, RF.kept (Only.alloc [] _ _) (by simp), OF.trans (Only.alloc _ _ _)⟩
  · obtain rfl := hans.trans (lve_bad hg hm)
    clear hans hg
    have dm : (madP g n t 2 != 0) = true := by simpa using hm
    go_wp2_with fail
    have XF := X2.out.set gz
    have oS := only_st6 w1 w.heap.size gz
    have RF := R2.out.kept oS (by simp; omega)
    have OF := (((O2.out.mono (S' := [b, w.heap.size]) (by simp)).trans (oS.mono (S' := [b, w.heap.size]) (by simp))).back (S' := [b]) (n := w.heap.size) (by simp) (Nat.le_refl _))
    refine bodyPost_ret (v := .tuple #[gV gz, .int .i64 (madP g n t 2)]) (res_leave _ _ w.heap.size gz (madP g n t 2) rfl rfl XF) rfl ⟨rfl, RF, OF⟩
theorem res_revoke (tm : Array Value) (W : World) (b : Nat) (x : GtT) (code : Int) (h1 : tm[6]? = some (.pointer (some ⟨b, 0, none⟩))) (h2 : tm[7]? = some (.int .i64 code)) (X : Bx6 W b x) :
    (results Try.f20 tm).run Try.prog W = .ok (.tuple #[gV x, .int .i64 code]) W := by
  have c0 := X.c 0 (by omega)
  have c1 := X.c 1 (by omega)
  have c2 := X.c 2 (by omega)
  have c3 := X.c 3 (by omega)
  have c4 := X.c 4 (by omega)
  have c5 := X.c 5 (by omega)
  simp only [gC] at c0 c1 c2 c3 c4 c5
  simp [results, Try.results20, go_sem, h1, h2, c0, c1, c2, c3, c4, c5]
set_option maxRecDepth 100000 in
theorem revoke_any (b : Nat) (n t : Int) (g : Nat → GtT) (w : World) (hR : Row6 w b g) :
    Calls Try.prog 20 #[.pointer (some ⟨b, 0, none⟩), .int .i64 n, .int .i64 t] w fun e w' => e = .returned (.tuple #[gV (revP g n t).1, .int .i64 (revP g n t).2.1]) ∧ Row6 w' b (revP g n t).2.2 ∧ Only [b] w w' := by
  have hz : ∀ w, (zeroValue 37).run Try.prog w = .ok (gV gz) w := fun _ => by kernel_rfl
  have hlt := hR.lt
  have X0 := Bx6.new w gz 37 rfl
  have O0 := Only.alloc [] w (.cells #[.int .i64 (sta gz), .int .i64 (own gz), .int .i64 (frm gz), .int .i64 (too gz), .int .i64 (pag gz), .bool (wri gz)] 37)
  have R1 := Lib.hid (hR.kept O0 (by simp))
  have O1 := Lib.hid O0
  have X1 := Lib.hid X0
  obtain ⟨ans, hans⟩ : ∃ ans, ans = revP g n t := ⟨_, rfl⟩
  rw [← hans]
  clear hR O0 X0
  go_enter Try.func20, Try.ntmps20
  go_wp2_with fail
  generalize w.alloc (.cells #[.int .i64 (sta gz), .int .i64 (own gz), .int .i64 (frm gz), .int .i64 (too gz), .int .i64 (pag gz), .bool (wri gz)] 37) = u at *
  refine (named_any b n t u).mono ?_
  rintro e w1 ⟨rfl, rfl⟩
  have R2 := R1
  have O2 := O1
  have X2 := X1
  have l1 := R2.out.lt
  have l2 := X2.out.lt
  clear R1 O1 X1
  have x0 := X2.out.c 0 (by omega)
  have y0 := X2.out.fz 0 (by omega)
  have x1 := X2.out.c 1 (by omega)
  have y1 := X2.out.fz 1 (by omega)
  have x2 := X2.out.c 2 (by omega)
  have y2 := X2.out.fz 2 (by omega)
  have x3 := X2.out.c 3 (by omega)
  have y3 := X2.out.fz 3 (by omega)
  have x4 := X2.out.c 4 (by omega)
  have y4 := X2.out.fz 4 (by omega)
  have x5 := X2.out.c 5 (by omega)
  have y5 := X2.out.fz 5 (by omega)
  simp only [gC] at x0 x1 x2 x3 x4 x5
  by_cases hm : namP n t = 0
  · have hr := rev_good (g := g) hm
    obtain ⟨k, rfl, hk⟩ := idk_nat (namP_zero hm).1
    simp only [Int.toNat_natCast] at hr
    rw [hm]
    clear hm
    have hne : w.heap.size ≠ b := by omega
    have HR := Lib.hid hr
    clear hr
    have k0 := R2.out.c0 hk
    have k1 := R2.out.c1 hk
    have k2 := R2.out.c2 hk
    have k3 := R2.out.c3 hk
    have k4 := R2.out.c4 hk
    have k5 := R2.out.c5 hk
    have f0 : u.frozen? ⟨b, k * 6, none⟩ = false := R2.out.fz _ (by omega)
    have f1 : u.frozen? ⟨b, k * 6 + 1, none⟩ = false := R2.out.fz _ (by omega)
    have f2 : u.frozen? ⟨b, k * 6 + 2, none⟩ = false := R2.out.fz _ (by omega)
    have f3 : u.frozen? ⟨b, k * 6 + 3, none⟩ = false := R2.out.fz _ (by omega)
    have f4 : u.frozen? ⟨b, k * 6 + 4, none⟩ = false := R2.out.fz _ (by omega)
    have f5 : u.frozen? ⟨b, k * 6 + 5, none⟩ = false := R2.out.fz _ (by omega)
    cases d0 : sta (g k) == 0 with
    | true =>
      obtain rfl := hans.trans (HR.out.trans (if_pos (Or.inl (by simpa using d0))))
      clear hans
      go_wp2_with fail
      have XF := X2.out.set gz
      have oS := only_st6 u w.heap.size gz
      have RF := R2.out.kept oS (by simp; omega)
      have OF := (((O2.out.mono (S' := [b, w.heap.size]) (by simp)).trans (oS.mono (S' := [b, w.heap.size]) (by simp))).back (S' := [b]) (n := w.heap.size) (by simp) (Nat.le_refl _))
      refine bodyPost_ret (v := .tuple #[gV gz, .int .i64 (16)]) (res_revoke _ _ w.heap.size gz (16) rfl rfl (XF.kept (Only.alloc [] _ _) (by simp))) rfl ⟨rfl, RF.kept (Only.alloc [] _ _) (by simp), OF.trans (Only.alloc _ _ _)⟩
    | false =>
      cases d1 : own (g k) != t with
      | true =>
        obtain rfl := hans.trans (HR.out.trans (if_pos (Or.inr (by simpa using d1))))
        clear hans
        go_wp2_with fail
        have XF := X2.out.set gz
        have oS := only_st6 u w.heap.size gz
        have RF := R2.out.kept oS (by simp; omega)
        have OF := (((O2.out.mono (S' := [b, w.heap.size]) (by simp)).trans (oS.mono (S' := [b, w.heap.size]) (by simp))).back (S' := [b]) (n := w.heap.size) (by simp) (Nat.le_refl _))
        refine bodyPost_ret (v := .tuple #[gV gz, .int .i64 (16)]) (res_revoke _ _ w.heap.size gz (16) rfl rfl (XF.kept (Only.alloc [] _ _) (by simp))) rfl ⟨rfl, RF.kept (Only.alloc [] _ _) (by simp), OF.trans (Only.alloc _ _ _)⟩
      | false =>
        obtain rfl := hans.trans (HR.out.trans (if_neg (by simp only [not_or]; exact ⟨by simpa using d0, by simpa using d1⟩)))
        clear hans
        have oA := Only.alloc [] u (.cells #[.int .i64 (sta (g k)), .int .i64 (own (g k)), .int .i64 (frm (g k)), .int .i64 (too (g k)), .int .i64 (pag (g k)), .bool (wri (g k))] 37)
        have R3 := Lib.hid (R2.out.kept oA (by simp))
        have X3 := Lib.hid (X2.out.kept oA (by simp))
        have O3 := Lib.hid (O2.out.trans oA)
        clear oA
        go_wp2_with fail
        generalize u.alloc (.cells #[.int .i64 (sta (g k)), .int .i64 (own (g k)), .int .i64 (frm (g k)), .int .i64 (too (g k)), .int .i64 (pag (g k)), .bool (wri (g k))] 37) = u2 at *
        clear R2 O2 X2 x0 x1 x2 x3 x4 x5 y0 y1 y2 y3 y4 y5 k0 k1 k2 k3 k4 k5 f0 f1 f2 f3 f4 f5
        refine (free_any b k g u2 R3.out hk).mono ?_
        rintro e w2 ⟨rfl, hR4, hO4⟩
        have R2 := Lib.hid hR4
        have X2 := Lib.hid (X3.out.kept hO4 (by simp; omega))
        have O2 := Lib.hid ((O3.out.mono (S' := [b]) (by simp)).trans hO4)
        have l3 := X2.out.lt
        clear hR4 hO4 R3 X3 O3
        have x0 := X2.out.c 0 (by omega)
        have y0 := X2.out.fz 0 (by omega)
        have x1 := X2.out.c 1 (by omega)
        have y1 := X2.out.fz 1 (by omega)
        have x2 := X2.out.c 2 (by omega)
        have y2 := X2.out.fz 2 (by omega)
        have x3 := X2.out.c 3 (by omega)
        have y3 := X2.out.fz 3 (by omega)
        have x4 := X2.out.c 4 (by omega)
        have y4 := X2.out.fz 4 (by omega)
        have x5 := X2.out.c 5 (by omega)
        have y5 := X2.out.fz 5 (by omega)
        simp only [gC] at x0 x1 x2 x3 x4 x5
        go_wp2_with fail
        have XF := X2.out.set (g k)
        have oS := only_st6 w2 w.heap.size (g k)
        have RF := R2.out.kept oS (by simp; omega)
        have OF := (((O2.out.mono (S' := [b, w.heap.size]) (by simp)).trans (oS.mono (S' := [b, w.heap.size]) (by simp))).back (S' := [b]) (n := w.heap.size) (by simp) (Nat.le_refl _))
        refine bodyPost_ret (v := .tuple #[gV (g k), .int .i64 (0)]) (res_revoke _ _ w.heap.size (g k) (0) rfl rfl XF) rfl ⟨rfl, RF, OF⟩
  · obtain rfl := hans.trans (rev_bad hm)
    rw [namP_ne hm]
    clear hans hm
    go_wp2_with fail
    have XF := X2.out.set gz
    have oS := only_st6 u w.heap.size gz
    have RF := R2.out.kept oS (by simp; omega)
    have OF := (((O2.out.mono (S' := [b, w.heap.size]) (by simp)).trans (oS.mono (S' := [b, w.heap.size]) (by simp))).back (S' := [b]) (n := w.heap.size) (by simp) (Nat.le_refl _))
    refine bodyPost_ret (v := .tuple #[gV gz, .int .i64 (11)]) (res_revoke _ _ w.heap.size gz (11) rfl rfl XF) rfl ⟨rfl, RF, OF⟩
theorem res_accept (tm : Array Value) (W : World) (b : Nat) (x : GtT) (code : Int) (h1 : tm[8]? = some (.pointer (some ⟨b, 0, none⟩))) (h2 : tm[9]? = some (.int .i64 code)) (X : Bx6 W b x) :
    (results Try.f18 tm).run Try.prog W = .ok (.tuple #[gV x, .int .i64 code]) W := by
  have c0 := X.c 0 (by omega)
  have c1 := X.c 1 (by omega)
  have c2 := X.c 2 (by omega)
  have c3 := X.c 3 (by omega)
  have c4 := X.c 4 (by omega)
  have c5 := X.c 5 (by omega)
  simp only [gC] at c0 c1 c2 c3 c4 c5
  simp [results, Try.results18, go_sem, h1, h2, c0, c1, c2, c3, c4, c5]
set_option maxRecDepth 100000 in
theorem accept_any (b : Nat) (n t p : Int) (g : Nat → GtT) (w : World) (hR : Row6 w b g) (hg : Gv g) :
    Calls Try.prog 18 #[.pointer (some ⟨b, 0, none⟩), .int .i64 n, .int .i64 t, .int .i64 p] w fun e w' => e = .returned (.tuple #[gV (accP g n t p).1, .int .i64 (accP g n t p).2.1]) ∧ Row6 w' b (accP g n t p).2.2 ∧ Only [b] w w' := by
  have hz : ∀ w, (zeroValue 37).run Try.prog w = .ok (gV gz) w := fun _ => by kernel_rfl
  have hlt := hR.lt
  have X0 := Bx6.new w gz 37 rfl
  have O0 := Only.alloc [] w (.cells #[.int .i64 (sta gz), .int .i64 (own gz), .int .i64 (frm gz), .int .i64 (too gz), .int .i64 (pag gz), .bool (wri gz)] 37)
  have R1 := Lib.hid (hR.kept O0 (by simp))
  have RA := R1
  have O1 := Lib.hid O0
  have X1 := Lib.hid X0
  obtain ⟨ans, hans⟩ : ∃ ans, ans = accP g n t p := ⟨_, rfl⟩
  rw [← hans]
  clear hR O0 X0
  by_cases p0 : p < 0
  · have dp : decide (p < 0) = true := decide_eq_true p0
    obtain rfl := hans.trans (acc_page (Or.inl p0))
    clear hans hg R1
    go_enter Try.func18, Try.ntmps18
    go_wp2_with fail
    refine bodyPost_ret (v := .tuple #[gV gz, .int .i64 11]) (res_accept _ _ w.heap.size gz 11 rfl rfl X1.out) rfl ⟨rfl, RA.out, (O1.out.mono (S' := [b]) (by simp))⟩
  by_cases p1 : 4095 < p
  · have dp : decide (p < 0) = false := decide_eq_false p0
    have dq : decide (4096 ≤ p) = true := decide_eq_true (by omega)
    obtain rfl := hans.trans (acc_page (Or.inr p1))
    clear hans hg R1
    go_enter Try.func18, Try.ntmps18
    go_wp2_with fail
    refine bodyPost_ret (v := .tuple #[gV gz, .int .i64 11]) (res_accept _ _ w.heap.size gz 11 rfl rfl X1.out) rfl ⟨rfl, RA.out, (O1.out.mono (S' := [b]) (by simp))⟩
  have hp : ¬ (p < 0 ∨ 4095 < p) := by omega
  have dp : decide (p < 0) = false := decide_eq_false p0
  have dq : decide (4096 ≤ p) = false := decide_eq_false (by omega)
  clear p0 p1 RA
  go_enter Try.func18, Try.ntmps18
  go_wp2_with fail
  generalize w.alloc (.cells #[.int .i64 (sta gz), .int .i64 (own gz), .int .i64 (frm gz), .int .i64 (too gz), .int .i64 (pag gz), .bool (wri gz)] 37) = u at *
  refine (made_any b n t 1 g u R1.out).mono ?_
  rintro e w1 ⟨rfl, hO⟩
  have R2 := Lib.hid (R1.out.kept hO (by simp))
  have O2 := Lib.hid (O1.out.trans hO)
  have X2 := Lib.hid (X1.out.kept hO (by simp))
  have l1 := R2.out.lt
  have l2 := X2.out.lt
  clear hO R1 O1 X1
  by_cases hm : madP g n t 1 = 0
  · have ha := acc_good hp hm
    obtain ⟨k, rfl, hk⟩ := idk_nat (namP_zero (made_good hm).1).1
    simp only [Int.toNat_natCast] at ha
    rw [hm]
    clear hm hg hp
    have hne : w.heap.size ≠ b := by omega
    have HA := Lib.hid ha
    clear ha
    go_wp2_with fail
    refine (at_any b t p g w1 R2.out).mono ?_
    rintro e w2 ⟨rfl, hO⟩
    have R3 := Lib.hid (R2.out.kept hO (by simp))
    have O3 := Lib.hid (O2.out.trans hO)
    have X3 := Lib.hid (X2.out.kept hO (by simp))
    have l3 := R3.out.lt
    have l4 := X3.out.lt
    have DA := Lib.hid (atP_some g t p)
    clear hO R2 O2 X2 l1 l2
    have R2 := R3
    have O2 := O3
    have X2 := X3
    clear R3 O3 X3
    generalize atP g t p = q at *
    have x0 := X2.out.c 0 (by omega)
    have y0 := X2.out.fz 0 (by omega)
    have x1 := X2.out.c 1 (by omega)
    have y1 := X2.out.fz 1 (by omega)
    have x2 := X2.out.c 2 (by omega)
    have y2 := X2.out.fz 2 (by omega)
    have x3 := X2.out.c 3 (by omega)
    have y3 := X2.out.fz 3 (by omega)
    have x4 := X2.out.c 4 (by omega)
    have y4 := X2.out.fz 4 (by omega)
    have x5 := X2.out.c 5 (by omega)
    have y5 := X2.out.fz 5 (by omega)
    simp only [gC] at x0 x1 x2 x3 x4 x5
    have k0 := R2.out.c0 hk
    have k1 := R2.out.c1 hk
    have k2 := R2.out.c2 hk
    have k3 := R2.out.c3 hk
    have k4 := R2.out.c4 hk
    have k5 := R2.out.c5 hk
    have f0 : w2.frozen? ⟨b, k * 6, none⟩ = false := R2.out.fz _ (by omega)
    have f1 : w2.frozen? ⟨b, k * 6 + 1, none⟩ = false := R2.out.fz _ (by omega)
    have f2 : w2.frozen? ⟨b, k * 6 + 2, none⟩ = false := R2.out.fz _ (by omega)
    have f3 : w2.frozen? ⟨b, k * 6 + 3, none⟩ = false := R2.out.fz _ (by omega)
    have f4 : w2.frozen? ⟨b, k * 6 + 4, none⟩ = false := R2.out.fz _ (by omega)
    have f5 : w2.frozen? ⟨b, k * 6 + 5, none⟩ = false := R2.out.fz _ (by omega)
    cases hb : (lst (isAt t p) g 32).isSome with
    | true =>
      obtain rfl := hans.trans (HA.out.trans (if_pos hb))
      have dd := DA.out.trans hb
      clear hans hb
      go_wp2_with fail
      have XF := X2.out.set gz
      have oS := only_st6 w2 w.heap.size gz
      have RF := R2.out.kept oS (by simp; omega)
      have OF := (((O2.out.mono (S' := [b, w.heap.size]) (by simp)).trans (oS.mono (S' := [b, w.heap.size]) (by simp))).back (S' := [b]) (n := w.heap.size) (by simp) (Nat.le_refl _))
      refine bodyPost_ret (v := .tuple #[gV gz, .int .i64 (17)]) (res_accept _ _ w.heap.size gz (17) rfl rfl XF) rfl ⟨rfl, RF, OF⟩
    | false =>
      obtain rfl := hans.trans (HA.out.trans (if_neg (by rw [hb]; decide)))
      have dd := DA.out.trans hb
      clear hans hb
      go_wp2_with fail
      have oZ : Only [b] w2 ((w2.setCell ⟨b, k * 6, none⟩ (.int .i64 2)).setCell ⟨b, k * 6 + 4, none⟩ (.int .i64 p)) := (Only.setCell w2 (by simp) _ _).trans (Only.setCell _ (by simp) _ _)
      have XF := (X2.out.kept oZ (by simp; omega)).set (2, own (g k), frm (g k), too (g k), p, wri (g k))
      have oS := only_st6 ((w2.setCell ⟨b, k * 6, none⟩ (.int .i64 2)).setCell ⟨b, k * 6 + 4, none⟩ (.int .i64 p)) w.heap.size (2, own (g k), frm (g k), too (g k), p, wri (g k))
      have RF := (R2.out.two hk 2 p).kept oS (by simp; omega)
      have OF := (((O2.out.mono (S' := [b, w.heap.size]) (by simp)).trans ((oZ.mono (S' := [b, w.heap.size]) (by simp)).trans (oS.mono (S' := [b, w.heap.size]) (by simp)))).back (S' := [b]) (n := w.heap.size) (by simp) (Nat.le_refl _))
      refine bodyPost_ret (v := .tuple #[gV (2, own (g k), frm (g k), too (g k), p, wri (g k)), .int .i64 0]) (res_accept _ _ w.heap.size (2, own (g k), frm (g k), too (g k), p, wri (g k)) 0 rfl rfl XF) rfl ⟨rfl, RF, OF⟩
  · obtain rfl := hans.trans ((acc_bad hg hm).resolve_right hp)
    clear hans hg hp
    have dm : (madP g n t 1 != 0) = true := by simpa using hm
    have x0 := X2.out.c 0 (by omega)
    have y0 := X2.out.fz 0 (by omega)
    have x1 := X2.out.c 1 (by omega)
    have y1 := X2.out.fz 1 (by omega)
    have x2 := X2.out.c 2 (by omega)
    have y2 := X2.out.fz 2 (by omega)
    have x3 := X2.out.c 3 (by omega)
    have y3 := X2.out.fz 3 (by omega)
    have x4 := X2.out.c 4 (by omega)
    have y4 := X2.out.fz 4 (by omega)
    have x5 := X2.out.c 5 (by omega)
    have y5 := X2.out.fz 5 (by omega)
    simp only [gC] at x0 x1 x2 x3 x4 x5
    go_wp2_with fail
    have XF := X2.out.set gz
    have oS := only_st6 w1 w.heap.size gz
    have RF := R2.out.kept oS (by simp; omega)
    have OF := (((O2.out.mono (S' := [b, w.heap.size]) (by simp)).trans (oS.mono (S' := [b, w.heap.size]) (by simp))).back (S' := [b]) (n := w.heap.size) (by simp) (Nat.le_refl _))
    refine bodyPost_ret (v := .tuple #[gV gz, .int .i64 (madP g n t 1)]) (res_accept _ _ w.heap.size gz (madP g n t 1) rfl rfl XF) rfl ⟨rfl, RF, OF⟩

theorem off_range {g : Nat → GtT} {o f t : Int} {v : Bool} (h : gst o = false ∨ gst t = false ∨ o = t ∨ f < 0) : offP g o f t v = (-1, 11, g) := by unfold offP; rw [if_pos h]
theorem off_in {g : Nat → GtT} {o f t : Int} {v : Bool} (h1 : gst o = true) (h2 : gst t = true) (h3 : o ≠ t) (h4 : 0 ≤ f) : offP g o f t v = if (lst (isSame o f t) g 32).isSome = true then ((-1, 13, g) : Int × Int × (Nat → GtT)) else match lst isFree g 32 with
    | none => (-1, 15, g)
    | some i => ((i : Int), 0, upd g i (1, o, f, t, 0, v)) := by
  unfold offP
  rw [if_neg (by rw [h1, h2]; simp only [Bool.true_eq_false, false_or, not_or]; exact ⟨h3, by omega⟩)]
  rfl
set_option maxRecDepth 100000 in
theorem offer_any (b : Nat) (o f t : Int) (v : Bool) (g : Nat → GtT) (w : World) (hR : Row6 w b g) :
    Calls Try.prog 17 #[.pointer (some ⟨b, 0, none⟩), .int .i64 o, .int .i64 f, .int .i64 t, .bool v] w fun e w' => e = .returned (.tuple #[.int .i64 (offP g o f t v).1, .int .i64 (offP g o f t v).2.1]) ∧ Row6 w' b (offP g o f t v).2.2 ∧ Only [b] w w' := by
  have hlt := hR.lt
  have b0 := Bx1.new2 w (.int .i64 o) 3 (b := w.heap.size) (by simp)
  have o0 := Only.alloc [] w (.cells #[.int .i64 o] 3)
  have b1 := Bx1.new2 (w.alloc (.cells #[.int .i64 o] 3)) (.int .i64 f) 3 (b := w.heap.size + 1) (by simp)
  have o1 := Only.alloc [] (w.alloc (.cells #[.int .i64 o] 3)) (.cells #[.int .i64 f] 3)
  have b2 := Bx1.new2 ((w.alloc (.cells #[.int .i64 o] 3)).alloc (.cells #[.int .i64 f] 3)) (.int .i64 t) 3 (b := w.heap.size + 2) (by simp)
  have o2 := Only.alloc [] ((w.alloc (.cells #[.int .i64 o] 3)).alloc (.cells #[.int .i64 f] 3)) (.cells #[.int .i64 t] 3)
  have O := Lib.hid ((o0.trans (o1.trans o2)))
  have B0 := Lib.hid (b0.kept (o1.trans o2) (by simp))
  have B1 := Lib.hid (b1.kept o2 (by simp))
  have B2 := Lib.hid (b2)
  have R1 := Lib.hid (hR.kept O.out (by simp))
  clear b0 o0 b1 o1 b2 o2 hR
  have hmf : ∀ (fn : Fn) (first cap : Array Value) (w : World), (Instr.makeFunc fn first cap).run Try.prog w = .ok (.func fn first cap) w := fun _ _ _ _ => rfl
  have kb0 := B0.out.c
  have kb1 := B1.out.c
  have kb2 := B2.out.c
  have jb0 := B0.out.lt
  have jb1 := B1.out.lt
  have jb2 := B2.out.lt
  obtain ⟨ans, hans⟩ : ∃ ans, ans = offP g o f t v := ⟨_, rfl⟩
  rw [← hans]
  cases g1 : gst o with
  | false =>
    obtain rfl := hans.trans (off_range (Or.inl g1))
    clear hans
    go_enter Try.func17, Try.ntmps17
    go_wp2_with (first | (go_at_call 29; with_reducible refine (guest_any o _).mono ?_; rintro e w1 ⟨rfl, rfl⟩; rw [g1]))
    go_ret2
    exact ⟨rfl, R1.out, O.out.mono (S' := [b]) (by simp)⟩
  | true =>
  cases g2 : gst t with
  | false =>
    obtain rfl := hans.trans (off_range (Or.inr (Or.inl g2)))
    clear hans
    go_enter Try.func17, Try.ntmps17
    go_wp2_with (first | (go_at_call 29; with_reducible refine (guest_any o _).mono ?_; rintro e w1 ⟨rfl, rfl⟩; rw [g1]) | (go_at_call 29; with_reducible refine (guest_any t _).mono ?_; rintro e w1 ⟨rfl, rfl⟩; rw [g2]))
    go_ret2
    exact ⟨rfl, R1.out, O.out.mono (S' := [b]) (by simp)⟩
  | true =>
  by_cases h3 : o = t
  · subst h3
    obtain rfl := hans.trans (off_range (Or.inr (Or.inr (Or.inl rfl))))
    clear hans
    go_enter Try.func17, Try.ntmps17
    go_wp2_with (first | (go_at_call 29; with_reducible refine (guest_any o _).mono ?_; rintro e w1 ⟨rfl, rfl⟩; rw [g1]))
    go_ret2
    exact ⟨rfl, R1.out, O.out.mono (S' := [b]) (by simp)⟩
  have d3 : (o == t) = false := by simpa using h3
  by_cases h4 : f < 0
  · have d4 : decide (f < 0) = true := decide_eq_true h4
    obtain rfl := hans.trans (off_range (Or.inr (Or.inr (Or.inr h4))))
    clear hans
    go_enter Try.func17, Try.ntmps17
    go_wp2_with (first | (go_at_call 29; with_reducible refine (guest_any o _).mono ?_; rintro e w1 ⟨rfl, rfl⟩; rw [g1]) | (go_at_call 29; with_reducible refine (guest_any t _).mono ?_; rintro e w1 ⟨rfl, rfl⟩; rw [g2]))
    go_ret2
    exact ⟨rfl, R1.out, O.out.mono (S' := [b]) (by simp)⟩
  have d4 : decide (f < 0) = false := decide_eq_false h4
  have hin := off_in (g := g) (f := f) (v := v) g1 g2 h3 (by omega)
  have HIN := Lib.hid hin
  clear hin h3 h4
  go_enter Try.func17, Try.ntmps17
  go_wp2_with (first | (go_at_call 29; with_reducible refine (guest_any o _).mono ?_; rintro e w1 ⟨rfl, rfl⟩; rw [g1]) | (go_at_call 29; with_reducible refine (guest_any t _).mono ?_; rintro e w1 ⟨rfl, rfl⟩; rw [g2]))
  generalize ((w.alloc (.cells #[.int .i64 o] 3)).alloc (.cells #[.int .i64 f] 3)).alloc (.cells #[.int .i64 t] 3) = u at *
  refine (find_any 30 #[.pointer (some ⟨w.heap.size, 0, none⟩), .pointer (some ⟨w.heap.size + 1, 0, none⟩), .pointer (some ⟨w.heap.size + 2, 0, none⟩)] (isSame o f t) b g u R1.out (fun _ _ => by kernel_rfl) (fun y x hO => ?_)).mono ?_
  · exact off1_any x o f t _ _ _ y (B0.out.kept hO (by simp)) (B1.out.kept hO (by simp)) (B2.out.kept hO (by simp))
  rintro e w1 ⟨rfl, hO⟩
  have O2 := Lib.hid (O.out.trans hO)
  have R2 := Lib.hid (R1.out.kept hO (by simp))
  have C0 := Lib.hid (B0.out.kept hO (by simp))
  have C1 := Lib.hid (B1.out.kept hO (by simp))
  have C2 := Lib.hid (B2.out.kept hO (by simp))
  have DA := Lib.hid (lsI_ge (lst (isSame o f t) g 32))
  clear hO O R1 B0 B1 B2 kb0 kb1 kb2 jb0 jb1 jb2
  generalize lsI (lst (isSame o f t) g 32) = q at *
  cases hs : (lst (isSame o f t) g 32).isSome with
  | true =>
    obtain rfl := hans.trans (HIN.out.trans (if_pos hs))
    have dd := DA.out.trans hs
    clear hans hs
    go_wp2_with fail
    go_ret2
    exact ⟨rfl, R2.out, O2.out.mono (S' := [b]) (by simp)⟩
  | false =>
  have hj := HIN.out.trans (if_neg (by rw [hs]; decide))
  have dd := DA.out.trans hs
  have HJ := Lib.hid hj
  clear hs hj HIN DA
  go_wp2_with fail
  refine (find_any 31 #[] isFree b g w1 R2.out (fun _ _ => by kernel_rfl) (fun y x _ => off2_any x y)).mono ?_
  rintro e w2 ⟨rfl, hO⟩
  have O3 := Lib.hid (O2.out.trans hO)
  have R3 := Lib.hid (R2.out.kept hO (by simp))
  have c0 := (C0.out.kept hO (by simp)).c
  have c1 := (C1.out.kept hO (by simp)).c
  have c2 := (C2.out.kept hO (by simp)).c
  have hlt2 := R3.out.lt
  clear hO O2 R2 C0 C1 C2 dd
  cases hl : lst isFree g 32 with
  | none =>
    have hq := HJ.out
    rw [hl] at hq
    obtain rfl := hans.trans hq
    clear hans hq hl
    simp only [lsI]
    go_wp2_with fail
    go_ret2
    exact ⟨rfl, R3.out, O3.out.mono (S' := [b]) (by simp)⟩
  | some i =>
    have hi := (lst_some hl).1
    have hq := HJ.out
    rw [hl] at hq
    obtain rfl := hans.trans hq
    clear hans hq hl
    simp only [lsI]
    have hneg : ¬ (i : Int) < 0 := by omega
    have hii : (i : Int) < 32 := by omega
    have k0 := R3.out.c0 hi
    have k1 := R3.out.c1 hi
    have k2 := R3.out.c2 hi
    have k3 := R3.out.c3 hi
    have k4 := R3.out.c4 hi
    have k5 := R3.out.c5 hi
    have f0 : w2.frozen? ⟨b, i * 6, none⟩ = false := R3.out.fz _ (by omega)
    have f1 : w2.frozen? ⟨b, i * 6 + 1, none⟩ = false := R3.out.fz _ (by omega)
    have f2 : w2.frozen? ⟨b, i * 6 + 2, none⟩ = false := R3.out.fz _ (by omega)
    have f3 : w2.frozen? ⟨b, i * 6 + 3, none⟩ = false := R3.out.fz _ (by omega)
    have f4 : w2.frozen? ⟨b, i * 6 + 4, none⟩ = false := R3.out.fz _ (by omega)
    have f5 : w2.frozen? ⟨b, i * 6 + 5, none⟩ = false := R3.out.fz _ (by omega)
    have D1 := Only.drewN [] (set6 w2 b i (1, o, f, t, 0, v)) 1
    have RF : Hid (Row6 (set6 w2 b i (1, o, f, t, 0, v)).drew b (upd g i (1, o, f, t, 0, v))) := Lib.hid ((R3.out.set hi (1, o, f, t, 0, v)).kept D1 (by simp))
    have OF : Hid (Only [b] w (set6 w2 b i (1, o, f, t, 0, v)).drew) := Lib.hid ((O3.out.mono (S' := [b]) (by simp)).trans ((only_set6 w2 b i (1, o, f, t, 0, v)).trans (D1.mono (by simp))))
    clear D1 R3 O3
    unfold set6 at RF OF
    go_wp2_with fail
    go_region
    clear c0 c1 c2 k0 k1 k2 k3 k4 k5 f0 f1 f2 f3 f4 f5
    go_wp2_with fail
    go_ret2
    exact ⟨rfl, RF.out, OF.out⟩
end Gr
end Go.Proofs.Ytnilcmmilplbgaa
