/-
  What grant's New, Get, May, At, named, made and free answer, and leave. Conditions: that the grants lie there.
-/
import Derived.Test.YtnilcmmilplbgaaGrFind
namespace Go.Proofs.Ytnilcmmilplbgaa
open Go.RowKit
namespace Gr
open Ph (Only)
theorem cells6 (n : Nat) (x : GtT) {i k : Nat} (hi : i < n) (hk : k < 6) : (madeCells #[.int .i64 (sta x), .int .i64 (own x), .int .i64 (frm x), .int .i64 (too x), .int .i64 (pag x), .bool (wri x)] (n * 6))[i * 6 + k]? = some (gC x k) := by
  unfold madeCells
  rw [Array.getElem?_map, Array.getElem?_range, if_pos (show i * 6 + k < n * 6 by omega)]
  have e : (i * 6 + k) % 6 = k := by omega
  simp [e]
  match k, hk with
  | 0, _ => rfl
  | 1, _ => rfl
  | 2, _ => rfl
  | 3, _ => rfl
  | 4, _ => rfl
  | 5, _ => rfl
def zG : Array Value := madeCells #[.int .i64 0, .int .i64 0, .int .i64 0, .int .i64 0, .int .i64 0, .bool false] 192
theorem zeroG (w : World) : (zeroValue 54).run Try.prog w = .ok (.agg zG) w := by kernel_rfl
theorem row_made (w : World) (t : TypeId) : Row6 (w.alloc (.cells zG t)) w.heap.size (fun _ => gz) := by
  refine ⟨by simp, fun i k hi hk => ?_, fun j _ => World.frozen?_alloc_new w _ _ _⟩
  rw [World.cell?_alloc_new]
  exact cells6 32 gz hi hk
theorem new_any (w : World) :
    Calls Try.prog 9 #[] w fun e w' => e = .returned (.pointer (some ⟨w.heap.size, 0, none⟩)) ∧ Row6 w' w.heap.size (fun _ => gz) ∧ Only [] w w' := by
  have hz := fun w => zeroG w
  go_enter Try.func9, Try.ntmps9
  go_wp2
  go_ret
  exact ⟨rfl, row_made w _, Only.alloc _ _ _⟩
theorem Bx1.new2 (w : World) (v : Value) (t : TypeId) {b : Nat} (hb : b = w.heap.size) : Bx1 (w.alloc (.cells #[v] t)) b v := by subst hb; exact Bx1.new w v t
theorem lsI_ge (o : Option Nat) : decide (0 ≤ lsI o) = o.isSome := by
  cases o with
  | none => rfl
  | some i => simp [lsI]
theorem lsI_lt (o : Option Nat) : decide (lsI o < 0) = !o.isSome := by
  cases o with
  | none => rfl
  | some i => exact decide_eq_false (show ¬ (i : Int) < 0 by omega)
theorem atP_eq (g : Nat → GtT) (t p : Int) : lsI (lst (isAt t p) g 32) = atP g t p := by unfold atP lsI; cases lst (isAt t p) g 32 <;> rfl
set_option maxRecDepth 100000 in
theorem may_any (b : Nat) (t f : Int) (v : Bool) (g : Nat → GtT) (w : World) (hR : Row6 w b g) :
    Calls Try.prog 14 #[.pointer (some ⟨b, 0, none⟩), .int .i64 t, .int .i64 f, .bool v] w fun e w' => e = .returned (.bool (mayP g t f v)) ∧ Only [] w w' := by
  have b0 := Bx1.new2 w (.int .i64 t) 3 (b := w.heap.size) (by simp)
  have o0 := Only.alloc [] w (.cells #[.int .i64 t] 3)
  have b1 := Bx1.new2 (w.alloc (.cells #[.int .i64 t] 3)) (.int .i64 f) 3 (b := w.heap.size + 1) (by simp)
  have o1 := Only.alloc [] (w.alloc (.cells #[.int .i64 t] 3)) (.cells #[.int .i64 f] 3)
  have b2 := Bx1.new2 ((w.alloc (.cells #[.int .i64 t] 3)).alloc (.cells #[.int .i64 f] 3)) (.bool v) 4 (b := w.heap.size + 2) (by simp)
  have o2 := Only.alloc [] ((w.alloc (.cells #[.int .i64 t] 3)).alloc (.cells #[.int .i64 f] 3)) (.cells #[.bool v] 4)
  have O := Lib.hid ((o0.trans (o1.trans o2)))
  have B0 := Lib.hid (b0.kept (o1.trans o2) (by simp))
  have B1 := Lib.hid (b1.kept o2 (by simp))
  have B2 := Lib.hid (b2)
  have R1 := Lib.hid (hR.kept O.out (by simp))
  clear b0 o0 b1 o1 b2 o2 hR
  have hmf : ∀ (fn : Fn) (first cap : Array Value) (w : World), (Instr.makeFunc fn first cap).run Try.prog w = .ok (.func fn first cap) w := fun _ _ _ _ => rfl
  go_enter Try.func14, Try.ntmps14
  go_wp2_with fail
  generalize ((w.alloc (.cells #[.int .i64 t] 3)).alloc (.cells #[.int .i64 f] 3)).alloc (.cells #[.bool v] 4) = u at *
  refine (find_any 27 #[.pointer (some ⟨w.heap.size, 0, none⟩), .pointer (some ⟨w.heap.size + 1, 0, none⟩), .pointer (some ⟨w.heap.size + 2, 0, none⟩)] (isMay t f v) b g u R1.out (fun _ _ => by kernel_rfl) (fun y x hO => ?_)).mono ?_
  · exact may1_any x t f v _ _ _ y (B0.out.kept hO (by simp)) (B1.out.kept hO (by simp)) (B2.out.kept hO (by simp))
  · rintro e w1 ⟨rfl, hO⟩
    have O2 := Lib.hid (O.out.trans hO)
    clear hO O R1 B0 B1 B2
    go_wp2
    go_ret
    rw [lsI_ge]
    exact ⟨rfl, O2.out⟩
set_option maxRecDepth 100000 in
theorem at_any (b : Nat) (t p : Int) (g : Nat → GtT) (w : World) (hR : Row6 w b g) :
    Calls Try.prog 15 #[.pointer (some ⟨b, 0, none⟩), .int .i64 t, .int .i64 p] w fun e w' => e = .returned (.int .i64 (atP g t p)) ∧ Only [] w w' := by
  have b0 := Bx1.new2 w (.int .i64 t) 3 (b := w.heap.size) (by simp)
  have o0 := Only.alloc [] w (.cells #[.int .i64 t] 3)
  have b1 := Bx1.new2 (w.alloc (.cells #[.int .i64 t] 3)) (.int .i64 p) 3 (b := w.heap.size + 1) (by simp)
  have o1 := Only.alloc [] (w.alloc (.cells #[.int .i64 t] 3)) (.cells #[.int .i64 p] 3)
  have O := Lib.hid ((o0.trans o1))
  have B0 := Lib.hid (b0.kept o1 (by simp))
  have B1 := Lib.hid (b1)
  have R1 := Lib.hid (hR.kept O.out (by simp))
  clear b0 o0 b1 o1 hR
  have hmf : ∀ (fn : Fn) (first cap : Array Value) (w : World), (Instr.makeFunc fn first cap).run Try.prog w = .ok (.func fn first cap) w := fun _ _ _ _ => rfl
  go_enter Try.func15, Try.ntmps15
  go_wp2_with fail
  generalize (w.alloc (.cells #[.int .i64 t] 3)).alloc (.cells #[.int .i64 p] 3) = u at *
  refine (find_any 28 #[.pointer (some ⟨w.heap.size, 0, none⟩), .pointer (some ⟨w.heap.size + 1, 0, none⟩)] (isAt t p) b g u R1.out (fun _ _ => by kernel_rfl) (fun y x hO => ?_)).mono ?_
  · exact at1_any x t p _ _ y (B0.out.kept hO (by simp)) (B1.out.kept hO (by simp))
  · rintro e w1 ⟨rfl, hO⟩
    have O2 := Lib.hid (O.out.trans hO)
    clear hO O R1 B0 B1
    go_wp2
    go_ret
    rw [atP_eq]
    exact ⟨rfl, O2.out⟩
/-- Is there such a grant, and such a guest? -/
def namP (n t : Int) : Int := if idk n = false ∨ gst t = false then 11 else 0
theorem idk_lo {n : Int} (h : n < 0) : idk n = false := by unfold idk; simp; omega
theorem idk_hi {n : Int} (h : 32 ≤ n) : idk n = false := by unfold idk; simp; omega
theorem idk_in {n : Nat} (h : n < 32) : idk n = true := by unfold idk; simp; omega
theorem named_any (b : Nat) (n t : Int) (w : World) :
    Calls Try.prog 33 #[.pointer (some ⟨b, 0, none⟩), .int .i64 n, .int .i64 t] w fun e w' => e = .returned (.int .i64 (namP n t)) ∧ w = w' := by
  by_cases h0 : n < 0
  · have e : namP n t = 11 := by unfold namP; rw [if_pos (Or.inl (idk_lo h0))]
    rw [e]
    clear e
    go_enter Try.func33, Try.ntmps33
    go_wp2
    go_ret
    exact ⟨rfl, rfl⟩
  by_cases h1 : 32 ≤ n
  · have e : namP n t = 11 := by unfold namP; rw [if_pos (Or.inl (idk_hi h1))]
    rw [e]
    clear e
    go_enter Try.func33, Try.ntmps33
    go_wp2
    go_ret
    exact ⟨rfl, rfl⟩
  obtain ⟨k, rfl⟩ := Int.eq_ofNat_of_zero_le (show 0 ≤ n by omega)
  have hk : k < 32 := by omega
  have hi := idk_in hk
  cases hg : gst t with
  | true =>
    have e : namP k t = 0 := by unfold namP; rw [hi, hg]; rfl
    rw [e]
    clear e hi
    go_enter Try.func33, Try.ntmps33
    go_wp2_with (go_at_call 29; refine (guest_any t _).mono ?_; rintro e w1 ⟨rfl, rfl⟩; rw [hg])
    go_ret
    exact ⟨rfl, rfl⟩
  | false =>
    have e : namP k t = 11 := by unfold namP; rw [hi, hg]; rfl
    rw [e]
    clear e hi
    go_enter Try.func33, Try.ntmps33
    go_wp2_with (go_at_call 29; refine (guest_any t _).mono ?_; rintro e w1 ⟨rfl, rfl⟩; rw [hg])
    go_ret
    exact ⟨rfl, rfl⟩
theorem get_any (b : Nat) (n : Int) (g : Nat → GtT) (w : World) (hR : Row6 w b g) :
    Calls Try.prog 13 #[.pointer (some ⟨b, 0, none⟩), .int .i64 n] w fun e w' => e = .returned (gV (getP g n)) ∧ Only [] w w' := by
  have hz : ∀ w, (zeroValue 37).run Try.prog w = .ok (gV gz) w := fun _ => by kernel_rfl
  have hlt := hR.lt
  by_cases h0 : n < 0
  · have e : getP g n = gz := by unfold getP; rw [idk_lo h0]; rfl
    rw [e]
    clear e hR
    go_enter Try.func13, Try.ntmps13
    go_wp2
    refine bodyPost_ret (v := gV gz) (by simp [results, Try.results13, go_sem]) rfl ⟨rfl, Only.alloc _ _ _⟩
  by_cases h1 : 32 ≤ n
  · have e : getP g n = gz := by unfold getP; rw [idk_hi h1]; rfl
    rw [e]
    clear e hR
    go_enter Try.func13, Try.ntmps13
    go_wp2
    refine bodyPost_ret (v := gV gz) (by simp [results, Try.results13, go_sem]) rfl ⟨rfl, Only.alloc _ _ _⟩
  obtain ⟨k, rfl⟩ := Int.eq_ofNat_of_zero_le (show 0 ≤ n by omega)
  have hk : k < 32 := by omega
  have e : getP g k = g k := by unfold getP; rw [idk_in hk]; rfl
  rw [e]
  clear e
  have k0 := hR.c0 hk
  have k1 := hR.c1 hk
  have k2 := hR.c2 hk
  have k3 := hR.c3 hk
  have k4 := hR.c4 hk
  have k5 := hR.c5 hk
  clear hR
  go_enter Try.func13, Try.ntmps13
  go_wp2
  refine bodyPost_ret (v := gV (g k)) (by simp [results, Try.results13, go_sem]) rfl ⟨rfl, Only.alloc _ _ _⟩
/-- Is there such a grant, made to that guest and in that state? -/
def madP (g : Nat → GtT) (n t s : Int) : Int :=
  if namP n t ≠ 0 then namP n t
  else if sta (g n.toNat) = 0 ∨ too (g n.toNat) ≠ t then 12
  else if sta (g n.toNat) ≠ s then 20
  else 0
theorem namP_ne {n t : Int} (h : namP n t ≠ 0) : namP n t = 11 := by
  unfold namP at h ⊢
  split
  · rfl
  · rename_i h1; rw [if_neg h1] at h; exact absurd rfl h
theorem namP_zero {n t : Int} (h : namP n t = 0) : idk n = true ∧ gst t = true := by
  unfold namP at h
  split at h
  · cases h
  · rename_i h1
    constructor
    · cases e : idk n with
      | true => rfl
      | false => exact absurd (Or.inl e) h1
    · cases e : gst t with
      | true => rfl
      | false => exact absurd (Or.inr e) h1
set_option maxRecDepth 100000 in
theorem made_any (b : Nat) (n t s : Int) (g : Nat → GtT) (w : World) (hR : Row6 w b g) :
    Calls Try.prog 32 #[.pointer (some ⟨b, 0, none⟩), .int .i64 n, .int .i64 t, .int .i64 s] w fun e w' => e = .returned (.int .i64 (madP g n t s)) ∧ Only [] w w' := by
  by_cases hn : namP n t = 0
  · obtain ⟨h1, h2⟩ := namP_zero hn
    obtain ⟨k, rfl, hk⟩ := idk_nat h1
    have HN := Lib.hid hn
    have hlt := hR.lt
    have k0 := hR.c0 hk
    have k1 := hR.c1 hk
    have k2 := hR.c2 hk
    have k3 := hR.c3 hk
    have k4 := hR.c4 hk
    have k5 := hR.c5 hk
    obtain ⟨x, hx⟩ : ∃ x, x = g k := ⟨_, rfl⟩
    have HX := Lib.hid hx
    rw [← hx] at k0 k1 k2 k3 k4 k5
    clear hR h1 h2 hn hx
    obtain ⟨xs, xo, xf, xt, xp, xw⟩ := x
    cases d0 : xs == 0 with
    | true =>
      have e : madP g k t s = 12 := by unfold madP; rw [HN.out]; rw [if_neg (by decide), if_pos (by rw [Int.toNat_natCast, ← HX.out]; exact Or.inl (by simpa using d0))]
      rw [e]
      clear e
      go_enter Try.func32, Try.ntmps32
      go_wp2_with (go_at_call 33; refine (named_any b k t _).mono ?_; rintro e w1 ⟨rfl, rfl⟩; rw [HN.out])
      go_ret
      exact ⟨rfl, Only.alloc _ _ _⟩
    | false =>
      cases d1 : xt != t with
      | true =>
        have e : madP g k t s = 12 := by unfold madP; rw [HN.out]; rw [if_neg (by decide), if_pos (by rw [Int.toNat_natCast, ← HX.out]; exact Or.inr (by simpa using d1))]
        rw [e]
        clear e
        go_enter Try.func32, Try.ntmps32
        go_wp2_with (go_at_call 33; refine (named_any b k t _).mono ?_; rintro e w1 ⟨rfl, rfl⟩; rw [HN.out])
        go_ret
        exact ⟨rfl, Only.alloc _ _ _⟩
      | false =>
        cases d2 : xs != s with
        | true =>
          have e : madP g k t s = 20 := by unfold madP; rw [HN.out]; rw [if_neg (by decide), if_neg (by rw [Int.toNat_natCast, ← HX.out]; simp only [not_or]; exact ⟨by simpa using d0, by simpa using d1⟩), if_pos (by rw [Int.toNat_natCast, ← HX.out]; simpa using d2)]
          rw [e]
          clear e
          go_enter Try.func32, Try.ntmps32
          go_wp2_with (go_at_call 33; refine (named_any b k t _).mono ?_; rintro e w1 ⟨rfl, rfl⟩; rw [HN.out])
          go_ret
          exact ⟨rfl, Only.alloc _ _ _⟩
        | false =>
          have e : madP g k t s = 0 := by unfold madP; rw [HN.out]; rw [if_neg (by decide), if_neg (by rw [Int.toNat_natCast, ← HX.out]; simp only [not_or]; exact ⟨by simpa using d0, by simpa using d1⟩), if_neg (by rw [Int.toNat_natCast, ← HX.out]; simpa using d2)]
          rw [e]
          clear e
          go_enter Try.func32, Try.ntmps32
          go_wp2_with (go_at_call 33; refine (named_any b k t _).mono ?_; rintro e w1 ⟨rfl, rfl⟩; rw [HN.out])
          go_ret
          exact ⟨rfl, Only.alloc _ _ _⟩
  · have e : madP g n t s = 11 := by unfold madP; rw [if_pos hn, namP_ne hn]
    rw [e]
    have HN := Lib.hid (namP_ne hn)
    clear e hn hR
    go_enter Try.func32, Try.ntmps32
    go_wp2_with (go_at_call 33; refine (named_any b n t _).mono ?_; rintro e w1 ⟨rfl, rfl⟩; rw [HN.out])
    go_ret
    exact ⟨rfl, Only.refl _ _⟩
set_option maxRecDepth 100000 in
theorem free_any (b k : Nat) (g : Nat → GtT) (w : World) (hR : Row6 w b g) (hk : k < 32) :
    Calls Try.prog 34 #[.pointer (some ⟨b, 0, none⟩), .int .i64 k] w fun e w' => e = .returned (gV (g k)) ∧ Row6 w' b (upd g k gz) ∧ Only [b] w w' := by
  have hz : ∀ w, (zeroValue 37).run Try.prog w = .ok (gV gz) w := fun _ => by kernel_rfl
  have hlt := hR.lt
  have k0 := hR.c0 hk
  have k1 := hR.c1 hk
  have k2 := hR.c2 hk
  have k3 := hR.c3 hk
  have k4 := hR.c4 hk
  have k5 := hR.c5 hk
  have f0 : w.frozen? ⟨b, k * 6, none⟩ = false := hR.fz _ (by omega)
  have f1 : w.frozen? ⟨b, k * 6 + 1, none⟩ = false := hR.fz _ (by omega)
  have f2 : w.frozen? ⟨b, k * 6 + 2, none⟩ = false := hR.fz _ (by omega)
  have f3 : w.frozen? ⟨b, k * 6 + 3, none⟩ = false := hR.fz _ (by omega)
  have f4 : w.frozen? ⟨b, k * 6 + 4, none⟩ = false := hR.fz _ (by omega)
  have f5 : w.frozen? ⟨b, k * 6 + 5, none⟩ = false := hR.fz _ (by omega)
  have hki : (k : Int) < 32 := by omega
  have HR := Lib.hid hR
  clear hR
  go_enter Try.func34, Try.ntmps34
  go_wp2
  refine bodyPost_ret (v := gV (g k)) (by simp [results, Try.results34, go_sem]) rfl ⟨rfl, ?_, ?_⟩
  · exact (HR.out.set hk gz).kept ((Only.alloc [] _ _).trans (Only.alloc [] _ _)) (by simp)
  · exact (only_set6 w b k gz).trans ((Only.alloc _ _ _).trans (Only.alloc _ _ _))
end Gr
end Go.Proofs.Ytnilcmmilplbgaa
