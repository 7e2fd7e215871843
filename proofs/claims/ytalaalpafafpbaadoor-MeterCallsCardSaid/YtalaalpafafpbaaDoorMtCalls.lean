/-
  MeterCalls: every row of calls is answered as the document says, and every question: for every input true, and the input reads as it did. Condition: what the program's text lays (the table of costs).
-/
import Derived.Test.YtalaalpafafpbaaDoorMtYield
namespace Go.Proofs.YtalaalpafafpbaaDoor
open Go.ChangeShapes Go.WideShapes Go.ChangeAt Go.RowKit Go.Deep
namespace Mt
theorem len_on (L : List Ent) (k j : Nat) (x : Int) : (on L k j x).L.length = L.length + 1 := by unfold on; simp
theorem len_charge (n : Nat) (L : List Ent) (s : Bool) (k j t : Int) : (charge n L s k j t).L.length ≤ L.length + 1 := by
  unfold charge
  split
  · split
    · exact Nat.le_succ _
    · rw [len_on]; exact Nat.le_refl _
  · exact Nat.le_succ _
theorem len_wait (n : Nat) (L : List Ent) (s : Bool) (k t : Int) : (wait n L s k t).L.length ≤ L.length + 1 := by
  unfold wait
  split
  · split
    · exact Nat.le_succ _
    · split
      · exact Nat.le_succ _
      · rw [len_on]; exact Nat.le_refl _
  · exact Nat.le_succ _
/-- A new meter of the document's. -/
theorem rnew (A : List Nat) (B : Nat) (w : World) (n : Nat) (hB : B ≤ w.heap.size) (hA : ∀ x ∈ A, x < w.heap.size) (hn : n ≤ 4) : RMet A B (w.alloc (.cells #[.int .i64 n, .slice none 0 0, .bool false] 32)) w.heap.size n [] false :=
  ⟨by simp, hB, by simp, by simp, by simp, by simp, ⟨.slice none 0 0, by simp, World.ownsRow_nil _ _ _ _, by simp [Value.ownBlock], fun x _ => by simp [Value.ownBlock]⟩, fun x hx => ⟨by have := hA x hx; simp; omega, by have := hA x hx; omega⟩, good_nil n, hn⟩
end Mt
namespace meterCalls
open Mt
set_option maxRecDepth 100000 in
set_option maxHeartbeats 4000000 in
theorem walk (cores : Int) (pc : Option Addr) (len cap : Nat) (x : Cs) (kind : Int) (pb : Option Addr) (lb cb : Nat) (bb : Nat → Bool) (w : World) (hl : len ≤ maxLen) (hc : Mt.CallsIn w.heap.size w pc len x) (hlb : lb ≤ maxLen) (hb : RdT w.heap.size w pb lb bb) (hC : Costs w) :
    Calls Tryd.prog 3 #[.int .i64 cores, .slice pc len cap, .int .i64 kind, .slice pb lb cb] w fun e w' => e = .returned (.bool true) ∧ Only [] w w' := by
  have HLB := Lib.hid hlb
  unfold maxLen at hl hlb
  have HC := Lib.hid hc
  have HB := Lib.hid hb
  have C0 := Lib.hid hC
  have hg := hC.1
  clear hc hC hb
  go_enter Tryd.func3, Tryd.ntmps3
  by_cases h60 : 60 < len
  · have d : decide ((60 : Int) < (len : Int)) = true := by simp; omega
    go_wp2_with (go_at_call 7; refine (alive_any _ C0.out).mono ?_; rintro e w0 ⟨rfl, O0⟩)
    go_ret
    exact ⟨rfl, O0⟩
  have d : decide ((60 : Int) < (len : Int)) = false := by simp; omega
  by_cases h20 : 20 < lb
  · have d2 : decide ((20 : Int) < (lb : Int)) = true := by simp; omega
    go_wp2_with (go_at_call 7; refine (alive_any _ C0.out).mono ?_; rintro e w0 ⟨rfl, O0⟩)
    go_ret
    exact ⟨rfl, O0⟩
  have d2 : decide ((20 : Int) < (lb : Int)) = false := by simp; omega
  go_wp2_with (go_at_call 7; refine (alive_any _ C0.out).mono ?_; rintro e w0 ⟨rfl, O0⟩)
  by_cases b1 : cores < 1
  · have d3 : decide (cores < 1) = true := by simpa using b1
    refine (new_no cores w0 (.inl b1)).mono ?_
    rintro e w' ⟨rfl, rfl⟩
    go_wp2
    go_ret
    exact ⟨rfl, O0⟩
  have d3 : decide (cores < 1) = false := by simpa using b1
  by_cases b2 : 4 < cores
  · have d4 : decide (4 < cores) = true := by simpa using b2
    refine (new_no cores w0 (.inr b2)).mono ?_
    rintro e w' ⟨rfl, rfl⟩
    go_wp2
    go_ret
    exact ⟨rfl, O0⟩
  have d4 : decide (4 < cores) = false := by simpa using b2
  obtain ⟨n, rfl⟩ := Int.eq_ofNat_of_zero_le (show 0 ≤ cores by omega)
  have n1 : 1 ≤ n := by omega
  have n4 : n ≤ 4 := by omega
  clear b1 b2
  refine (new_any n w0 n1 n4).mono ?_
  rintro e w1 ⟨m, F, c, rfl, hM, hO, hm, hF⟩
  have s0 := O0.size
  have ha := Only.alloc [] w1 (.cells #[.int .i64 n, .slice none 0 0, .bool false] 32)
  have lm := hM.lt
  have lF := hM.ltF
  have R1 := Lib.hid (rnew [m, F] w.heap.size w1 n (by omega) (by simp; omega) n4)
  have M1 := Lib.hid (hM.kept ha (by simp) (by simp))
  have O1 := Lib.hid ((O0.next hO (by simp)).next ha (by simp))
  obtain ⟨r, hr⟩ : ∃ r, r = w1.heap.size := ⟨_, rfl⟩
  clear hM hO O0 ha
  go_wp2_with fail
  rw [← hr] at R1 ⊢
  generalize w1.alloc (.cells #[.int .i64 n, .slice none 0 0, .bool false] 32) = w2 at *
  clear hr
  go_loopw [12, 13, 14, 15] (fun i _ _ _ wr => ∃ k : Nat, k ≤ len ∧ i = .int .i64 k ∧ (∃ L s, Met wr m F n c L s ∧ RMet [m, F] w.heap.size wr r n L s ∧ L.length ≤ k) ∧ Only [] w wr) (fun i _ _ _ _ => len - (intOf i).toNat)
  case atStart => exact ⟨0, by omega, rfl, ⟨_, _, M1.out, R1.out, Nat.le_refl _⟩, O1.out⟩
  case round =>
    obtain ⟨k, hk, rfl, ⟨L, s, hM, hR, hlen⟩, hO⟩ := hrel
    have MH := Lib.hid hM
    have RH := Lib.hid hR
    have OH := Lib.hid hO
    clear hM hO hR M1 O1 R1
    by_cases hlt : k < len
    · obtain ⟨b, off, epa, hbB, hcc⟩ := HC.out.kept OH.out (by simp) (by omega)
      subst epa
      have ck := hcc k hlt
      have c0 := ck.c0
      have c1 := ck.c1
      have c2 := ck.c2
      have c3 := ck.c3
      have t0 := ck.t0
      have t1 := ck.t1
      have CH := Lib.hid (C0.out.kept OH.out (by simp))
      have qm := MH.out.lt
      have qF := MH.out.ltF
      have qr := RH.out.lt
      have qo := OH.out.size
      clear hcc ck
      cases hu : x.wt k
      · rw [hu] at c3
        have ha := Only.alloc [] wr (.cells #[.int .i64 (x.co k), .int .i64 (x.kd k), .int .u64 (x.ti k), .bool false] 35)
        have a0 : (wr.alloc (.cells #[.int .i64 (x.co k), .int .i64 (x.kd k), .int .u64 (x.ti k), .bool false] 35)).drew.cell? ⟨wr.heap.size, 0, none⟩ = some (.int .i64 (x.co k)) := by simp
        have a1 : (wr.alloc (.cells #[.int .i64 (x.co k), .int .i64 (x.kd k), .int .u64 (x.ti k), .bool false] 35)).drew.cell? ⟨wr.heap.size, 1, none⟩ = some (.int .i64 (x.kd k)) := by simp
        have a2 : (wr.alloc (.cells #[.int .i64 (x.co k), .int .i64 (x.kd k), .int .u64 (x.ti k), .bool false] 35)).drew.cell? ⟨wr.heap.size, 2, none⟩ = some (.int .u64 (x.ti k)) := by simp
        have a3 : (wr.alloc (.cells #[.int .i64 (x.co k), .int .i64 (x.kd k), .int .u64 (x.ti k), .bool false] 35)).drew.cell? ⟨wr.heap.size, 3, none⟩ = some (.bool false) := by simp
        have hd := Only.drewN [] (wr.alloc (.cells #[.int .i64 (x.co k), .int .i64 (x.kd k), .int .u64 (x.ti k), .bool false] 35)) 1
        have la : wr.heap.size < (wr.alloc (.cells #[.int .i64 (x.co k), .int .i64 (x.kd k), .int .u64 (x.ti k), .bool false] 35)).drew.heap.size := by simp
        have MA : Hid (Met (wr.alloc (.cells #[.int .i64 (x.co k), .int .i64 (x.kd k), .int .u64 (x.ti k), .bool false] 35)).drew m F n c L s) := (MH.out.kept ha (by simp) (by simp)).kept hd (by simp) (by simp)
        have OA : Hid (Only [] w (wr.alloc (.cells #[.int .i64 (x.co k), .int .i64 (x.kd k), .int .u64 (x.ti k), .bool false] 35)).drew) := (OH.out.next ha (by simp)).next hd (by simp)
        have CA : Hid (Costs (wr.alloc (.cells #[.int .i64 (x.co k), .int .i64 (x.kd k), .int .u64 (x.ti k), .bool false] 35)).drew) := (CH.out.kept ha (by simp)).kept hd (by simp)
        have RA : Hid (RMet (wr.heap.size :: [m, F]) w.heap.size (wr.alloc (.cells #[.int .i64 (x.co k), .int .i64 (x.kd k), .int .u64 (x.ti k), .bool false] 35)).drew r n L s) := RH.out.more (ha.trans hd) wr.heap.size (Nat.le_refl _) la
        have LN := Lib.hid (len_charge n L s (x.co k) (x.kd k) (x.ti k))
        have nx : ∀ z : Int, (z != z) = false := fun z => by simp
        clear ha hd
        go_wp2_with fail
        refine wp_region_noPanic ?_
        refine wp_region_held_drew (S := fun w' => w'.cell? ⟨wr.heap.size, 0, none⟩ = some (.int .i64 (x.co k)) ∧ w'.cell? ⟨wr.heap.size, 1, none⟩ = some (.int .i64 (x.kd k)) ∧ w'.cell? ⟨wr.heap.size, 2, none⟩ = some (.int .u64 (x.ti k)) ∧ w'.cell? ⟨wr.heap.size, 3, none⟩ = some (.bool false)) (by kernel_rfl) ⟨a0, a1, a2, a3⟩ (fun _ => ?_)
        refine wpAnyH_take (i := 0) (oi := ⟨some 64, _, _, _, _, _⟩) rfl (by kernel_rfl) (by kernel_rfl) (by kernel_rfl) (fun _ _ _ h => h) (y_run (v := .pointer (some ⟨wr.heap.size, 3, none⟩)) (by kernel_rfl) (fun _ => by kernel_rfl)) ⟨a0, a1, a2, a3⟩ ?_
        refine wpAnyH_take (i := 1) (oi := ⟨some 65, _, _, _, _, _⟩) rfl (by kernel_rfl) (by kernel_rfl) (by kernel_rfl) (fun _ _ _ h => h) (y_bool wr.heap.size 3 false (by kernel_rfl) (fun _ h => h.2.2.2) (.tmp 64) (by kernel_rfl) rfl) ⟨a0, a1, a2, a3⟩ ?_
        refine wpAnyH_take (i := 2) (oi := ⟨some 66, _, _, _, _, _⟩) rfl (by kernel_rfl) (by kernel_rfl) (by kernel_rfl) (fun _ _ _ h => h) (y_run (v := .bool false) (by kernel_rfl) (fun _ => by kernel_rfl)) ⟨a0, a1, a2, a3⟩ ?_
        refine wpAnyH_take (i := 3) (oi := ⟨some 67, _, _, _, _, _⟩) rfl (by kernel_rfl) (by kernel_rfl) (by kernel_rfl) (fun _ _ _ h => h) (y_off (by kernel_rfl)) ⟨a0, a1, a2, a3⟩ ?_
        refine wpAnyH_take (i := 4) (oi := ⟨some 68, _, _, _, _, _⟩) rfl (by kernel_rfl) (by kernel_rfl) (by kernel_rfl) (fun _ _ _ h => h) (y_off (by kernel_rfl)) ⟨a0, a1, a2, a3⟩ ?_
        refine wpAnyH_take (i := 5) (oi := ⟨some 69, _, _, _, _, _⟩) rfl (by kernel_rfl) (by kernel_rfl) (by kernel_rfl) (fun _ _ _ h => h) (y_off (by kernel_rfl)) ⟨a0, a1, a2, a3⟩ ?_
        refine wpAnyH_take (i := 6) (oi := ⟨some 70, _, _, _, _, _⟩) rfl (by kernel_rfl) (by kernel_rfl) (by kernel_rfl) (fun _ _ _ h => h) (y_off (by kernel_rfl)) ⟨a0, a1, a2, a3⟩ ?_
        refine wpAnyH_take (i := 7) (oi := ⟨some 71, _, _, _, _, _⟩) rfl (by kernel_rfl) (by kernel_rfl) (by kernel_rfl) (fun _ _ _ h => h) (y_off (by kernel_rfl)) ⟨a0, a1, a2, a3⟩ ?_
        refine wpAnyH_take (i := 8) (oi := ⟨some 72, _, _, _, _, _⟩) rfl (by kernel_rfl) (by kernel_rfl) (by kernel_rfl) (fun _ _ _ h => h) (y_off (by kernel_rfl)) ⟨a0, a1, a2, a3⟩ ?_
        refine wpAnyH_take (i := 9) (oi := ⟨some 73, _, _, _, _, _⟩) rfl (by kernel_rfl) (by kernel_rfl) (by kernel_rfl) (fun _ _ _ h => h) (y_off (by kernel_rfl)) ⟨a0, a1, a2, a3⟩ ?_
        refine wpAnyH_take (i := 10) (oi := ⟨some 74, _, _, _, _, _⟩) rfl (by kernel_rfl) (by kernel_rfl) (by kernel_rfl) (fun _ _ _ h => h) (y_off (by kernel_rfl)) ⟨a0, a1, a2, a3⟩ ?_
        refine wpAnyH_take (i := 11) (oi := ⟨some 75, _, _, _, _, _⟩) rfl (by kernel_rfl) (by kernel_rfl) (by kernel_rfl) (fun _ _ _ h => h) (y_off (by kernel_rfl)) ⟨a0, a1, a2, a3⟩ ?_
        refine wpAnyH_take (i := 12) (oi := ⟨some 76, _, _, _, _, _⟩) rfl (by kernel_rfl) (by kernel_rfl) (by kernel_rfl) (fun _ _ _ h => h) (y_off (by kernel_rfl)) ⟨a0, a1, a2, a3⟩ ?_
        refine wpAnyH_take (i := 13) (oi := ⟨some 77, _, _, _, _, _⟩) rfl (by kernel_rfl) (by kernel_rfl) (by kernel_rfl) (fun _ _ _ h => h) (y_off (by kernel_rfl)) ⟨a0, a1, a2, a3⟩ ?_
        refine wpAnyH_take (i := 14) (oi := ⟨some 78, _, _, _, _, _⟩) rfl (by kernel_rfl) (by kernel_rfl) (by kernel_rfl) (fun _ _ _ h => h) (y_off (by kernel_rfl)) ⟨a0, a1, a2, a3⟩ ?_
        refine wpAnyH_take (i := 15) (oi := ⟨some 79, _, _, _, _, _⟩) rfl (by kernel_rfl) (by kernel_rfl) (by kernel_rfl) (fun _ _ _ h => h) (y_off (by kernel_rfl)) ⟨a0, a1, a2, a3⟩ ?_
        refine wpAnyH_take (i := 16) (oi := ⟨some 80, _, _, _, _, _⟩) rfl (by kernel_rfl) (by kernel_rfl) (by kernel_rfl) (fun _ _ _ h => h) (y_run (v := .bool false) (by kernel_rfl) (fun _ => by kernel_rfl)) ⟨a0, a1, a2, a3⟩ ?_
        refine wpAnyH_take (i := 17) (oi := ⟨some 81, _, _, _, _, _⟩) rfl (by kernel_rfl) (by kernel_rfl) (by kernel_rfl) (fun _ _ _ h => h) (y_run (v := .bool false) (by kernel_rfl) (fun _ => by kernel_rfl)) ⟨a0, a1, a2, a3⟩ ?_
        refine wpAnyH_take (i := 18) (oi := ⟨some 82, _, _, _, _, _⟩) rfl (by kernel_rfl) (by kernel_rfl) (by kernel_rfl) (fun _ _ _ h => h) (y_run (v := .pointer (some ⟨wr.heap.size, 3, none⟩)) (by kernel_rfl) (fun _ => by kernel_rfl)) ⟨a0, a1, a2, a3⟩ ?_
        refine wpAnyH_take (i := 19) (oi := ⟨some 83, _, _, _, _, _⟩) rfl (by kernel_rfl) (by kernel_rfl) (by kernel_rfl) (fun _ _ _ h => h) (y_bool wr.heap.size 3 false (by kernel_rfl) (fun _ h => h.2.2.2) (.tmp 82) (by kernel_rfl) rfl) ⟨a0, a1, a2, a3⟩ ?_
        refine wpAnyH_take (i := 20) (oi := ⟨some 84, _, _, _, _, _⟩) rfl (by kernel_rfl) (by kernel_rfl) (by kernel_rfl) (fun _ _ _ h => h) (y_run (v := .bool true) (by kernel_rfl) (fun _ => by kernel_rfl)) ⟨a0, a1, a2, a3⟩ ?_
        refine wpAnyH_take (i := 21) (oi := ⟨some 85, _, _, _, _, _⟩) rfl (by kernel_rfl) (by kernel_rfl) (by kernel_rfl) (fun _ _ _ h => h) (y_run (v := .bool true) (by kernel_rfl) (fun _ => by kernel_rfl)) ⟨a0, a1, a2, a3⟩ ?_
        refine wpAnyH_take (i := 22) (oi := ⟨some 86, _, _, _, _, _⟩) rfl (by kernel_rfl) (by kernel_rfl) (by kernel_rfl) (fun _ _ _ h => h) (y_run (v := .pointer (some ⟨m, 0, none⟩)) (by kernel_rfl) (fun _ => by kernel_rfl)) ⟨a0, a1, a2, a3⟩ ?_
        refine wpAnyH_take (i := 23) (oi := ⟨some 87, _, _, _, _, _⟩) rfl (by kernel_rfl) (by kernel_rfl) (by kernel_rfl) (fun _ _ _ h => h) (y_run (v := .pointer (some ⟨wr.heap.size, 0, none⟩)) (by kernel_rfl) (fun _ => by kernel_rfl)) ⟨a0, a1, a2, a3⟩ ?_
        refine wpAnyH_take (i := 24) (oi := ⟨some 88, _, _, _, _, _⟩) rfl (by kernel_rfl) (by kernel_rfl) (by kernel_rfl) (fun _ _ _ h => h) (y_int wr.heap.size 0 (x.co k) (by kernel_rfl) (fun _ h => h.1) (.tmp 87) (by kernel_rfl) rfl) ⟨a0, a1, a2, a3⟩ ?_
        refine wpAnyH_take (i := 25) (oi := ⟨some 89, _, _, _, _, _⟩) rfl (by kernel_rfl) (by kernel_rfl) (by kernel_rfl) (fun _ _ _ h => h) (y_run (v := .pointer (some ⟨wr.heap.size, 1, none⟩)) (by kernel_rfl) (fun _ => by kernel_rfl)) ⟨a0, a1, a2, a3⟩ ?_
        refine wpAnyH_take (i := 26) (oi := ⟨some 90, _, _, _, _, _⟩) rfl (by kernel_rfl) (by kernel_rfl) (by kernel_rfl) (fun _ _ _ h => h) (y_int wr.heap.size 1 (x.kd k) (by kernel_rfl) (fun _ h => h.2.1) (.tmp 89) (by kernel_rfl) rfl) ⟨a0, a1, a2, a3⟩ ?_
        refine wpAnyH_take (i := 27) (oi := ⟨some 91, _, _, _, _, _⟩) rfl (by kernel_rfl) (by kernel_rfl) (by kernel_rfl) (fun _ _ _ h => h) (y_run (v := .pointer (some ⟨wr.heap.size, 2, none⟩)) (by kernel_rfl) (fun _ => by kernel_rfl)) ⟨a0, a1, a2, a3⟩ ?_
        refine wpAnyH_take (i := 28) (oi := ⟨some 92, _, _, _, _, _⟩) rfl (by kernel_rfl) (by kernel_rfl) (by kernel_rfl) (fun _ _ _ h => h) (y_u64 wr.heap.size 2 (x.ti k) (by kernel_rfl) (fun _ h => h.2.2.1) (.tmp 91) (by kernel_rfl) rfl) ⟨a0, a1, a2, a3⟩ ?_
        refine wpAnyH_take (i := 30) (oi := ⟨some 94, _, _, _, _, _⟩) rfl (by kernel_rfl) (by kernel_rfl) (by kernel_rfl) (fun _ _ _ h => h) (y_run (v := .pointer (some ⟨r, 0, none⟩)) (by kernel_rfl) (fun _ => by kernel_rfl)) ⟨a0, a1, a2, a3⟩ ?_
        refine wpAnyH_take (i := 31) (oi := ⟨some 95, _, _, _, _, _⟩) rfl (by kernel_rfl) (by kernel_rfl) (by kernel_rfl) (fun _ _ _ h => h) (y_run (v := .pointer (some ⟨wr.heap.size, 0, none⟩)) (by kernel_rfl) (fun _ => by kernel_rfl)) ⟨a0, a1, a2, a3⟩ ?_
        refine wpAnyH_take (i := 32) (oi := ⟨some 96, _, _, _, _, _⟩) rfl (by kernel_rfl) (by kernel_rfl) (by kernel_rfl) (fun _ _ _ h => h) (y_int wr.heap.size 0 (x.co k) (by kernel_rfl) (fun _ h => h.1) (.tmp 95) (by kernel_rfl) rfl) ⟨a0, a1, a2, a3⟩ ?_
        refine wpAnyH_take (i := 33) (oi := ⟨some 97, _, _, _, _, _⟩) rfl (by kernel_rfl) (by kernel_rfl) (by kernel_rfl) (fun _ _ _ h => h) (y_run (v := .pointer (some ⟨wr.heap.size, 1, none⟩)) (by kernel_rfl) (fun _ => by kernel_rfl)) ⟨a0, a1, a2, a3⟩ ?_
        refine wpAnyH_take (i := 34) (oi := ⟨some 98, _, _, _, _, _⟩) rfl (by kernel_rfl) (by kernel_rfl) (by kernel_rfl) (fun _ _ _ h => h) (y_int wr.heap.size 1 (x.kd k) (by kernel_rfl) (fun _ h => h.2.1) (.tmp 97) (by kernel_rfl) rfl) ⟨a0, a1, a2, a3⟩ ?_
        refine wpAnyH_take (i := 35) (oi := ⟨some 99, _, _, _, _, _⟩) rfl (by kernel_rfl) (by kernel_rfl) (by kernel_rfl) (fun _ _ _ h => h) (y_run (v := .pointer (some ⟨wr.heap.size, 2, none⟩)) (by kernel_rfl) (fun _ => by kernel_rfl)) ⟨a0, a1, a2, a3⟩ ?_
        refine wpAnyH_take (i := 36) (oi := ⟨some 100, _, _, _, _, _⟩) rfl (by kernel_rfl) (by kernel_rfl) (by kernel_rfl) (fun _ _ _ h => h) (y_u64 wr.heap.size 2 (x.ti k) (by kernel_rfl) (fun _ h => h.2.2.1) (.tmp 99) (by kernel_rfl) rfl) ⟨a0, a1, a2, a3⟩ ?_
        simp only [Act.put, List.setIfInBounds_toArray, List.set_cons_zero, List.set_cons_succ]
        refine wpAnyH_ready (rs := [29]) (by kernel_rfl) (by simp) ?_
        refine AllReadyH.cons (o := ⟨some 93, .call _, _, _, _, _⟩) rfl (fun K hK => ?_) AllReadyH.nil
        go_simp
        refine (charge_any m F n c (x.co k) (x.kd k) L s (x.ti k) _ MA.out CA.out t0 t1).mono ?_
        rintro _ w3 ⟨rfl, hM3, hO3⟩
        have b0 := (hO3.cell la (by simp; omega) 0).trans a0
        have b1 := (hO3.cell la (by simp; omega) 1).trans a1
        have b2 := (hO3.cell la (by simp; omega) 2).trans a2
        have b3 := (hO3.cell la (by simp; omega) 3).trans a3
        refine hK.out _ _ ⟨b0, b1, b2, b3⟩ (fun _ => ?_)
        have M3 := Lib.hid hM3
        have OM := Lib.hid hO3
        clear hK K hM3 hO3
        refine wpAnyH_ready (rs := [37]) (by kernel_rfl) (by simp) ?_
        refine AllReadyH.cons (o := ⟨some 101, .call _, _, _, _, _⟩) rfl (fun K hK => ?_) AllReadyH.nil
        go_simp
        refine (rdo_any (wr.heap.size :: [m, F]) w.heap.size r n L s (x.co k) (x.kd k) (x.ti k) _ (RA.out.kept OM.out (by simp)) (by omega) t0 t1 (by have := OM.out.size; omega)).mono ?_
        rintro _ w4 ⟨rfl, hR4, hF4⟩
        obtain ⟨T4, hO4, hT4⟩ := hF4
        have k0 := (hO4.cell (b := wr.heap.size) (by have := OM.out.size; omega) (fun hx => (hT4 _ hx).2 (by simp)) 0).trans b0
        have k1 := (hO4.cell (b := wr.heap.size) (by have := OM.out.size; omega) (fun hx => (hT4 _ hx).2 (by simp)) 1).trans b1
        have k2 := (hO4.cell (b := wr.heap.size) (by have := OM.out.size; omega) (fun hx => (hT4 _ hx).2 (by simp)) 2).trans b2
        have k3 := (hO4.cell (b := wr.heap.size) (by have := OM.out.size; omega) (fun hx => (hT4 _ hx).2 (by simp)) 3).trans b3
        refine hK.out _ _ ⟨k0, k1, k2, k3⟩ (fun _ => ?_)
        have R4 := Lib.hid hR4
        have O4 := Lib.hid hO4
        have H4 := Lib.hid hT4
        clear hK K hR4 hO4 hT4
        refine wpAnyH_take (i := 38) (oi := ⟨some 102, _, _, _, _, _⟩) rfl (by kernel_rfl) (by kernel_rfl) (by kernel_rfl) (fun _ _ _ h => h) (y_neq (charge n L s (x.co k) (x.kd k) (x.ti k)).e (by kernel_rfl) (.tmp 93) (.tmp 101) (by kernel_rfl) (by kernel_rfl) rfl) ⟨k0, k1, k2, k3⟩ ?_
        refine wpAnyH_take (i := 39) (oi := ⟨some 103, _, _, _, _, _⟩) rfl (by kernel_rfl) (by kernel_rfl) (by kernel_rfl) (fun _ _ _ h => h) (y_run (v := .bool false) (by kernel_rfl) (fun _ => by kernel_rfl)) ⟨k0, k1, k2, k3⟩ ?_
        refine wpAnyH_take (i := 40) (oi := ⟨some 104, _, _, _, _, _⟩) rfl (by kernel_rfl) (by kernel_rfl) (by kernel_rfl) (fun _ _ _ h => h) (y_run (v := .bool false) (by kernel_rfl) (fun _ => by kernel_rfl)) ⟨k0, k1, k2, k3⟩ ?_
        refine wpAnyH_done (by kernel_rfl) ?_ _
        simp only [Act.put, List.setIfInBounds_toArray, List.set_cons_zero, List.set_cons_succ]
        refine NoPanic.normal ?_
        have FM : m ∉ T4 := fun hx => (H4.out m hx).2 (by simp)
        have FF : F ∉ T4 := fun hx => (H4.out F hx).2 (by simp)
        have M4 := Lib.hid (M3.out.kept O4.out FM FF)
        have R4 := Lib.hid R4.out.less
        have O5 := Lib.hid ((OA.out.next OM.out (by simp; omega)).next O4.out (fun y hy => .inr (H4.out y hy).1))
        clear FM FF M3 OM O4 H4 MA OA CA RA MH RH OH CH a0 a1 a2 a3 b0 b1 b2 b3 k0 k1 k2 k3 c0 c1 c2 c3
        generalize charge n L s (x.co k) (x.kd k) (x.ti k) = q at *
        obtain ⟨e, L', s'⟩ := q
        have hl2 : L'.length ≤ k + 1 := Nat.le_trans LN.out (by omega)
        have rs := R4.out.c2
        have ns : (s' != s') = false := by simp
        clear LN
        go_wp2_with fail
        have MZ : Hid (∀ n', Met (w4.drewN n') m F n c L' s') := fun n' => M4.out.kept (Only.drewN [] _ n') (by simp) (by simp)
        go_quiet (first | (go_at_call 13; exact Calls.quiet_of_same ((stopped_any m s' _ (MZ.out _).stop).mono fun _ _ ⟨h, h'⟩ => ⟨h, h'.symm⟩)))
        have M5 := Lib.hid (M4.out.kept (Only.drewN [] w4 nq) (by simp) (by simp))
        have R5 := Lib.hid (R4.out.kept (Only.drewN [] w4 nq) (by simp))
        have O6 := Lib.hid (O5.out.next (Only.drewN [] w4 nq) (by simp))
        clear M4 R4 O5 rs MZ
        generalize w4.drewN nq = w5 at *
        go_wp2_with fail
        go_loop [14, 15] (fun q _ => ∃ kk : Int, -1 ≤ kk ∧ kk ≤ (n : Int) + 1 ∧ q = .int .i64 kk) (fun q _ => ((n : Int) + 1 - intOf q).toNat)
        case atStart => exact ⟨-1, by omega, by omega, rfl⟩
        case round =>
          obtain ⟨kk, kl, kh, rfl⟩ := hrel
          by_cases hkn : kk ≤ (n : Int)
          · have ei := rspent_idle M5.out.good kk
            have n1' : (clkA n L' kk != clkA n L' kk) = false := by simp
            have n2 : (idleA n L' kk != idleA n L' kk) = false := by simp
            have n3 : (spentA n L' kk kind != spentA n L' kk kind) = false := by simp
            cases hin : inR n kk
            · have z0 : clkA n L' kk = 0 := by unfold clkA; rw [hin]; rfl
              have z1 : (clkA n L' kk != 0) = false := by rw [z0]; rfl
              have no := inR_no hin
              have TH : Hid (∀ P : Prop, (decide (0 ≤ kk) = false → P) → (decide (0 ≤ kk) = true → decide (kk < (n : Int)) = false → P) → P) := fun P h1 h2 => by
                by_cases g : 0 ≤ kk
                · exact h2 (by simpa using g) (by simp; omega)
                · exact h1 (by simpa using g)
              clear z0 no hin
              by_cases hkd : 0 < kind
              · have f1 : decide (0 < kind) = true := by simpa using hkd
                have f2 : decide (kind ≤ 0) = false := by simp; omega
                have es := rspent_spent M5.out.good kk kind hkd
                refine TH.out _ ?_ ?_
                · intro g1
                  go_wp2_with (first | (go_at_call 14; refine (clock_any m F n c L' s' kk _ M5.out).mono ?_; rintro _ w' ⟨rfl, rfl⟩) | (go_at_call 15; refine (rclock_any [m, F] w.heap.size r n L' s' kk _ R5.out (by omega)).mono ?_; rintro _ w' ⟨rfl, rfl⟩) | (go_at_call 16; refine (idle_any m F n c L' s' kk _ M5.out).mono ?_; rintro _ w' ⟨rfl, rfl⟩) | (go_at_call 18; refine (spent_any m F n c L' s' kk kind _ M5.out).mono ?_; rintro _ w' ⟨rfl, rfl⟩) | (go_at_call 17; first | (with_reducible refine (rspent_any [m, F] w.heap.size r n L' s' kk 0 _ R5.out (by omega)).mono ?_; rintro _ w' ⟨rfl, rfl⟩; rw [ei]) | (with_reducible refine (rspent_any [m, F] w.heap.size r n L' s' kk kind _ R5.out (by omega)).mono ?_; rintro _ w' ⟨rfl, rfl⟩; rw [es])))
                  go_round
                  case rel => exact ⟨kk + 1, by omega, by omega, by go_num⟩
                  case measure => simp [intOf]; omega
                · intro g1 g2
                  go_wp2_with (first | (go_at_call 14; refine (clock_any m F n c L' s' kk _ M5.out).mono ?_; rintro _ w' ⟨rfl, rfl⟩) | (go_at_call 15; refine (rclock_any [m, F] w.heap.size r n L' s' kk _ R5.out (by omega)).mono ?_; rintro _ w' ⟨rfl, rfl⟩) | (go_at_call 16; refine (idle_any m F n c L' s' kk _ M5.out).mono ?_; rintro _ w' ⟨rfl, rfl⟩) | (go_at_call 18; refine (spent_any m F n c L' s' kk kind _ M5.out).mono ?_; rintro _ w' ⟨rfl, rfl⟩) | (go_at_call 17; first | (with_reducible refine (rspent_any [m, F] w.heap.size r n L' s' kk 0 _ R5.out (by omega)).mono ?_; rintro _ w' ⟨rfl, rfl⟩; rw [ei]) | (with_reducible refine (rspent_any [m, F] w.heap.size r n L' s' kk kind _ R5.out (by omega)).mono ?_; rintro _ w' ⟨rfl, rfl⟩; rw [es])))
                  go_round
                  case rel => exact ⟨kk + 1, by omega, by omega, by go_num⟩
                  case measure => simp [intOf]; omega
              · have f1 : decide (0 < kind) = false := by simpa using hkd
                have f2 : decide (kind ≤ 0) = true := by simp; omega
                have s0 : spentA n L' kk kind = 0 := by unfold spentA; rw [if_neg (fun g => by omega)]
                have n4 : (spentA n L' kk kind != 0) = false := by rw [s0]; rfl
                have es : True := trivial
                clear s0
                refine TH.out _ ?_ ?_
                · intro g1
                  go_wp2_with (first | (go_at_call 14; refine (clock_any m F n c L' s' kk _ M5.out).mono ?_; rintro _ w' ⟨rfl, rfl⟩) | (go_at_call 15; refine (rclock_any [m, F] w.heap.size r n L' s' kk _ R5.out (by omega)).mono ?_; rintro _ w' ⟨rfl, rfl⟩) | (go_at_call 16; refine (idle_any m F n c L' s' kk _ M5.out).mono ?_; rintro _ w' ⟨rfl, rfl⟩) | (go_at_call 18; refine (spent_any m F n c L' s' kk kind _ M5.out).mono ?_; rintro _ w' ⟨rfl, rfl⟩) | (go_at_call 17; first | (with_reducible refine (rspent_any [m, F] w.heap.size r n L' s' kk 0 _ R5.out (by omega)).mono ?_; rintro _ w' ⟨rfl, rfl⟩; rw [ei]) | (with_reducible refine (rspent_any [m, F] w.heap.size r n L' s' kk kind _ R5.out (by omega)).mono ?_; rintro _ w' ⟨rfl, rfl⟩; rw [es])))
                  go_round
                  case rel => exact ⟨kk + 1, by omega, by omega, by go_num⟩
                  case measure => simp [intOf]; omega
                · intro g1 g2
                  go_wp2_with (first | (go_at_call 14; refine (clock_any m F n c L' s' kk _ M5.out).mono ?_; rintro _ w' ⟨rfl, rfl⟩) | (go_at_call 15; refine (rclock_any [m, F] w.heap.size r n L' s' kk _ R5.out (by omega)).mono ?_; rintro _ w' ⟨rfl, rfl⟩) | (go_at_call 16; refine (idle_any m F n c L' s' kk _ M5.out).mono ?_; rintro _ w' ⟨rfl, rfl⟩) | (go_at_call 18; refine (spent_any m F n c L' s' kk kind _ M5.out).mono ?_; rintro _ w' ⟨rfl, rfl⟩) | (go_at_call 17; first | (with_reducible refine (rspent_any [m, F] w.heap.size r n L' s' kk 0 _ R5.out (by omega)).mono ?_; rintro _ w' ⟨rfl, rfl⟩; rw [ei]) | (with_reducible refine (rspent_any [m, F] w.heap.size r n L' s' kk kind _ R5.out (by omega)).mono ?_; rintro _ w' ⟨rfl, rfl⟩; rw [es])))
                  go_round
                  case rel => exact ⟨kk + 1, by omega, by omega, by go_num⟩
                  case measure => simp [intOf]; omega
            · obtain ⟨z, rfl, hz⟩ := inR_yes hin
              have g1 : decide ((0 : Int) ≤ (z : Int)) = true := by simp
              have g2 : decide ((z : Int) < (n : Int)) = true := by simp; omega
              by_cases hkd : 0 < kind
              · have f1 : decide (0 < kind) = true := by simpa using hkd
                have f2 : decide (kind ≤ 0) = false := by simp; omega
                have es := rspent_spent M5.out.good z kind hkd
                go_wp2_with (first | (go_at_call 14; refine (clock_any m F n c L' s' z _ M5.out).mono ?_; rintro _ w' ⟨rfl, rfl⟩) | (go_at_call 15; refine (rclock_any [m, F] w.heap.size r n L' s' z _ R5.out (by omega)).mono ?_; rintro _ w' ⟨rfl, rfl⟩) | (go_at_call 16; refine (idle_any m F n c L' s' z _ M5.out).mono ?_; rintro _ w' ⟨rfl, rfl⟩) | (go_at_call 18; refine (spent_any m F n c L' s' z kind _ M5.out).mono ?_; rintro _ w' ⟨rfl, rfl⟩) | (go_at_call 17; first | (with_reducible refine (rspent_any [m, F] w.heap.size r n L' s' z 0 _ R5.out (by omega)).mono ?_; rintro _ w' ⟨rfl, rfl⟩; rw [ei]) | (with_reducible refine (rspent_any [m, F] w.heap.size r n L' s' z kind _ R5.out (by omega)).mono ?_; rintro _ w' ⟨rfl, rfl⟩; rw [es])))
                go_round
                case rel => exact ⟨(z : Int) + 1, by omega, by omega, by go_num⟩
                case measure => simp [intOf]; omega
              · have f1 : decide (0 < kind) = false := by simpa using hkd
                have f2 : decide (kind ≤ 0) = true := by simp; omega
                have s0 : spentA n L' z kind = 0 := by unfold spentA; rw [if_neg (fun g => by omega)]
                have n4 : (spentA n L' z kind != 0) = false := by rw [s0]; rfl
                have es : True := trivial
                clear s0
                go_wp2_with (first | (go_at_call 14; refine (clock_any m F n c L' s' z _ M5.out).mono ?_; rintro _ w' ⟨rfl, rfl⟩) | (go_at_call 15; refine (rclock_any [m, F] w.heap.size r n L' s' z _ R5.out (by omega)).mono ?_; rintro _ w' ⟨rfl, rfl⟩) | (go_at_call 16; refine (idle_any m F n c L' s' z _ M5.out).mono ?_; rintro _ w' ⟨rfl, rfl⟩) | (go_at_call 18; refine (spent_any m F n c L' s' z kind _ M5.out).mono ?_; rintro _ w' ⟨rfl, rfl⟩) | (go_at_call 17; first | (with_reducible refine (rspent_any [m, F] w.heap.size r n L' s' z 0 _ R5.out (by omega)).mono ?_; rintro _ w' ⟨rfl, rfl⟩; rw [ei]) | (with_reducible refine (rspent_any [m, F] w.heap.size r n L' s' z kind _ R5.out (by omega)).mono ?_; rintro _ w' ⟨rfl, rfl⟩; rw [es])))
                go_round
                case rel => exact ⟨(z : Int) + 1, by omega, by omega, by go_num⟩
                case measure => simp [intOf]; omega
          · go_wp2
            go_roundw
            case rel => exact ⟨k + 1, by omega, by go_num, ⟨_, _, M5.out, R5.out, hl2⟩, O6.out⟩
            case measure => simp [intOf]; omega
      · rw [hu] at c3
        have ha := Only.alloc [] wr (.cells #[.int .i64 (x.co k), .int .i64 (x.kd k), .int .u64 (x.ti k), .bool true] 35)
        have a0 : (wr.alloc (.cells #[.int .i64 (x.co k), .int .i64 (x.kd k), .int .u64 (x.ti k), .bool true] 35)).drew.cell? ⟨wr.heap.size, 0, none⟩ = some (.int .i64 (x.co k)) := by simp
        have a1 : (wr.alloc (.cells #[.int .i64 (x.co k), .int .i64 (x.kd k), .int .u64 (x.ti k), .bool true] 35)).drew.cell? ⟨wr.heap.size, 1, none⟩ = some (.int .i64 (x.kd k)) := by simp
        have a2 : (wr.alloc (.cells #[.int .i64 (x.co k), .int .i64 (x.kd k), .int .u64 (x.ti k), .bool true] 35)).drew.cell? ⟨wr.heap.size, 2, none⟩ = some (.int .u64 (x.ti k)) := by simp
        have a3 : (wr.alloc (.cells #[.int .i64 (x.co k), .int .i64 (x.kd k), .int .u64 (x.ti k), .bool true] 35)).drew.cell? ⟨wr.heap.size, 3, none⟩ = some (.bool true) := by simp
        have hd := Only.drewN [] (wr.alloc (.cells #[.int .i64 (x.co k), .int .i64 (x.kd k), .int .u64 (x.ti k), .bool true] 35)) 1
        have la : wr.heap.size < (wr.alloc (.cells #[.int .i64 (x.co k), .int .i64 (x.kd k), .int .u64 (x.ti k), .bool true] 35)).drew.heap.size := by simp
        have MA : Hid (Met (wr.alloc (.cells #[.int .i64 (x.co k), .int .i64 (x.kd k), .int .u64 (x.ti k), .bool true] 35)).drew m F n c L s) := (MH.out.kept ha (by simp) (by simp)).kept hd (by simp) (by simp)
        have OA : Hid (Only [] w (wr.alloc (.cells #[.int .i64 (x.co k), .int .i64 (x.kd k), .int .u64 (x.ti k), .bool true] 35)).drew) := (OH.out.next ha (by simp)).next hd (by simp)
        have CA : Hid (Costs (wr.alloc (.cells #[.int .i64 (x.co k), .int .i64 (x.kd k), .int .u64 (x.ti k), .bool true] 35)).drew) := (CH.out.kept ha (by simp)).kept hd (by simp)
        have RA : Hid (RMet (wr.heap.size :: [m, F]) w.heap.size (wr.alloc (.cells #[.int .i64 (x.co k), .int .i64 (x.kd k), .int .u64 (x.ti k), .bool true] 35)).drew r n L s) := RH.out.more (ha.trans hd) wr.heap.size (Nat.le_refl _) la
        have LN := Lib.hid (len_wait n L s (x.co k) (x.ti k))
        have nx : ∀ z : Int, (z != z) = false := fun z => by simp
        clear ha hd
        go_wp2_with fail
        refine wp_region_noPanic ?_
        refine wp_region_held_drew (S := fun w' => w'.cell? ⟨wr.heap.size, 0, none⟩ = some (.int .i64 (x.co k)) ∧ w'.cell? ⟨wr.heap.size, 1, none⟩ = some (.int .i64 (x.kd k)) ∧ w'.cell? ⟨wr.heap.size, 2, none⟩ = some (.int .u64 (x.ti k)) ∧ w'.cell? ⟨wr.heap.size, 3, none⟩ = some (.bool true)) (by kernel_rfl) ⟨a0, a1, a2, a3⟩ (fun _ => ?_)
        refine wpAnyH_take (i := 0) (oi := ⟨some 64, _, _, _, _, _⟩) rfl (by kernel_rfl) (by kernel_rfl) (by kernel_rfl) (fun _ _ _ h => h) (y_run (v := .pointer (some ⟨wr.heap.size, 3, none⟩)) (by kernel_rfl) (fun _ => by kernel_rfl)) ⟨a0, a1, a2, a3⟩ ?_
        refine wpAnyH_take (i := 1) (oi := ⟨some 65, _, _, _, _, _⟩) rfl (by kernel_rfl) (by kernel_rfl) (by kernel_rfl) (fun _ _ _ h => h) (y_bool wr.heap.size 3 true (by kernel_rfl) (fun _ h => h.2.2.2) (.tmp 64) (by kernel_rfl) rfl) ⟨a0, a1, a2, a3⟩ ?_
        refine wpAnyH_take (i := 2) (oi := ⟨some 66, _, _, _, _, _⟩) rfl (by kernel_rfl) (by kernel_rfl) (by kernel_rfl) (fun _ _ _ h => h) (y_run (v := .bool true) (by kernel_rfl) (fun _ => by kernel_rfl)) ⟨a0, a1, a2, a3⟩ ?_
        refine wpAnyH_take (i := 3) (oi := ⟨some 67, _, _, _, _, _⟩) rfl (by kernel_rfl) (by kernel_rfl) (by kernel_rfl) (fun _ _ _ h => h) (y_run (v := .pointer (some ⟨m, 0, none⟩)) (by kernel_rfl) (fun _ => by kernel_rfl)) ⟨a0, a1, a2, a3⟩ ?_
        refine wpAnyH_take (i := 4) (oi := ⟨some 68, _, _, _, _, _⟩) rfl (by kernel_rfl) (by kernel_rfl) (by kernel_rfl) (fun _ _ _ h => h) (y_run (v := .pointer (some ⟨wr.heap.size, 0, none⟩)) (by kernel_rfl) (fun _ => by kernel_rfl)) ⟨a0, a1, a2, a3⟩ ?_
        refine wpAnyH_take (i := 5) (oi := ⟨some 69, _, _, _, _, _⟩) rfl (by kernel_rfl) (by kernel_rfl) (by kernel_rfl) (fun _ _ _ h => h) (y_int wr.heap.size 0 (x.co k) (by kernel_rfl) (fun _ h => h.1) (.tmp 68) (by kernel_rfl) rfl) ⟨a0, a1, a2, a3⟩ ?_
        refine wpAnyH_take (i := 6) (oi := ⟨some 70, _, _, _, _, _⟩) rfl (by kernel_rfl) (by kernel_rfl) (by kernel_rfl) (fun _ _ _ h => h) (y_run (v := .pointer (some ⟨wr.heap.size, 2, none⟩)) (by kernel_rfl) (fun _ => by kernel_rfl)) ⟨a0, a1, a2, a3⟩ ?_
        refine wpAnyH_take (i := 7) (oi := ⟨some 71, _, _, _, _, _⟩) rfl (by kernel_rfl) (by kernel_rfl) (by kernel_rfl) (fun _ _ _ h => h) (y_u64 wr.heap.size 2 (x.ti k) (by kernel_rfl) (fun _ h => h.2.2.1) (.tmp 70) (by kernel_rfl) rfl) ⟨a0, a1, a2, a3⟩ ?_
        refine wpAnyH_take (i := 9) (oi := ⟨some 73, _, _, _, _, _⟩) rfl (by kernel_rfl) (by kernel_rfl) (by kernel_rfl) (fun _ _ _ h => h) (y_run (v := .pointer (some ⟨r, 0, none⟩)) (by kernel_rfl) (fun _ => by kernel_rfl)) ⟨a0, a1, a2, a3⟩ ?_
        refine wpAnyH_take (i := 10) (oi := ⟨some 74, _, _, _, _, _⟩) rfl (by kernel_rfl) (by kernel_rfl) (by kernel_rfl) (fun _ _ _ h => h) (y_run (v := .pointer (some ⟨wr.heap.size, 0, none⟩)) (by kernel_rfl) (fun _ => by kernel_rfl)) ⟨a0, a1, a2, a3⟩ ?_
        refine wpAnyH_take (i := 11) (oi := ⟨some 75, _, _, _, _, _⟩) rfl (by kernel_rfl) (by kernel_rfl) (by kernel_rfl) (fun _ _ _ h => h) (y_int wr.heap.size 0 (x.co k) (by kernel_rfl) (fun _ h => h.1) (.tmp 74) (by kernel_rfl) rfl) ⟨a0, a1, a2, a3⟩ ?_
        refine wpAnyH_take (i := 12) (oi := ⟨some 76, _, _, _, _, _⟩) rfl (by kernel_rfl) (by kernel_rfl) (by kernel_rfl) (fun _ _ _ h => h) (y_run (v := .pointer (some ⟨wr.heap.size, 2, none⟩)) (by kernel_rfl) (fun _ => by kernel_rfl)) ⟨a0, a1, a2, a3⟩ ?_
        refine wpAnyH_take (i := 13) (oi := ⟨some 77, _, _, _, _, _⟩) rfl (by kernel_rfl) (by kernel_rfl) (by kernel_rfl) (fun _ _ _ h => h) (y_u64 wr.heap.size 2 (x.ti k) (by kernel_rfl) (fun _ h => h.2.2.1) (.tmp 76) (by kernel_rfl) rfl) ⟨a0, a1, a2, a3⟩ ?_
        simp only [Act.put, List.setIfInBounds_toArray, List.set_cons_zero, List.set_cons_succ]
        refine wpAnyH_ready (rs := [8]) (by kernel_rfl) (by simp) ?_
        refine AllReadyH.cons (o := ⟨some 72, .call _, _, _, _, _⟩) rfl (fun K hK => ?_) AllReadyH.nil
        go_simp
        refine (wait_any m F n c (x.co k) L s (x.ti k) _ MA.out t1).mono ?_
        rintro _ w3 ⟨rfl, hM3, hO3⟩
        have b0 := (hO3.cell la (by simp; omega) 0).trans a0
        have b1 := (hO3.cell la (by simp; omega) 1).trans a1
        have b2 := (hO3.cell la (by simp; omega) 2).trans a2
        have b3 := (hO3.cell la (by simp; omega) 3).trans a3
        refine hK.out _ _ ⟨b0, b1, b2, b3⟩ (fun _ => ?_)
        have M3 := Lib.hid hM3
        have OM := Lib.hid hO3
        clear hK K hM3 hO3
        refine wpAnyH_ready (rs := [14]) (by kernel_rfl) (by simp) ?_
        refine AllReadyH.cons (o := ⟨some 78, .call _, _, _, _, _⟩) rfl (fun K hK => ?_) AllReadyH.nil
        go_simp
        refine (rwait_any (wr.heap.size :: [m, F]) w.heap.size r n L s (x.co k) (x.ti k) _ (RA.out.kept OM.out (by simp)) (by omega) t1 (by have := OM.out.size; omega)).mono ?_
        rintro _ w4 ⟨rfl, hR4, hF4⟩
        obtain ⟨T4, hO4, hT4⟩ := hF4
        have k0 := (hO4.cell (b := wr.heap.size) (by have := OM.out.size; omega) (fun hx => (hT4 _ hx).2 (by simp)) 0).trans b0
        have k1 := (hO4.cell (b := wr.heap.size) (by have := OM.out.size; omega) (fun hx => (hT4 _ hx).2 (by simp)) 1).trans b1
        have k2 := (hO4.cell (b := wr.heap.size) (by have := OM.out.size; omega) (fun hx => (hT4 _ hx).2 (by simp)) 2).trans b2
        have k3 := (hO4.cell (b := wr.heap.size) (by have := OM.out.size; omega) (fun hx => (hT4 _ hx).2 (by simp)) 3).trans b3
        refine hK.out _ _ ⟨k0, k1, k2, k3⟩ (fun _ => ?_)
        have R4 := Lib.hid hR4
        have O4 := Lib.hid hO4
        have H4 := Lib.hid hT4
        clear hK K hR4 hO4 hT4
        refine wpAnyH_take (i := 15) (oi := ⟨some 79, _, _, _, _, _⟩) rfl (by kernel_rfl) (by kernel_rfl) (by kernel_rfl) (fun _ _ _ h => h) (y_neq (wait n L s (x.co k) (x.ti k)).e (by kernel_rfl) (.tmp 72) (.tmp 78) (by kernel_rfl) (by kernel_rfl) rfl) ⟨k0, k1, k2, k3⟩ ?_
        refine wpAnyH_take (i := 16) (oi := ⟨some 80, _, _, _, _, _⟩) rfl (by kernel_rfl) (by kernel_rfl) (by kernel_rfl) (fun _ _ _ h => h) (y_run (v := .bool false) (by kernel_rfl) (fun _ => by kernel_rfl)) ⟨k0, k1, k2, k3⟩ ?_
        refine wpAnyH_take (i := 17) (oi := ⟨some 81, _, _, _, _, _⟩) rfl (by kernel_rfl) (by kernel_rfl) (by kernel_rfl) (fun _ _ _ h => h) (y_run (v := .bool false) (by kernel_rfl) (fun _ => by kernel_rfl)) ⟨k0, k1, k2, k3⟩ ?_
        refine wpAnyH_take (i := 18) (oi := ⟨some 82, _, _, _, _, _⟩) rfl (by kernel_rfl) (by kernel_rfl) (by kernel_rfl) (fun _ _ _ h => h) (y_run (v := .pointer (some ⟨wr.heap.size, 3, none⟩)) (by kernel_rfl) (fun _ => by kernel_rfl)) ⟨k0, k1, k2, k3⟩ ?_
        refine wpAnyH_take (i := 19) (oi := ⟨some 83, _, _, _, _, _⟩) rfl (by kernel_rfl) (by kernel_rfl) (by kernel_rfl) (fun _ _ _ h => h) (y_bool wr.heap.size 3 true (by kernel_rfl) (fun _ h => h.2.2.2) (.tmp 82) (by kernel_rfl) rfl) ⟨k0, k1, k2, k3⟩ ?_
        refine wpAnyH_take (i := 20) (oi := ⟨some 84, _, _, _, _, _⟩) rfl (by kernel_rfl) (by kernel_rfl) (by kernel_rfl) (fun _ _ _ h => h) (y_run (v := .bool false) (by kernel_rfl) (fun _ => by kernel_rfl)) ⟨k0, k1, k2, k3⟩ ?_
        refine wpAnyH_take (i := 21) (oi := ⟨some 85, _, _, _, _, _⟩) rfl (by kernel_rfl) (by kernel_rfl) (by kernel_rfl) (fun _ _ _ h => h) (y_run (v := .bool false) (by kernel_rfl) (fun _ => by kernel_rfl)) ⟨k0, k1, k2, k3⟩ ?_
        refine wpAnyH_take (i := 22) (oi := ⟨some 86, _, _, _, _, _⟩) rfl (by kernel_rfl) (by kernel_rfl) (by kernel_rfl) (fun _ _ _ h => h) (y_off (by kernel_rfl)) ⟨k0, k1, k2, k3⟩ ?_
        refine wpAnyH_take (i := 23) (oi := ⟨some 87, _, _, _, _, _⟩) rfl (by kernel_rfl) (by kernel_rfl) (by kernel_rfl) (fun _ _ _ h => h) (y_off (by kernel_rfl)) ⟨k0, k1, k2, k3⟩ ?_
        refine wpAnyH_take (i := 24) (oi := ⟨some 88, _, _, _, _, _⟩) rfl (by kernel_rfl) (by kernel_rfl) (by kernel_rfl) (fun _ _ _ h => h) (y_off (by kernel_rfl)) ⟨k0, k1, k2, k3⟩ ?_
        refine wpAnyH_take (i := 25) (oi := ⟨some 89, _, _, _, _, _⟩) rfl (by kernel_rfl) (by kernel_rfl) (by kernel_rfl) (fun _ _ _ h => h) (y_off (by kernel_rfl)) ⟨k0, k1, k2, k3⟩ ?_
        refine wpAnyH_take (i := 26) (oi := ⟨some 90, _, _, _, _, _⟩) rfl (by kernel_rfl) (by kernel_rfl) (by kernel_rfl) (fun _ _ _ h => h) (y_off (by kernel_rfl)) ⟨k0, k1, k2, k3⟩ ?_
        refine wpAnyH_take (i := 27) (oi := ⟨some 91, _, _, _, _, _⟩) rfl (by kernel_rfl) (by kernel_rfl) (by kernel_rfl) (fun _ _ _ h => h) (y_off (by kernel_rfl)) ⟨k0, k1, k2, k3⟩ ?_
        refine wpAnyH_take (i := 28) (oi := ⟨some 92, _, _, _, _, _⟩) rfl (by kernel_rfl) (by kernel_rfl) (by kernel_rfl) (fun _ _ _ h => h) (y_off (by kernel_rfl)) ⟨k0, k1, k2, k3⟩ ?_
        refine wpAnyH_take (i := 29) (oi := ⟨some 93, _, _, _, _, _⟩) rfl (by kernel_rfl) (by kernel_rfl) (by kernel_rfl) (fun _ _ _ h => h) (y_off (by kernel_rfl)) ⟨k0, k1, k2, k3⟩ ?_
        refine wpAnyH_take (i := 30) (oi := ⟨some 94, _, _, _, _, _⟩) rfl (by kernel_rfl) (by kernel_rfl) (by kernel_rfl) (fun _ _ _ h => h) (y_off (by kernel_rfl)) ⟨k0, k1, k2, k3⟩ ?_
        refine wpAnyH_take (i := 31) (oi := ⟨some 95, _, _, _, _, _⟩) rfl (by kernel_rfl) (by kernel_rfl) (by kernel_rfl) (fun _ _ _ h => h) (y_off (by kernel_rfl)) ⟨k0, k1, k2, k3⟩ ?_
        refine wpAnyH_take (i := 32) (oi := ⟨some 96, _, _, _, _, _⟩) rfl (by kernel_rfl) (by kernel_rfl) (by kernel_rfl) (fun _ _ _ h => h) (y_off (by kernel_rfl)) ⟨k0, k1, k2, k3⟩ ?_
        refine wpAnyH_take (i := 33) (oi := ⟨some 97, _, _, _, _, _⟩) rfl (by kernel_rfl) (by kernel_rfl) (by kernel_rfl) (fun _ _ _ h => h) (y_off (by kernel_rfl)) ⟨k0, k1, k2, k3⟩ ?_
        refine wpAnyH_take (i := 34) (oi := ⟨some 98, _, _, _, _, _⟩) rfl (by kernel_rfl) (by kernel_rfl) (by kernel_rfl) (fun _ _ _ h => h) (y_off (by kernel_rfl)) ⟨k0, k1, k2, k3⟩ ?_
        refine wpAnyH_take (i := 35) (oi := ⟨some 99, _, _, _, _, _⟩) rfl (by kernel_rfl) (by kernel_rfl) (by kernel_rfl) (fun _ _ _ h => h) (y_off (by kernel_rfl)) ⟨k0, k1, k2, k3⟩ ?_
        refine wpAnyH_take (i := 36) (oi := ⟨some 100, _, _, _, _, _⟩) rfl (by kernel_rfl) (by kernel_rfl) (by kernel_rfl) (fun _ _ _ h => h) (y_off (by kernel_rfl)) ⟨k0, k1, k2, k3⟩ ?_
        refine wpAnyH_take (i := 37) (oi := ⟨some 101, _, _, _, _, _⟩) rfl (by kernel_rfl) (by kernel_rfl) (by kernel_rfl) (fun _ _ _ h => h) (y_off (by kernel_rfl)) ⟨k0, k1, k2, k3⟩ ?_
        refine wpAnyH_take (i := 38) (oi := ⟨some 102, _, _, _, _, _⟩) rfl (by kernel_rfl) (by kernel_rfl) (by kernel_rfl) (fun _ _ _ h => h) (y_off (by kernel_rfl)) ⟨k0, k1, k2, k3⟩ ?_
        refine wpAnyH_take (i := 39) (oi := ⟨some 103, _, _, _, _, _⟩) rfl (by kernel_rfl) (by kernel_rfl) (by kernel_rfl) (fun _ _ _ h => h) (y_run (v := .bool false) (by kernel_rfl) (fun _ => by kernel_rfl)) ⟨k0, k1, k2, k3⟩ ?_
        refine wpAnyH_take (i := 40) (oi := ⟨some 104, _, _, _, _, _⟩) rfl (by kernel_rfl) (by kernel_rfl) (by kernel_rfl) (fun _ _ _ h => h) (y_run (v := .bool false) (by kernel_rfl) (fun _ => by kernel_rfl)) ⟨k0, k1, k2, k3⟩ ?_
        refine wpAnyH_done (by kernel_rfl) ?_ _
        simp only [Act.put, List.setIfInBounds_toArray, List.set_cons_zero, List.set_cons_succ]
        refine NoPanic.normal ?_
        have FM : m ∉ T4 := fun hx => (H4.out m hx).2 (by simp)
        have FF : F ∉ T4 := fun hx => (H4.out F hx).2 (by simp)
        have M4 := Lib.hid (M3.out.kept O4.out FM FF)
        have R4 := Lib.hid R4.out.less
        have O5 := Lib.hid ((OA.out.next OM.out (by simp; omega)).next O4.out (fun y hy => .inr (H4.out y hy).1))
        clear FM FF M3 OM O4 H4 MA OA CA RA MH RH OH CH a0 a1 a2 a3 b0 b1 b2 b3 k0 k1 k2 k3 c0 c1 c2 c3
        generalize wait n L s (x.co k) (x.ti k) = q at *
        obtain ⟨e, L', s'⟩ := q
        have hl2 : L'.length ≤ k + 1 := Nat.le_trans LN.out (by omega)
        have rs := R4.out.c2
        have ns : (s' != s') = false := by simp
        clear LN
        go_wp2_with fail
        have MZ : Hid (∀ n', Met (w4.drewN n') m F n c L' s') := fun n' => M4.out.kept (Only.drewN [] _ n') (by simp) (by simp)
        go_quiet (first | (go_at_call 13; exact Calls.quiet_of_same ((stopped_any m s' _ (MZ.out _).stop).mono fun _ _ ⟨h, h'⟩ => ⟨h, h'.symm⟩)))
        have M5 := Lib.hid (M4.out.kept (Only.drewN [] w4 nq) (by simp) (by simp))
        have R5 := Lib.hid (R4.out.kept (Only.drewN [] w4 nq) (by simp))
        have O6 := Lib.hid (O5.out.next (Only.drewN [] w4 nq) (by simp))
        clear M4 R4 O5 rs MZ
        generalize w4.drewN nq = w5 at *
        go_wp2_with fail
        go_loop [14, 15] (fun q _ => ∃ kk : Int, -1 ≤ kk ∧ kk ≤ (n : Int) + 1 ∧ q = .int .i64 kk) (fun q _ => ((n : Int) + 1 - intOf q).toNat)
        case atStart => exact ⟨-1, by omega, by omega, rfl⟩
        case round =>
          obtain ⟨kk, kl, kh, rfl⟩ := hrel
          by_cases hkn : kk ≤ (n : Int)
          · have ei := rspent_idle M5.out.good kk
            have n1' : (clkA n L' kk != clkA n L' kk) = false := by simp
            have n2 : (idleA n L' kk != idleA n L' kk) = false := by simp
            have n3 : (spentA n L' kk kind != spentA n L' kk kind) = false := by simp
            cases hin : inR n kk
            · have z0 : clkA n L' kk = 0 := by unfold clkA; rw [hin]; rfl
              have z1 : (clkA n L' kk != 0) = false := by rw [z0]; rfl
              have no := inR_no hin
              have TH : Hid (∀ P : Prop, (decide (0 ≤ kk) = false → P) → (decide (0 ≤ kk) = true → decide (kk < (n : Int)) = false → P) → P) := fun P h1 h2 => by
                by_cases g : 0 ≤ kk
                · exact h2 (by simpa using g) (by simp; omega)
                · exact h1 (by simpa using g)
              clear z0 no hin
              by_cases hkd : 0 < kind
              · have f1 : decide (0 < kind) = true := by simpa using hkd
                have f2 : decide (kind ≤ 0) = false := by simp; omega
                have es := rspent_spent M5.out.good kk kind hkd
                refine TH.out _ ?_ ?_
                · intro g1
                  go_wp2_with (first | (go_at_call 14; refine (clock_any m F n c L' s' kk _ M5.out).mono ?_; rintro _ w' ⟨rfl, rfl⟩) | (go_at_call 15; refine (rclock_any [m, F] w.heap.size r n L' s' kk _ R5.out (by omega)).mono ?_; rintro _ w' ⟨rfl, rfl⟩) | (go_at_call 16; refine (idle_any m F n c L' s' kk _ M5.out).mono ?_; rintro _ w' ⟨rfl, rfl⟩) | (go_at_call 18; refine (spent_any m F n c L' s' kk kind _ M5.out).mono ?_; rintro _ w' ⟨rfl, rfl⟩) | (go_at_call 17; first | (with_reducible refine (rspent_any [m, F] w.heap.size r n L' s' kk 0 _ R5.out (by omega)).mono ?_; rintro _ w' ⟨rfl, rfl⟩; rw [ei]) | (with_reducible refine (rspent_any [m, F] w.heap.size r n L' s' kk kind _ R5.out (by omega)).mono ?_; rintro _ w' ⟨rfl, rfl⟩; rw [es])))
                  go_round
                  case rel => exact ⟨kk + 1, by omega, by omega, by go_num⟩
                  case measure => simp [intOf]; omega
                · intro g1 g2
                  go_wp2_with (first | (go_at_call 14; refine (clock_any m F n c L' s' kk _ M5.out).mono ?_; rintro _ w' ⟨rfl, rfl⟩) | (go_at_call 15; refine (rclock_any [m, F] w.heap.size r n L' s' kk _ R5.out (by omega)).mono ?_; rintro _ w' ⟨rfl, rfl⟩) | (go_at_call 16; refine (idle_any m F n c L' s' kk _ M5.out).mono ?_; rintro _ w' ⟨rfl, rfl⟩) | (go_at_call 18; refine (spent_any m F n c L' s' kk kind _ M5.out).mono ?_; rintro _ w' ⟨rfl, rfl⟩) | (go_at_call 17; first | (with_reducible refine (rspent_any [m, F] w.heap.size r n L' s' kk 0 _ R5.out (by omega)).mono ?_; rintro _ w' ⟨rfl, rfl⟩; rw [ei]) | (with_reducible refine (rspent_any [m, F] w.heap.size r n L' s' kk kind _ R5.out (by omega)).mono ?_; rintro _ w' ⟨rfl, rfl⟩; rw [es])))
                  go_round
                  case rel => exact ⟨kk + 1, by omega, by omega, by go_num⟩
                  case measure => simp [intOf]; omega
              · have f1 : decide (0 < kind) = false := by simpa using hkd
                have f2 : decide (kind ≤ 0) = true := by simp; omega
                have s0 : spentA n L' kk kind = 0 := by unfold spentA; rw [if_neg (fun g => by omega)]
                have n4 : (spentA n L' kk kind != 0) = false := by rw [s0]; rfl
                have es : True := trivial
                clear s0
                refine TH.out _ ?_ ?_
                · intro g1
                  go_wp2_with (first | (go_at_call 14; refine (clock_any m F n c L' s' kk _ M5.out).mono ?_; rintro _ w' ⟨rfl, rfl⟩) | (go_at_call 15; refine (rclock_any [m, F] w.heap.size r n L' s' kk _ R5.out (by omega)).mono ?_; rintro _ w' ⟨rfl, rfl⟩) | (go_at_call 16; refine (idle_any m F n c L' s' kk _ M5.out).mono ?_; rintro _ w' ⟨rfl, rfl⟩) | (go_at_call 18; refine (spent_any m F n c L' s' kk kind _ M5.out).mono ?_; rintro _ w' ⟨rfl, rfl⟩) | (go_at_call 17; first | (with_reducible refine (rspent_any [m, F] w.heap.size r n L' s' kk 0 _ R5.out (by omega)).mono ?_; rintro _ w' ⟨rfl, rfl⟩; rw [ei]) | (with_reducible refine (rspent_any [m, F] w.heap.size r n L' s' kk kind _ R5.out (by omega)).mono ?_; rintro _ w' ⟨rfl, rfl⟩; rw [es])))
                  go_round
                  case rel => exact ⟨kk + 1, by omega, by omega, by go_num⟩
                  case measure => simp [intOf]; omega
                · intro g1 g2
                  go_wp2_with (first | (go_at_call 14; refine (clock_any m F n c L' s' kk _ M5.out).mono ?_; rintro _ w' ⟨rfl, rfl⟩) | (go_at_call 15; refine (rclock_any [m, F] w.heap.size r n L' s' kk _ R5.out (by omega)).mono ?_; rintro _ w' ⟨rfl, rfl⟩) | (go_at_call 16; refine (idle_any m F n c L' s' kk _ M5.out).mono ?_; rintro _ w' ⟨rfl, rfl⟩) | (go_at_call 18; refine (spent_any m F n c L' s' kk kind _ M5.out).mono ?_; rintro _ w' ⟨rfl, rfl⟩) | (go_at_call 17; first | (with_reducible refine (rspent_any [m, F] w.heap.size r n L' s' kk 0 _ R5.out (by omega)).mono ?_; rintro _ w' ⟨rfl, rfl⟩; rw [ei]) | (with_reducible refine (rspent_any [m, F] w.heap.size r n L' s' kk kind _ R5.out (by omega)).mono ?_; rintro _ w' ⟨rfl, rfl⟩; rw [es])))
                  go_round
                  case rel => exact ⟨kk + 1, by omega, by omega, by go_num⟩
                  case measure => simp [intOf]; omega
            · obtain ⟨z, rfl, hz⟩ := inR_yes hin
              have g1 : decide ((0 : Int) ≤ (z : Int)) = true := by simp
              have g2 : decide ((z : Int) < (n : Int)) = true := by simp; omega
              by_cases hkd : 0 < kind
              · have f1 : decide (0 < kind) = true := by simpa using hkd
                have f2 : decide (kind ≤ 0) = false := by simp; omega
                have es := rspent_spent M5.out.good z kind hkd
                go_wp2_with (first | (go_at_call 14; refine (clock_any m F n c L' s' z _ M5.out).mono ?_; rintro _ w' ⟨rfl, rfl⟩) | (go_at_call 15; refine (rclock_any [m, F] w.heap.size r n L' s' z _ R5.out (by omega)).mono ?_; rintro _ w' ⟨rfl, rfl⟩) | (go_at_call 16; refine (idle_any m F n c L' s' z _ M5.out).mono ?_; rintro _ w' ⟨rfl, rfl⟩) | (go_at_call 18; refine (spent_any m F n c L' s' z kind _ M5.out).mono ?_; rintro _ w' ⟨rfl, rfl⟩) | (go_at_call 17; first | (with_reducible refine (rspent_any [m, F] w.heap.size r n L' s' z 0 _ R5.out (by omega)).mono ?_; rintro _ w' ⟨rfl, rfl⟩; rw [ei]) | (with_reducible refine (rspent_any [m, F] w.heap.size r n L' s' z kind _ R5.out (by omega)).mono ?_; rintro _ w' ⟨rfl, rfl⟩; rw [es])))
                go_round
                case rel => exact ⟨(z : Int) + 1, by omega, by omega, by go_num⟩
                case measure => simp [intOf]; omega
              · have f1 : decide (0 < kind) = false := by simpa using hkd
                have f2 : decide (kind ≤ 0) = true := by simp; omega
                have s0 : spentA n L' z kind = 0 := by unfold spentA; rw [if_neg (fun g => by omega)]
                have n4 : (spentA n L' z kind != 0) = false := by rw [s0]; rfl
                have es : True := trivial
                clear s0
                go_wp2_with (first | (go_at_call 14; refine (clock_any m F n c L' s' z _ M5.out).mono ?_; rintro _ w' ⟨rfl, rfl⟩) | (go_at_call 15; refine (rclock_any [m, F] w.heap.size r n L' s' z _ R5.out (by omega)).mono ?_; rintro _ w' ⟨rfl, rfl⟩) | (go_at_call 16; refine (idle_any m F n c L' s' z _ M5.out).mono ?_; rintro _ w' ⟨rfl, rfl⟩) | (go_at_call 18; refine (spent_any m F n c L' s' z kind _ M5.out).mono ?_; rintro _ w' ⟨rfl, rfl⟩) | (go_at_call 17; first | (with_reducible refine (rspent_any [m, F] w.heap.size r n L' s' z 0 _ R5.out (by omega)).mono ?_; rintro _ w' ⟨rfl, rfl⟩; rw [ei]) | (with_reducible refine (rspent_any [m, F] w.heap.size r n L' s' z kind _ R5.out (by omega)).mono ?_; rintro _ w' ⟨rfl, rfl⟩; rw [es])))
                go_round
                case rel => exact ⟨(z : Int) + 1, by omega, by omega, by go_num⟩
                case measure => simp [intOf]; omega
          · go_wp2
            go_roundw
            case rel => exact ⟨k + 1, by omega, by go_num, ⟨_, _, M5.out, R5.out, hl2⟩, O6.out⟩
            case measure => simp [intOf]; omega
    · go_wp2_with fail
      clear hlt HC
      have BQ := Lib.hid (HB.out.kept OH.out (by simp))
      have CQ := Lib.hid (C0.out.kept OH.out (by simp))
      obtain ⟨wy, hwy⟩ : ∃ wy, wy = wr := ⟨_, rfl⟩
      subst hwy
      go_loop [16, 17] (fun p i => ∃ j : Nat, j ≤ min lb n ∧ i = .int .i64 j ∧ p = .int .i64 (leastF L bb j)) (fun _ i => min lb n - (intOf i).toNat)
      case atStart => exact ⟨0, by omega, rfl, rfl⟩
      case round =>
        obtain ⟨j, hj, rfl, rfl⟩ := hrel
        by_cases hjl : j < min lb n
        · obtain ⟨g, off, epa, hgB, hgw, hcc⟩ := BQ.out (by omega)
          subst epa
          have cj := hcc j (by omega)
          have d5 : decide ((j : Int) < (n : Int)) = true := by simp; omega
          have d6 : decide ((j : Int) < (lb : Int)) = true := by simp; omega
          have rg := leastF_range L bb j
          have kc : clkA n L j = clk L j := by unfold clkA; rw [if_pos (inR_nat n j (by omega))]; rfl
          have jn : j < n := by omega
          have jb : (j : Int) < lb := by omega
          have jm : j + 1 ≤ min lb n := by omega
          have ms : min lb n - (j + 1) < min lb n - j := by omega
          clear hcc hj hjl
          cases hbj : bb j
          · rw [hbj] at cj
            have E := Lib.hid (show leastF L bb (j + 1) = leastF L bb j by show (if _ then _ else _) = _; rw [if_neg (by simp [hbj])])
            generalize leastF L bb j = p at *
            go_wp2
            go_round
            case rel => exact ⟨j + 1, jm, by go_num, by rw [E.out]⟩
            case measure => simpa [intOf] using ms
          · rw [hbj] at cj
            by_cases hp : leastF L bb j < 0
            · have E := Lib.hid (show leastF L bb (j + 1) = j by show (if _ then _ else _) = _; rw [if_pos ⟨hbj, .inl hp⟩])
              have dp : decide (leastF L bb j < 0) = true := by simpa using hp
              generalize leastF L bb j = p at *
              go_wp2
              go_round
              case rel => exact ⟨j + 1, jm, by go_num, by rw [E.out]⟩
              case measure => simpa [intOf] using ms
            · obtain ⟨p, ep⟩ := Int.eq_ofNat_of_zero_le (show 0 ≤ leastF L bb j by omega)
              have dp : decide ((p : Int) < 0) = false := by simp
              have pcl : clkA n L p = clk L p := by unfold clkA; rw [if_pos (inR_nat n p (by omega))]; rfl
              by_cases hc : clk L j < clk L p
              · have E := Lib.hid (show leastF L bb (j + 1) = j by show (if _ then _ else _) = _; rw [if_pos ⟨hbj, .inr (by rw [ep]; exact hc)⟩])
                have dc : decide (clk L j < clk L p) = true := by simpa using hc
                rw [ep] at *
                clear ep rg hp
                go_wp2_with (go_at_call 15; first | (with_reducible refine (rclock_any [m, F] w.heap.size r n L s j _ RH.out (by omega)).mono ?_; rintro _ w' ⟨rfl, rfl⟩; rw [kc]) | (with_reducible refine (rclock_any [m, F] w.heap.size r n L s p _ RH.out (by omega)).mono ?_; rintro _ w' ⟨rfl, rfl⟩; rw [pcl]))
                go_round
                case rel => exact ⟨j + 1, jm, by go_num, by rw [E.out]⟩
                case measure => simpa [intOf] using ms
              · have E := Lib.hid (show leastF L bb (j + 1) = p by
                  show (if _ then _ else _) = _
                  rw [if_neg, ep]
                  rintro ⟨_, h | h⟩
                  · exact hp h
                  · rw [ep] at h; exact hc h)
                have dc : decide (clk L j < clk L p) = false := by simpa using hc
                rw [ep] at *
                clear ep rg hp
                go_wp2_with (go_at_call 15; first | (with_reducible refine (rclock_any [m, F] w.heap.size r n L s j _ RH.out (by omega)).mono ?_; rintro _ w' ⟨rfl, rfl⟩; rw [kc]) | (with_reducible refine (rclock_any [m, F] w.heap.size r n L s p _ RH.out (by omega)).mono ?_; rintro _ w' ⟨rfl, rfl⟩; rw [pcl]))
                go_round
                case rel => exact ⟨j + 1, jm, by go_num, by rw [E.out]⟩
                case measure => simpa [intOf] using ms
        · have ej : j = min lb n := by omega
          have EJ := Lib.hid (show leastF L bb (min lb n) = leastF L bb j by rw [ej])
          have ENDS : Hid (∀ P : Prop, (n ≤ j → P) → (j < n → lb ≤ j → P) → P) := fun P h1 h2 => by
            by_cases g : j < n
            · exact h2 g (by omega)
            · exact h1 (by omega)
          clear ej hj hjl
          generalize leastF L bb j = p at *
          have e1 : (p == p) = true := by simp
          have e2 : (cost kind == cost kind) = true := by simp
          refine ENDS.out _ ?_ ?_
          · intro g1
            go_wp2_with fail
            refine (least_any m F n c L s w.heap.size pb lb cb bb _ MH.out BQ.out HLB.out).mono ?_
            rintro _ w' ⟨rfl, t, rfl⟩
            rw [EJ.out]
            have CT := Lib.hid (CQ.out.kept (Only.drewN [] _ t) (by simp))
            go_wp2_with fail
            refine (cost_any kind _ CT.out).mono ?_
            rintro _ w' ⟨rfl, rfl⟩
            go_wp2_with fail
            refine (rcost_any kind _).mono ?_
            rintro _ w9 ⟨rfl, hO9⟩
            have O9 := Lib.hid ((OH.out.next (Only.drewN [] _ t) (by simp)).next hO9 (by simp))
            clear hO9
            go_wp2
            go_ret
            exact ⟨rfl, O9.out⟩
          · intro g1 g2
            go_wp2_with fail
            refine (least_any m F n c L s w.heap.size pb lb cb bb _ MH.out BQ.out HLB.out).mono ?_
            rintro _ w' ⟨rfl, t, rfl⟩
            rw [EJ.out]
            have CT := Lib.hid (CQ.out.kept (Only.drewN [] _ t) (by simp))
            go_wp2_with fail
            refine (cost_any kind _ CT.out).mono ?_
            rintro _ w' ⟨rfl, rfl⟩
            go_wp2_with fail
            refine (rcost_any kind _).mono ?_
            rintro _ w9 ⟨rfl, hO9⟩
            have O9 := Lib.hid ((OH.out.next (Only.drewN [] _ t) (by simp)).next hO9 (by simp))
            clear hO9
            go_wp2
            go_ret
            exact ⟨rfl, O9.out⟩
set_option maxRecDepth 100000 in
theorem lifted (os : Os) (started : os.Started) (H : Type) (enc : TypeId × Value → H) :
    ReturnsInHanded {} Tryd.checked os 3 .any (fun w args => (Rows.meterCallsSpec.pre enc Tryd.prog Tryd.f3 [] false w args ∧ laidMetH Tryd.prog Mt.laidL w) ∧ sizedMet enc Tryd.prog Tryd.f3 (OpenSpec.ofChange Rows.meterCallsSpec) false w args)
      (Rows.meterCallsSpec.post enc Tryd.prog Tryd.f3 false true false false) := by
  refine returnsInHanded_of_change_and (C := Tryd.checked) (X := fun w _ => laidMetH Tryd.prog Mt.laidL w) (fun _ _ _ hh h => h.of_heap hh) Mt.own started (by kernel_rfl) Tryd.func3
    (ChangeSpec.witness_shaped (enc := enc) (C := Tryd.checked) (os := os) (X := fun w _ => laidMetH Tryd.prog Mt.laidL w) false (World.doorLaid Tryd.prog 4000 os) #[.int .i64 0, .slice none 0 0, .int .i64 0, .slice none 0 0] 8 rfl (World.shaped_of_RefB (by kernel_rfl) (by kernel_rfl)) (by kernel_rfl) (by kernel_rfl) (by kernel_rfl) (Mt.door_met os _)) ?_
  intro W base args ds gs before hval0 hW _ _ hL _
  have hval : ∀ (j : Nat) t v, Tryd.f3.params[j]? = some t → args[j]? = some v → Value.okWide Tryd.prog W .any base t v := hval0
  have hW' := hW
  obtain ⟨p, q, hA0, hV, rfl, hfz, hnd⟩ := hW
  have hA : DataW.TrodAll enc Tryd.prog W 0 (fun _ => true) true Tryd.f3.params.toList args.toList ds p := hA0
  rw [Tryd.params3] at hA hval
  obtain ⟨v0, vs0, d0, ds0, p0, q0, hargs, rfl, rfl, h0, r0⟩ := trodAll_cons hA
  obtain ⟨v1, vs1, d1, ds1, p1, q1, rfl, rfl, rfl, h1, r1⟩ := trodAll_cons r0
  obtain ⟨v2, vs2, d2, ds2, p2, q2, rfl, rfl, rfl, h2, r2⟩ := trodAll_cons r1
  obtain ⟨v3, vs3, d3, ds3, p3, q3, rfl, rfl, rfl, h3, r3⟩ := trodAll_cons r2
  obtain ⟨rfl, rfl, rfl⟩ := trodAll_nil r3
  obtain rfl : args = #[v0, v1, v2, v3] := by cases args; simp_all
  obtain ⟨rfl, rfl⟩ := trodVars_none hV
  obtain ⟨x0, rfl, rfl, rfl, w0⟩ := open_int Tryd.underlying3 (hval 0 3 v0 rfl rfl) h0
  have k1 := h1
  obtain ⟨a1, n1, c1, y1, rfl, m1, lt1, z1⟩ := calls_open (hval 1 22 v1 rfl rfl) h1
  obtain ⟨x2, rfl, rfl, rfl, w2⟩ := open_int Tryd.underlying3 (hval 2 3 v2 rfl rfl) h2
  have k3 := h3
  obtain ⟨a3, n3, c3, y3, rfl, m3, lt3, z3⟩ := bools_open (hval 3 23 v3 rfl rfl) h3
  have hE := Mt.laid_of hL
  clear hA0 hval0
  refine (walk x0 a1 n1 c1 y1 x2 a3 n3 c3 y3 W m1 z1 m3 z3 hE).mono fun e W' ⟨he, ho⟩ => ?_
  subst he
  have bel : Below W.heap.size W W' := ho.below (Nat.le_refl _) (by simp)
  exact ⟨_, rfl, _, _, _, [], _, [], hW', trodAll_mk1 (shut_bool Tryd.underlying4 _), (trodAll_cons_mk (shut_int Tryd.underlying3 w0) (trodAll_cons_mk (Below.trod Mt.laidOut (by kernel_rfl) (of_decide_eq_true (by kernel_rfl)) k1 bel lt1) (trodAll_cons_mk (shut_int Tryd.underlying3 w2) (trodAll_cons_mk (Below.trod Mt.laidOut (by kernel_rfl) (of_decide_eq_true (by kernel_rfl)) k3 bel lt3) trodAll_mk0)))), rfl, bel.frame _, fun h => by cases h⟩
theorem over : Rows.MeterCallsSaid :=
  OpenClaim.holds_of_wide 3 Tryd.f3 rfl rfl rfl rfl rfl rfl rfl ⟨rfl, rfl, rfl, rfl, rfl⟩ rfl rfl rfl rfl rfl (by kernel_rfl) Tryd.func3 (by kernel_rfl)
    (of_decide_eq_true (by kernel_rfl)) (by unfold Func.isWrapper; first | (rw [if_pos (by decide +kernel)]; kernel_rfl) | (rw [if_neg (by decide +kernel)]; exact ⟨rfl, rfl⟩))
    (fun os started H enc _ => lifted os started H enc)
end meterCalls
/-- The statement. -/
theorem meterCalls_holds : Rows.MeterCallsCardSaid :=
  Claim7.holds_tied_plain_at .later [] [.data] true _ false
    meterCalls.over (fun _ h => by cases h) (by kernel_rfl) (fun _ h => by cases h) meterCalls_row_tie rfl ⟨rfl, rfl⟩ (by kernel_rfl) rfl
    (fun f fn hf hfn => by
      obtain rfl : f = 3 := Option.some.inj ((show Tryd.prog.funcNamed "warder/warderlaw05.MeterCalls" = some 3 by kernel_rfl).symm.trans hf) |>.symm
      obtain rfl : fn = Tryd.f3 := (Option.some.inj (Tryd.func3.symm.trans hfn)).symm
      exact ⟨by kernel_rfl, fun j t ht => by
        rw [Tryd.params3] at ht
        have hm : t ∈ [3, 22, 3, 23] := by simpa using Array.mem_of_getElem? ht
        have hall : ([3, 22, 3, 23].all fun u => !Tryd.prog.wantsStandIn u) = true := by kernel_rfl
        exact (show Tryd.prog.wantsStandIn t = false by simpa using List.all_eq_true.1 hall t hm)⟩)
    (by kernel_rfl)
#print axioms meterCalls_holds
end Go.Proofs.YtalaalpafafpbaaDoor
