/-
  MeterApart: what is charged of one core, or waited, changes no other one's clock, nor what it waited: for every input true, and the input reads as it did. Condition: what the program's text lays (the table of costs).
-/
import Derived.Test.YtalaalpafafpbaaDoorMtRun
namespace Go.Proofs.YtalaalpafafpbaaDoor
open Go.ChangeShapes Go.WideShapes Go.ChangeAt Go.RowKit Go.Deep
namespace Mt
/-- What a call leaves of the cores. -/
structure Leaves (n : Nat) (L : List Ent) (u : Bool) (k : Int) (r : Res) : Prop where
  clk : ∀ q : Nat, (q : Int) ≠ k → clkA n r.L q = clkA n L q
  idle : ∀ q : Nat, (q : Int) ≠ k → idleA n r.L q = idleA n L q
  own : ∀ q : Nat, (q : Int) = k → u = false → idleA n r.L q = idleA n L q
theorem leaves_same (n : Nat) (L : List Ent) (u : Bool) (k e : Int) (s : Bool) : Leaves n L u k ⟨e, L, s⟩ := ⟨fun _ _ => rfl, fun _ _ => rfl, fun _ _ _ => rfl⟩
theorem leaves_on (n : Nat) (L : List Ent) (u : Bool) (k : Int) (j : Nat) (x : Int) (hk : inR n k = true) (hj : u = false → 1 ≤ j) : Leaves n L u k (on L k.toNat j x) := by
  obtain ⟨p, rfl, hp⟩ := inR_yes hk
  have e : (on L (p : Int).toNat j x).L = L ++ [⟨p, j, cut L p x⟩] := rfl
  refine ⟨fun q hq => ?_, fun q hq => ?_, fun q hq hu => ?_⟩
  · rw [e]; unfold clkA; rw [Int.toNat_natCast, clk_add, if_neg (show ¬ p = q from fun g => hq (by rw [g])), Int.add_zero]
  · rw [e]; unfold idleA; rw [Int.toNat_natCast, knd_add, if_neg (show ¬ (p = q ∧ j = 0) from fun g => hq (by rw [g.1])), Int.add_zero]
  · rw [e]; unfold idleA; rw [Int.toNat_natCast, knd_add, if_neg (show ¬ (p = q ∧ j = 0) from fun g => by have := hj hu; omega), Int.add_zero]
theorem leaves_charge (n : Nat) (L : List Ent) (s : Bool) (k j t : Int) : Leaves n L false k (charge n L s k j t) := by
  unfold charge
  split
  · rename_i h
    cases s
    · exact leaves_on n L false k _ _ h.1 (fun _ => by omega)
    · exact leaves_same n L false k 22 true
  · exact leaves_same n L false k 11 s
theorem leaves_wait (n : Nat) (L : List Ent) (s : Bool) (k t : Int) : Leaves n L true k (wait n L s k t) := by
  unfold wait
  split
  · rename_i h
    cases s
    · rw [if_neg (by decide)]
      split
      · exact leaves_same n L true k 0 false
      · exact leaves_on n L true k 0 _ h (fun g => by cases g)
    · exact leaves_same n L true k 22 true
  · exact leaves_same n L true k 11 s
end Mt
namespace meterApart
open Mt
set_option maxRecDepth 100000 in
set_option maxHeartbeats 2000000 in
theorem walk (pc : Option Addr) (len cap : Nat) (x : Cs) (ca cb ct : Int) (cu : Bool) (w : World) (hl : len ≤ maxLen) (hc : Mt.CallsIn w.heap.size w pc len x) (hC : Costs w) (t0 : 0 ≤ ct) (t1 : ct < 18446744073709551616) :
    Calls Tryd.prog 6 #[.slice pc len cap, .agg #[.int .i64 ca, .int .i64 cb, .int .u64 ct, .bool cu]] w fun e w' => e = .returned (.bool true) ∧ Only [] w w' := by
  unfold maxLen at hl
  have ho := Only.alloc [] w (.cells #[.int .i64 ca, .int .i64 cb, .int .u64 ct, .bool cu] 35)
  have HC := Lib.hid hc
  have CA := Lib.hid (hC.kept ho (by simp))
  have C0 := Lib.hid hC
  have hg := hC.1
  have a0 : (w.alloc (.cells #[.int .i64 ca, .int .i64 cb, .int .u64 ct, .bool cu] 35)).cell? ⟨w.heap.size, 0, none⟩ = some (.int .i64 ca) := by simp
  have a1 : (w.alloc (.cells #[.int .i64 ca, .int .i64 cb, .int .u64 ct, .bool cu] 35)).cell? ⟨w.heap.size, 1, none⟩ = some (.int .i64 cb) := by simp
  have a2 : (w.alloc (.cells #[.int .i64 ca, .int .i64 cb, .int .u64 ct, .bool cu] 35)).cell? ⟨w.heap.size, 2, none⟩ = some (.int .u64 ct) := by simp
  have a3 : (w.alloc (.cells #[.int .i64 ca, .int .i64 cb, .int .u64 ct, .bool cu] 35)).cell? ⟨w.heap.size, 3, none⟩ = some (.bool cu) := by simp
  have la : w.heap.size < (w.alloc (.cells #[.int .i64 ca, .int .i64 cb, .int .u64 ct, .bool cu] 35)).heap.size := by simp
  have OA := Lib.hid ho
  clear hc hC ho
  go_enter Tryd.func6, Tryd.ntmps6
  by_cases h60 : 60 < len
  · have d : decide ((60 : Int) < (len : Int)) = true := by simp; omega
    go_wp2_with (go_at_call 7; refine (alive_any _ CA.out).mono ?_; rintro e w0 ⟨rfl, O0⟩)
    go_ret
    exact ⟨rfl, OA.out.next O0 (by simp)⟩
  have d : decide ((60 : Int) < (len : Int)) = false := by simp; omega
  go_wp2_with fail
  generalize w.alloc (.cells #[.int .i64 ca, .int .i64 cb, .int .u64 ct, .bool cu] 35) = wc at *
  have HC := Lib.hid (HC.out.kept OA.out (by simp))
  clear C0
  have C0 := CA
  refine (alive_any _ CA.out).mono ?_
  rintro e w0 ⟨rfl, O0⟩
  go_wp2_with fail
  refine (new_any 4 w0 (by decide) (by decide)).mono ?_
  rintro e w1 ⟨m, F, c, rfl, hM, hO, hm, hF⟩
  have M1 := Lib.hid hM
  have O1 := Lib.hid (O0.next hO (by simp))
  have s0 := O0.size
  clear hM hO O0
  go_wp2_with fail
  go_loopw [7] (fun i wr => ∃ k : Nat, k ≤ len ∧ i = .int .i64 k ∧ (∃ L s, Met wr m F 4 c L s) ∧ Only [] wc wr) (fun i _ => len - (intOf i).toNat)
  case atStart => exact ⟨0, by omega, rfl, ⟨_, _, M1.out⟩, O1.out⟩
  case round =>
    obtain ⟨k, hk, rfl, ⟨L, s, hM⟩, hO⟩ := hrel
    have MH := Lib.hid hM
    have OH := Lib.hid hO
    clear hM hO M1 O1
    by_cases hlt : k < len
    · obtain ⟨b, off, epa, hbB, hcc⟩ := HC.out.kept OH.out (by simp) (by omega)
      subst epa
      have ck := hcc k hlt
      have c0 := ck.c0
      have c1 := ck.c1
      have c2 := ck.c2
      have c3 := ck.c3
      have t0 := ck.t0
      have t1 := ck.t1
      have CH := Lib.hid (C0.out.kept OH.out (by simp))
      have hki : (k : Int) < len := by omega
      clear hcc ck
      cases hu : x.wt k
      · rw [hu] at c3
        go_wp2_with fail
        refine seal_tail (S := fun w' => w'.cell? ⟨b, off + k * 4, none⟩ = some (.int .i64 (x.co k)) ∧ w'.cell? ⟨b, off + k * 4 + 1, none⟩ = some (.int .i64 (x.kd k)) ∧ w'.cell? ⟨b, off + k * 4 + 2, none⟩ = some (.int .u64 (x.ti k)) ∧ Met w' m F 4 c L s ∧ Only [] wc w' ∧ Costs w') 16 (by kernel_rfl) (by kernel_rfl) ⟨c0, c1, c2, MH.out.kept (Only.drewN [] _ 1) (by simp) (by simp), OH.out.next (Only.drewN [] _ 1) (by simp), CH.out.kept (Only.drewN [] _ 1) (by simp)⟩ ?_
        rintro w3 ⟨e0, e1, e2, hM3, hO3, hC3⟩
        have M3 := Lib.hid hM3
        have O3 := Lib.hid hO3
        have C3 := Lib.hid hC3
        clear c0 c1 c2 c3 MH OH CH hM3 hO3 hC3
        simp only [List.take_succ_cons, List.take_zero, List.drop_succ_cons, List.drop_zero]
        iterate 16 (refine seal_next (fun K hK => ?_); go_simp; refine hK _ ?_; clear hK K)
        refine seal_nil ?_
        go_wp2_with (go_at_call 11; refine (charge_any m F 4 c (x.co k) (x.kd k) L s (x.ti k) _ M3.out C3.out t0 t1).mono ?_; rintro e w4 ⟨rfl, hM4, hO4⟩; have M4 := Lib.hid hM4; have O4 := Lib.hid (O3.out.next hO4 (by simp; omega)); clear hM4 hO4)
        go_roundw
        case rel => exact ⟨k + 1, by omega, by go_num, ⟨_, _, M4.out⟩, O4.out⟩
        case measure => simp [intOf]; omega
      · rw [hu] at c3
        go_wp2_with fail
        refine seal_tail (S := fun w' => w'.cell? ⟨b, off + k * 4, none⟩ = some (.int .i64 (x.co k)) ∧ w'.cell? ⟨b, off + k * 4 + 2, none⟩ = some (.int .u64 (x.ti k)) ∧ Met w' m F 4 c L s ∧ Only [] wc w') 11 (by kernel_rfl) (by kernel_rfl) ⟨c0, c2, MH.out.kept (Only.drewN [] _ 1) (by simp) (by simp), OH.out.next (Only.drewN [] _ 1) (by simp)⟩ ?_
        rintro w3 ⟨e0, e2, hM3, hO3⟩
        have M3 := Lib.hid hM3
        have O3 := Lib.hid hO3
        clear c0 c1 c2 c3 MH OH CH hM3 hO3
        simp only [List.take_succ_cons, List.take_zero, List.drop_succ_cons, List.drop_zero]
        iterate 11 (refine seal_next (fun K hK => ?_); go_simp; refine hK _ ?_; clear hK K)
        refine seal_nil ?_
        go_wp2_with (go_at_call 9; refine (wait_any m F 4 c (x.co k) L s (x.ti k) _ M3.out t1).mono ?_; rintro e w4 ⟨rfl, hM4, hO4⟩; have M4 := Lib.hid hM4; have O4 := Lib.hid (O3.out.next hO4 (by simp; omega)); clear hM4 hO4)
        go_roundw
        case rel => exact ⟨k + 1, by omega, by go_num, ⟨_, _, M4.out⟩, O4.out⟩
        case measure => simp [intOf]; omega
    · go_wp2_with fail
      clear hlt
      obtain ⟨wy, hwy⟩ : ∃ wy, wy = wr := ⟨_, rfl⟩
      subst hwy
      refine (clock_any m F 4 c L s 0 _ MH.out).mono ?_
      rintro e w' ⟨rfl, rfl⟩
      go_wp2_with fail
      refine (clock_any m F 4 c L s 1 _ MH.out).mono ?_
      rintro e w' ⟨rfl, rfl⟩
      go_wp2_with fail
      refine (clock_any m F 4 c L s 2 _ MH.out).mono ?_
      rintro e w' ⟨rfl, rfl⟩
      go_wp2_with fail
      refine (clock_any m F 4 c L s 3 _ MH.out).mono ?_
      rintro e w' ⟨rfl, rfl⟩
      go_wp2_with fail
      have h1 := Only.alloc [] wy (.cells #[.int .u64 (clkA 4 L 0), .int .u64 (clkA 4 L 1), .int .u64 (clkA 4 L 2), .int .u64 (clkA 4 L 3)] 44)
      have K1 : Hid (∀ q : Nat, q < 4 → (wy.alloc (.cells #[.int .u64 (clkA 4 L 0), .int .u64 (clkA 4 L 1), .int .u64 (clkA 4 L 2), .int .u64 (clkA 4 L 3)] 44)).cell? ⟨wy.heap.size, q, none⟩ = some (.int .u64 (clkA 4 L q))) := fun q hq => by
        match q, hq with
        | 0, _ => simp
        | 1, _ => simp
        | 2, _ => simp
        | 3, _ => simp
      have l1 : wy.heap.size < (wy.alloc (.cells #[.int .u64 (clkA 4 L 0), .int .u64 (clkA 4 L 1), .int .u64 (clkA 4 L 2), .int .u64 (clkA 4 L 3)] 44)).heap.size := by simp
      have lm := MH.out.lt
      have lF := MH.out.ltF
      have lc : w.heap.size < wy.heap.size := Nat.lt_of_lt_of_le la OH.out.size
      have M5 := Lib.hid (MH.out.kept h1 (by simp) (by simp))
      have O5 := Lib.hid (OH.out.next h1 (by simp))
      clear MH OH h1 d
      generalize wy.alloc (.cells #[.int .u64 (clkA 4 L 0), .int .u64 (clkA 4 L 1), .int .u64 (clkA 4 L 2), .int .u64 (clkA 4 L 3)] 44) = w5 at *
      refine (idle_any m F 4 c L s 0 _ M5.out).mono ?_
      rintro e w' ⟨rfl, rfl⟩
      go_wp2_with fail
      refine (idle_any m F 4 c L s 1 _ M5.out).mono ?_
      rintro e w' ⟨rfl, rfl⟩
      go_wp2_with fail
      refine (idle_any m F 4 c L s 2 _ M5.out).mono ?_
      rintro e w' ⟨rfl, rfl⟩
      go_wp2_with fail
      refine (idle_any m F 4 c L s 3 _ M5.out).mono ?_
      rintro e w' ⟨rfl, rfl⟩
      have h2 := Only.alloc [] w5 (.cells #[.int .u64 (idleA 4 L 0), .int .u64 (idleA 4 L 1), .int .u64 (idleA 4 L 2), .int .u64 (idleA 4 L 3)] 44)
      have K2 : Hid (∀ q : Nat, q < 4 → (w5.alloc (.cells #[.int .u64 (idleA 4 L 0), .int .u64 (idleA 4 L 1), .int .u64 (idleA 4 L 2), .int .u64 (idleA 4 L 3)] 44)).cell? ⟨w5.heap.size, q, none⟩ = some (.int .u64 (idleA 4 L q))) := fun q hq => by
        match q, hq with
        | 0, _ => simp
        | 1, _ => simp
        | 2, _ => simp
        | 3, _ => simp
      have K1' : Hid (∀ q : Nat, q < 4 → (w5.alloc (.cells #[.int .u64 (idleA 4 L 0), .int .u64 (idleA 4 L 1), .int .u64 (idleA 4 L 2), .int .u64 (idleA 4 L 3)] 44)).cell? ⟨wy.heap.size, q, none⟩ = some (.int .u64 (clkA 4 L q))) := fun q hq => (h2.cell l1 (by simp) q).trans (K1.out q hq)
      have l2 : w5.heap.size < (w5.alloc (.cells #[.int .u64 (idleA 4 L 0), .int .u64 (idleA 4 L 1), .int .u64 (idleA 4 L 2), .int .u64 (idleA 4 L 3)] 44)).heap.size := by simp
      have M6 := Lib.hid (M5.out.kept h2 (by simp) (by simp))
      have O6 := Lib.hid (O5.out.next h2 (by simp))
      clear K1 M5 O5 h2
      have b0 := (O6.out.cell la (by simp) 0).trans a0
      have b1 := (O6.out.cell la (by simp) 1).trans a1
      have b2 := (O6.out.cell la (by simp) 2).trans a2
      have b3 := (O6.out.cell la (by simp) 3).trans a3
      have C6 := Lib.hid (CA.out.kept O6.out (by simp))
      cases cu
      · go_wp2_with fail
        refine (charge_any m F 4 c ca cb L s ct _ M6.out C6.out t0 t1).mono ?_
        rintro _ w7 ⟨rfl, hM, hO⟩
        have LV := Lib.hid (leaves_charge 4 L s ca cb ct)
        generalize charge 4 L s ca cb ct = r at *
        obtain ⟨e, L', s'⟩ := r
        have M7 := Lib.hid hM
        have O7 := Lib.hid (O6.out.next hO (by simp; omega))
        have lw : w5.heap.size < w7.heap.size := Nat.lt_of_lt_of_le l2 hO.size
        have J1 : Hid (∀ q : Nat, q < 4 → w7.cell? ⟨wy.heap.size, q, none⟩ = some (.int .u64 (clkA 4 L q))) := fun q hq => (hO.cell (by omega) (by simp; omega) q).trans (K1'.out q hq)
        have J2 : Hid (∀ q : Nat, q < 4 → w7.cell? ⟨w5.heap.size, q, none⟩ = some (.int .u64 (idleA 4 L q))) := fun q hq => (hO.cell l2 (by simp; omega) q).trans (K2.out q hq)
        have e0 := (hO.cell (b := w.heap.size) (by omega) (by simp; omega) 0).trans b0
        have e3 := (hO.cell (b := w.heap.size) (by omega) (by simp; omega) 3).trans b3
        clear hM hO K1' K2 M6 O6 C6 b0 b1 b2 b3 a0 a1 a2 a3 CA C0 HC
        go_wp2_with fail
        go_loopw [10] (fun i wq => ∃ q : Nat, q ≤ 4 ∧ i = .int .i64 q ∧ Only [] w7 wq) (fun i _ => 4 - (intOf i).toNat)
        case atStart => exact ⟨0, by omega, rfl, Only.refl _ _⟩
        case round =>
          obtain ⟨q, hq, rfl, hO⟩ := hrel
          have OZ := Lib.hid hO
          have MZ : Hid (∀ n, Met (wr.drewN n) m F 4 c L' s') := fun n => (M7.out.kept hO (by simp) (by simp)).kept (Only.drewN [] _ n) (by simp) (by simp)
          have j0 := (hO.cell (b := w.heap.size) (by omega) (by simp) 0).trans e0
          have j3 := (hO.cell (b := w.heap.size) (by omega) (by simp) 3).trans e3
          by_cases hq4 : q < 4
          · have i1 := (OZ.out.cell (by omega) (by simp) q).trans (J1.out q hq4)
            have i2 := (OZ.out.cell lw (by simp) q).trans (J2.out q hq4)
            have hqi : (q : Int) < 4 := by omega
            by_cases hqc : (q : Int) = ca
            · have f1 : ((q : Int) != ca) = false := by simpa using hqc
              have f2 : ((q : Int) == ca) = true := by simpa using hqc
              have HQ := Lib.hid hqc
              subst hqc
              go_wp2_with fail
              go_quiet (fail)
              go_wp2_with fail
              have f4 : (idleA 4 L' q != idleA 4 L q) = false := by rw [LV.out.own q rfl rfl]; simp
              have o8 := Only.drewN [] wr nq
              have MZ : Hid (∀ n, Met ((wr.drewN nq).drewN n) m F 4 c L' s') := fun n => (MZ.out nq).kept (Only.drewN [] _ n) (by simp) (by simp)
              have i1 : (wr.drewN nq).cell? ⟨wy.heap.size, q, none⟩ = _ := i1
              have i2 : (wr.drewN nq).cell? ⟨w5.heap.size, q, none⟩ = _ := i2
              have j0 : (wr.drewN nq).cell? ⟨w.heap.size, 0, none⟩ = _ := j0
              have j3 : (wr.drewN nq).cell? ⟨w.heap.size, 3, none⟩ = _ := j3
              have OZ := Lib.hid (OZ.out.trans o8)
              clear o8
              generalize wr.drewN nq = w8 at *
              go_quiet (first | (go_at_call 14; exact Calls.quiet_of_same ((clock_any m F 4 c L' s' q _ (MZ.out _)).mono fun _ _ ⟨h, h'⟩ => ⟨h, h'.symm⟩)) | (go_at_call 16; exact Calls.quiet_of_same ((idle_any m F 4 c L' s' q _ (MZ.out _)).mono fun _ _ ⟨h, h'⟩ => ⟨h, h'.symm⟩)))
              go_wp2
              go_roundw
              case rel => exact ⟨q + 1, by omega, by go_num, OZ.out.trans (by first | exact (Only.drewN [] _ _) | exact ((Only.drewN [] _ _).trans (Only.drewN [] _ _)))⟩
              case measure => simp [intOf]; omega
            · have f1 : ((q : Int) != ca) = true := by simpa using hqc
              have f2 : ((q : Int) == ca) = false := by simpa using hqc
              have f3 : (clkA 4 L' q != clkA 4 L q) = false := by rw [LV.out.clk q hqc]; simp
              have f4 : (idleA 4 L' q != idleA 4 L q) = false := by rw [LV.out.idle q hqc]; simp
              go_wp2_with fail
              go_quiet (first | (go_at_call 14; exact Calls.quiet_of_same ((clock_any m F 4 c L' s' q _ (MZ.out _)).mono fun _ _ ⟨h, h'⟩ => ⟨h, h'.symm⟩)) | (go_at_call 16; exact Calls.quiet_of_same ((idle_any m F 4 c L' s' q _ (MZ.out _)).mono fun _ _ ⟨h, h'⟩ => ⟨h, h'.symm⟩)))
              go_wp2_with fail
              go_quiet (fail)
              go_wp2
              go_roundw
              case rel => exact ⟨q + 1, by omega, by go_num, OZ.out.trans (by first | exact (Only.drewN [] _ _) | exact ((Only.drewN [] _ _).trans (Only.drewN [] _ _)))⟩
              case measure => simp [intOf]; omega
          · go_wp2
            go_ret
            exact ⟨rfl, (OA.out.next O7.out (by simp)).next OZ.out (by simp)⟩
      · go_wp2_with fail
        refine (wait_any m F 4 c ca L s ct _ M6.out t1).mono ?_
        rintro _ w7 ⟨rfl, hM, hO⟩
        have LV := Lib.hid (leaves_wait 4 L s ca ct)
        generalize wait 4 L s ca ct = r at *
        obtain ⟨e, L', s'⟩ := r
        have M7 := Lib.hid hM
        have O7 := Lib.hid (O6.out.next hO (by simp; omega))
        have lw : w5.heap.size < w7.heap.size := Nat.lt_of_lt_of_le l2 hO.size
        have J1 : Hid (∀ q : Nat, q < 4 → w7.cell? ⟨wy.heap.size, q, none⟩ = some (.int .u64 (clkA 4 L q))) := fun q hq => (hO.cell (by omega) (by simp; omega) q).trans (K1'.out q hq)
        have J2 : Hid (∀ q : Nat, q < 4 → w7.cell? ⟨w5.heap.size, q, none⟩ = some (.int .u64 (idleA 4 L q))) := fun q hq => (hO.cell l2 (by simp; omega) q).trans (K2.out q hq)
        have e0 := (hO.cell (b := w.heap.size) (by omega) (by simp; omega) 0).trans b0
        have e3 := (hO.cell (b := w.heap.size) (by omega) (by simp; omega) 3).trans b3
        clear hM hO K1' K2 M6 O6 C6 b0 b1 b2 b3 a0 a1 a2 a3 CA C0 HC
        go_wp2_with fail
        go_loopw [10] (fun i wq => ∃ q : Nat, q ≤ 4 ∧ i = .int .i64 q ∧ Only [] w7 wq) (fun i _ => 4 - (intOf i).toNat)
        case atStart => exact ⟨0, by omega, rfl, Only.refl _ _⟩
        case round =>
          obtain ⟨q, hq, rfl, hO⟩ := hrel
          have OZ := Lib.hid hO
          have MZ : Hid (∀ n, Met (wr.drewN n) m F 4 c L' s') := fun n => (M7.out.kept hO (by simp) (by simp)).kept (Only.drewN [] _ n) (by simp) (by simp)
          have j0 := (hO.cell (b := w.heap.size) (by omega) (by simp) 0).trans e0
          have j3 := (hO.cell (b := w.heap.size) (by omega) (by simp) 3).trans e3
          by_cases hq4 : q < 4
          · have i1 := (OZ.out.cell (by omega) (by simp) q).trans (J1.out q hq4)
            have i2 := (OZ.out.cell lw (by simp) q).trans (J2.out q hq4)
            have hqi : (q : Int) < 4 := by omega
            by_cases hqc : (q : Int) = ca
            · have f1 : ((q : Int) != ca) = false := by simpa using hqc
              have f2 : ((q : Int) == ca) = true := by simpa using hqc
              have HQ := Lib.hid hqc
              subst hqc
              go_wp2_with fail
              go_quiet (fail)
              go_wp2_with fail
              go_quiet (fail)
              go_wp2
              go_roundw
              case rel => exact ⟨q + 1, by omega, by go_num, OZ.out.trans (by first | exact (Only.drewN [] _ _) | exact ((Only.drewN [] _ _).trans (Only.drewN [] _ _)))⟩
              case measure => simp [intOf]; omega
            · have f1 : ((q : Int) != ca) = true := by simpa using hqc
              have f2 : ((q : Int) == ca) = false := by simpa using hqc
              have f3 : (clkA 4 L' q != clkA 4 L q) = false := by rw [LV.out.clk q hqc]; simp
              have f4 : (idleA 4 L' q != idleA 4 L q) = false := by rw [LV.out.idle q hqc]; simp
              go_wp2_with fail
              go_quiet (first | (go_at_call 14; exact Calls.quiet_of_same ((clock_any m F 4 c L' s' q _ (MZ.out _)).mono fun _ _ ⟨h, h'⟩ => ⟨h, h'.symm⟩)) | (go_at_call 16; exact Calls.quiet_of_same ((idle_any m F 4 c L' s' q _ (MZ.out _)).mono fun _ _ ⟨h, h'⟩ => ⟨h, h'.symm⟩)))
              go_wp2_with fail
              go_quiet (fail)
              go_wp2
              go_roundw
              case rel => exact ⟨q + 1, by omega, by go_num, OZ.out.trans (by first | exact (Only.drewN [] _ _) | exact ((Only.drewN [] _ _).trans (Only.drewN [] _ _)))⟩
              case measure => simp [intOf]; omega
          · go_wp2
            go_ret
            exact ⟨rfl, (OA.out.next O7.out (by simp)).next OZ.out (by simp)⟩
set_option maxRecDepth 100000 in
theorem lifted (os : Os) (started : os.Started) (H : Type) (enc : TypeId × Value → H) :
    ReturnsInHanded {} Tryd.checked os 6 .any (fun w args => (Rows.meterApartSpec.pre enc Tryd.prog Tryd.f6 [] false w args ∧ laidMetH Tryd.prog Mt.laidL w) ∧ sizedMet enc Tryd.prog Tryd.f6 (OpenSpec.ofChange Rows.meterApartSpec) false w args)
      (Rows.meterApartSpec.post enc Tryd.prog Tryd.f6 false true false false) := by
  refine returnsInHanded_of_change_and (C := Tryd.checked) (X := fun w _ => laidMetH Tryd.prog Mt.laidL w) (fun _ _ _ hh h => h.of_heap hh) Mt.own started (by kernel_rfl) Tryd.func6
    (ChangeSpec.witness_shaped (enc := enc) (C := Tryd.checked) (os := os) (X := fun w _ => laidMetH Tryd.prog Mt.laidL w) false (World.doorLaid Tryd.prog 4000 os) #[.slice none 0 0, .agg #[.int .i64 0, .int .i64 0, .int .u64 0, .bool false]] 8 rfl (World.shaped_of_RefB (by kernel_rfl) (by kernel_rfl)) (by kernel_rfl) (by kernel_rfl) (by kernel_rfl) (Mt.door_met os _)) ?_
  intro W base args ds gs before hval0 hW _ _ hL _
  have hval : ∀ (j : Nat) t v, Tryd.f6.params[j]? = some t → args[j]? = some v → Value.okWide Tryd.prog W .any base t v := hval0
  have hW' := hW
  obtain ⟨p, q, hA0, hV, rfl, hfz, hnd⟩ := hW
  have hA : DataW.TrodAll enc Tryd.prog W 0 (fun _ => true) true Tryd.f6.params.toList args.toList ds p := hA0
  rw [Tryd.params6] at hA hval
  obtain ⟨v0, vs0, d0, ds0, p0, q0, hargs, rfl, rfl, h0, r0⟩ := trodAll_cons hA
  obtain ⟨v1, vs1, d1, ds1, p1, q1, rfl, rfl, rfl, h1, r1⟩ := trodAll_cons r0
  obtain ⟨rfl, rfl, rfl⟩ := trodAll_nil r1
  obtain rfl : args = #[v0, v1] := by cases args; simp_all
  obtain ⟨rfl, rfl⟩ := trodVars_none hV
  have k0 := h0
  obtain ⟨a0, n0, c0, y0, rfl, m0, lt0, z0⟩ := calls_open (hval 0 22 v0 rfl rfl) h0
  obtain ⟨a1, b1, t1, u1, rfl, rfl, rfl, w1⟩ := call_open (hval 1 35 v1 rfl rfl) h1
  have hE := Mt.laid_of hL
  clear hA0 hval0
  refine (walk a0 n0 c0 y0 a1 b1 t1 u1 W m0 z0 hE (bounds_u64 w1.2.2).1 (Int.lt_of_le_of_lt (bounds_u64 w1.2.2).2 (by decide))).mono fun e W' ⟨he, ho⟩ => ?_
  subst he
  have bel : Below W.heap.size W W' := ho.below (Nat.le_refl _) (by simp)
  exact ⟨_, rfl, _, _, _, [], _, [], hW', trodAll_mk1 (shut_bool Tryd.underlying4 _), (trodAll_cons_mk (Below.trod Mt.laidOut (by kernel_rfl) (of_decide_eq_true (by kernel_rfl)) k0 bel lt0) (trodAll_cons_mk (call_shut w1 _ _) trodAll_mk0)), rfl, bel.frame _, fun h => by cases h⟩
theorem over : Rows.MeterApartSaid :=
  OpenClaim.holds_of_wide 6 Tryd.f6 rfl rfl rfl rfl rfl rfl rfl ⟨rfl, rfl, rfl, rfl, rfl⟩ rfl rfl rfl rfl rfl (by kernel_rfl) Tryd.func6 (by kernel_rfl)
    (of_decide_eq_true (by kernel_rfl)) (by unfold Func.isWrapper; first | (rw [if_pos (by decide +kernel)]; kernel_rfl) | (rw [if_neg (by decide +kernel)]; exact ⟨rfl, rfl⟩))
    (fun os started H enc _ => lifted os started H enc)
end meterApart
/-- The statement. -/
theorem meterApart_holds : Rows.MeterApartCardSaid :=
  Claim7.holds_tied_plain_at .later [] [.data] true _ false
    meterApart.over (fun _ h => by cases h) (by kernel_rfl) (fun _ h => by cases h) meterApart_row_tie rfl ⟨rfl, rfl⟩ (by kernel_rfl) rfl
    (fun f fn hf hfn => by
      obtain rfl : f = 6 := Option.some.inj ((show Tryd.prog.funcNamed "warder/warderlaw05.MeterApart" = some 6 by kernel_rfl).symm.trans hf) |>.symm
      obtain rfl : fn = Tryd.f6 := (Option.some.inj (Tryd.func6.symm.trans hfn)).symm
      exact ⟨by kernel_rfl, fun j t ht => by
        rw [Tryd.params6] at ht
        have hm : t ∈ [22, 35] := by simpa using Array.mem_of_getElem? ht
        have hall : ([22, 35].all fun u => !Tryd.prog.wantsStandIn u) = true := by kernel_rfl
        exact (show Tryd.prog.wantsStandIn t = false by simpa using List.all_eq_true.1 hall t hm)⟩)
    (by kernel_rfl)
#print axioms meterApart_holds
end Go.Proofs.YtalaalpafafpbaaDoor
