/-
  What the statements' told does with a call that fills a frame; conditions: that the memories lie there, with the same bytes, and that the call is of its Go type.
-/
import Derived.Test.YtpnpcmclpmldmaaPhTold
namespace Go.Proofs.Ytpnpcmclpmldmaa
open Go.RowKit
namespace Ph
theorem Only.next {S S' : List Nat} {a b c : World} (h : Only S a b) (k : Only S' b c) (hs : ∀ x ∈ S', x ∈ S ∨ a.heap.size ≤ x) : Only S a c :=
  ⟨k.os.trans h.os, k.tape.trans h.tape, k.output.trans h.output, Nat.le_trans h.size k.size, fun i hi hn => (k.block i (Nat.lt_of_lt_of_le hi h.size) (fun x => (hs i x).elim hn (fun g => by omega))).trans (h.block i hi hn)⟩
/-- A slice of bytes reads so, out of old blocks. -/
def RdB (B : Nat) (w : World) (pa : Option Addr) (n : Nat) (z : Nat → Int) : Prop :=
  (0 < n → ∃ b off, pa = some ⟨b, off, none⟩ ∧ b < B ∧ ∀ j, j < n → w.cell? ⟨b, off + j, none⟩ = some (.int .u8 (z j))) ∧ ∀ j, j < n → B8 (z j)
theorem RdB.rd {B : Nat} {w : World} {pa : Option Addr} {n : Nat} {z : Nat → Int} (h : RdB B w pa n z) : Rd w pa n z :=
  ⟨fun hn => by obtain ⟨b, off, e, _, hc⟩ := h.1 hn; exact ⟨b, off, e, hc⟩, h.2⟩
theorem RdB.kept {B : Nat} {S : List Nat} {w w' : World} {pa : Option Addr} {n : Nat} {z : Nat → Int} (h : RdB B w pa n z) (ho : Only S w w') (hs : ∀ x ∈ S, B ≤ x) : RdB B w' pa n z :=
  ⟨fun hn => by
    obtain ⟨b, off, e, hb, hc⟩ := h.1 hn
    exact ⟨b, off, e, hb, fun j hj => (ho.cell (b := b) (World.block_lt_of_cell? w _ (hc j hj)) (fun x => by have := hs _ x; omega) _).trans (hc j hj)⟩, h.2⟩
theorem Row.rd {w : World} {g l : Nat} {y : Nat → Int} (h : Row w g l y) : Rd w (some ⟨g, 0, none⟩) l y :=
  ⟨fun _ => ⟨g, 0, rfl, fun j hj => by rw [Nat.zero_add]; exact h.cell j hj⟩, h.b8⟩
/-- A frame's first i bytes are filled. -/
def fk (z : Nat → Int) (k l : Nat) (y : Nat → Int) (i j : Nat) : Int := if 256 * k ≤ j ∧ j < 256 * k + i then fz l y (j - 256 * k) else z j
theorem fk_zero (z : Nat → Int) (k l : Nat) (y : Nat → Int) : fk z k l y 0 = z := by
  funext j
  unfold fk
  rw [if_neg (by omega)]
theorem fk_one (z : Nat → Int) (k l : Nat) (y : Nat → Int) (i : Nat) (v : Int) (hv : v = fz l y i) (j : Nat) : put1 (fk z k l y i) (256 * k + i) v j = fk z k l y (i + 1) j := by
  unfold put1 fk
  by_cases h : j = 256 * k + i
  · subst h
    rw [if_pos rfl, if_pos (by omega), show 256 * k + i - 256 * k = i by omega, hv]
  · rw [if_neg h]
    by_cases h2 : 256 * k ≤ j ∧ j < 256 * k + i
    · rw [if_pos h2, if_pos (by omega)]
    · rw [if_neg h2, if_neg (by omega)]
theorem fk_two (z : Nat → Int) (k l : Nat) (y : Nat → Int) (i : Nat) (v : Int) (hv : v = fz l y i) (j : Nat) : put1 (put1 (fk z k l y i) (256 * k + i) 0) (256 * k + i) v j = fk z k l y (i + 1) j := by
  rw [← fk_one z k l y i v hv]
  unfold put1
  by_cases h : j = 256 * k + i
  · rw [if_pos h, if_pos h]
  · rw [if_neg h, if_neg h, if_neg h]
set_option maxRecDepth 100000 in
set_option maxHeartbeats 2000000 in
theorem told_fill_many (m F n c r G B : Nat) (z y : Nat → Int) (k ad : Nat) (vl : Int) (pa : Option Addr) (l cb : Nat) (w : World) (hB : Both w m F n c r G z) (hl : l ≤ 3000) (h256 : 256 < l) (hy : RdB B w pa l y) (hk : k < n) :
    Calls Try.prog 13 #[.pointer (some ⟨m, 0, none⟩), .pointer (some ⟨r, 0, none⟩), .agg #[.int .i64 2, .int .i64 k, .int .u32 ad, .int .u32 vl, .slice pa l cb]] w (ToldEnd m F n c r G w) := by
  have BX : Hid (Both (w.alloc (.cells #[.int .i64 2, .int .i64 k, .int .u32 ad, .int .u32 vl, .slice pa l cb] 36)) m F n c r G z) := hB.kept (Only.alloc [] _ _) (by simp) (by simp) (by simp) (by simp)
  have YX : Hid (RdB B (w.alloc (.cells #[.int .i64 2, .int .i64 k, .int .u32 ad, .int .u32 vl, .slice pa l cb] 36)) pa l y) := hy.kept (Only.alloc [] _ _) (by simp)
  have hf := hB.ref.few
  have bF := hB.mem.row.lt
  have bG := hB.ref.row.lt
  have bm := hB.mem.lt
  have br := hB.ref.lt
  clear hB hy
  go_enter Try.func13, Try.ntmps13
  go_wp2_with (first | (go_at_call 20; refine (copyB_any pa l cb y _ (by omega) YX.out.rd).mono ?_; rintro e w2 ⟨g, cg, rfl, hg1, hg2, hg3⟩; have c1 : w2.cell? ⟨w.heap.size, 1, none⟩ = some (.int .i64 k) := (hg2.cell (b := w.heap.size) (by simp) (by simp) 1).trans (by simp); have c4 : w2.cell? ⟨w.heap.size, 4, none⟩ = some (.slice pa l cb) := (hg2.cell (b := w.heap.size) (by simp) (by simp) 4).trans (by simp); have B2 := Lib.hid (BX.out.kept hg2 (by simp) (by simp) (by simp) (by simp)); have Y2 := Lib.hid (YX.out.kept hg2 (by simp)); have G2 := Lib.hid hg1; have g3 : w.heap.size + 1 ≤ g := (by simpa using hg3); have z2 : w.heap.size + 1 ≤ w2.heap.size := (by simpa using hg2.size); have O2 := Lib.hid hg2; clear hg1 hg2 hg3) | (go_at_call 25; refine (fill_many m F n c k z _ l cg _ B2.out.mem hk (by omega)).mono ?_; rintro e w' ⟨rfl, rfl⟩))
  have r2 := B2.out.ref.head
  refine seal_all (S := fun w' => w'.cell? ⟨w.heap.size, 1, none⟩ = some (.int .i64 k) ∧ w'.cell? ⟨w.heap.size, 4, none⟩ = some (.slice pa l cb) ∧ w'.cell? ⟨r, 0, none⟩ = some (.slice (some ⟨G, 0, none⟩) (256 * n) (256 * n)) ∧ Both w' m F n c r G z ∧ Only [] w w') (by kernel_rfl) (by kernel_rfl) ⟨c1, c4, r2, B2.out.kept (Only.drewN [] _ 1) (by simp) (by simp) (by simp) (by simp), ((Only.alloc _ _ _).trans O2.out).trans (Only.drewN _ _ 1)⟩ ?_
  rintro w3 ⟨c13, c43, r3, B3, O3⟩
  have BH := Lib.hid B3
  have OH := Lib.hid O3
  clear c1 c4 r2 B2 O2 B3 O3
  have d5 : decide ((256 : Int) < (l : Int)) = true := by simp; omega
  have d0 : decide ((k : Int) < 0) = false := by simp
  have d1 : decide ((n : Int) ≤ (k : Int)) = false := by simp; omega
  have d1' : decide (n ≤ k) = false := by simp; omega
  have e1 : 256 * (n : Int) / 256 = n := by omega
  have e2 : (256 * (n : Int)).tdiv 256 = n := by rw [Int.tdiv_eq_ediv_of_nonneg (by omega)]; omega
  have ew : IntKind.i64.wrap (n : Int) = n := IntWalk.i64_in _ ⟨by omega, by omega⟩
  iterate 14 (refine seal_next (fun K hK => ?_); go_simp; refine hK _ ?_; clear hK K)
  refine seal_nil ?_
  clear e1 e2 ew
  go_wp2
  go_ret
  exact ⟨rfl, ⟨z, BH.out⟩, OH.out.mono (by simp)⟩
set_option maxRecDepth 100000 in
set_option maxHeartbeats 2000000 in
theorem told_fill_yes (m F n c r G B : Nat) (z y : Nat → Int) (k ad : Nat) (vl : Int) (pa : Option Addr) (l cb : Nat) (w : World) (hB : Both w m F n c r G z) (hl : l ≤ 256) (hF : B ≤ F) (hG : B ≤ G) (hy : RdB B w pa l y) (hk : k < n) :
    Calls Try.prog 13 #[.pointer (some ⟨m, 0, none⟩), .pointer (some ⟨r, 0, none⟩), .agg #[.int .i64 2, .int .i64 k, .int .u32 ad, .int .u32 vl, .slice pa l cb]] w (ToldEnd m F n c r G w) := by
  have BX : Hid (Both (w.alloc (.cells #[.int .i64 2, .int .i64 k, .int .u32 ad, .int .u32 vl, .slice pa l cb] 36)) m F n c r G z) := hB.kept (Only.alloc [] _ _) (by simp) (by simp) (by simp) (by simp)
  have YX : Hid (RdB B (w.alloc (.cells #[.int .i64 2, .int .i64 k, .int .u32 ad, .int .u32 vl, .slice pa l cb] 36)) pa l y) := hy.kept (Only.alloc [] _ _) (by simp)
  have hf := hB.ref.few
  have bF := hB.mem.row.lt
  have bG := hB.ref.row.lt
  have bm := hB.mem.lt
  have br := hB.ref.lt
  clear hB hy
  go_enter Try.func13, Try.ntmps13
  go_wp2_with (first | (go_at_call 20; refine (copyB_any pa l cb y _ (by omega) YX.out.rd).mono ?_; rintro e w2 ⟨g, cg, rfl, hg1, hg2, hg3⟩; have c1 : w2.cell? ⟨w.heap.size, 1, none⟩ = some (.int .i64 k) := (hg2.cell (b := w.heap.size) (by simp) (by simp) 1).trans (by simp); have c4 : w2.cell? ⟨w.heap.size, 4, none⟩ = some (.slice pa l cb) := (hg2.cell (b := w.heap.size) (by simp) (by simp) 4).trans (by simp); have B2 := Lib.hid (BX.out.kept hg2 (by simp) (by simp) (by simp) (by simp)); have Y2 := Lib.hid (YX.out.kept hg2 (by simp)); have G2 := Lib.hid hg1; have g3 : w.heap.size + 1 ≤ g := (by simpa using hg3); have z2 : w.heap.size + 1 ≤ w2.heap.size := (by simpa using hg2.size); have O2 := Lib.hid hg2; clear hg1 hg2 hg3) | (go_at_call 25; refine (fill_yes m F n c k z y _ l cg _ B2.out.mem hk hl G2.out.rd).mono ?_; rintro e w3 ⟨rfl, hM3, hO3⟩; have M3 := Lib.hid hM3; have O3 := Lib.hid hO3; clear hM3 hO3))
  have nF : F ≠ w.heap.size := by omega
  have cF1 := (O3.out.cell (b := w.heap.size) (by omega) (by simp; omega) 1).trans c1
  have cF4 := (O3.out.cell (b := w.heap.size) (by omega) (by simp; omega) 4).trans c4
  have R3 := B2.out.ref.kept O3.out (by simpa using B2.out.a2) (by simpa using B2.out.a3.symm)
  have Y3 := Y2.out.kept O3.out (by simpa using hF)
  have G3 := G2.out.kept O3.out (by simp; omega)
  have W3 : Only [F, G] w w3 := ((Only.alloc _ _ _).trans (O2.out.mono (by simp))).trans (O3.out.mono (by simp))
  have z3 := O3.out.size
  have r2 := R3.head
  refine seal_all (S := fun w' => w'.cell? ⟨w.heap.size, 1, none⟩ = some (.int .i64 k) ∧ w'.cell? ⟨w.heap.size, 4, none⟩ = some (.slice pa l cb) ∧ w'.cell? ⟨r, 0, none⟩ = some (.slice (some ⟨G, 0, none⟩) (256 * n) (256 * n)) ∧ RMem w' r G n z ∧ Mem w' m F n c (fillz z k l y) ∧ RdB B w' pa l y ∧ Row w' g l y ∧ Only [F, G] w w' ∧ w.heap.size + 1 ≤ w'.heap.size) (by kernel_rfl) (by kernel_rfl) ⟨cF1, cF4, r2, R3.kept (Only.drewN [] _ 1) (by simp) (by simp), M3.out.kept (Only.drewN [] _ 1) (by simp) (by simp), Y3.kept (Only.drewN [] _ 1) (by simp), G3.kept (Only.drewN [] _ 1) (by simp), W3.trans (Only.drewN _ _ 1), Nat.le_trans z2 z3⟩ ?_
  rintro w4 ⟨c14, c44, r4, R4, M4, Y4, G4, W4, z4⟩
  have a1 := Lib.hid B2.out.a1
  have a2 := Lib.hid B2.out.a2
  have a3 := Lib.hid B2.out.a3
  have a4 := Lib.hid B2.out.a4
  have RH := Lib.hid R4
  have MH := Lib.hid M4
  have YH := Lib.hid Y4
  have GH := Lib.hid G4
  have WH := Lib.hid W4
  clear c1 c4 cF1 cF4 R3 Y3 G3 W3 z3 r2 R4 M4 Y4 G4 W4 B2 O2 O3 M3 Y2 G2 z2 BX YX
  have d5 : decide ((256 : Int) < (l : Int)) = false := by simp; omega
  have d0 : decide ((k : Int) < 0) = false := by simp
  have d1 : decide ((n : Int) ≤ (k : Int)) = false := by simp; omega
  have d1' : decide (n ≤ k) = false := by simp; omega
  have e1 : 256 * (n : Int) / 256 = n := by omega
  have e2 : (256 * (n : Int)).tdiv 256 = n := by rw [Int.tdiv_eq_ediv_of_nonneg (by omega)]; omega
  have ew : IntKind.i64.wrap (n : Int) = n := IntWalk.i64_in _ ⟨by omega, by omega⟩
  iterate 14 (refine seal_next (fun K hK => ?_); go_simp; refine hK _ ?_; clear hK K)
  refine seal_nil ?_
  clear e1 e2 ew
  go_wp2_with fail
  go_loopw [9] (fun i wr => ∃ q : Nat, q ≤ 256 ∧ i = .int .i64 q ∧ RMem wr r G n (fk z k l y q) ∧ Only [G] w4 wr) (fun i _ => 256 - (intOf i).toNat)
  case atStart => exact ⟨0, by omega, rfl, by rw [fk_zero]; exact RH.out, Only.refl _ _⟩
  case round =>
    obtain ⟨q, hq, rfl, hRq, hOq⟩ := hrel
    by_cases hlt : q < 256
    · have hl4 : (q : Int) < 256 := by omega
      have C1 := (hOq.cell (b := w.heap.size) (by omega) (by simp; omega) 1).trans c14
      have C4 := (hOq.cell (b := w.heap.size) (by omega) (by simp; omega) 4).trans c44
      have RQ := Lib.hid hRq
      have OQ := Lib.hid hOq
      have YQ := Lib.hid (YH.out.kept hOq (by simpa using hG))
      clear hRq hOq
      go_wp2_with fail
      refine seal_tail (S := fun w' => w'.cell? ⟨w.heap.size, 1, none⟩ = some (.int .i64 k) ∧ w'.cell? ⟨w.heap.size, 4, none⟩ = some (.slice pa l cb) ∧ RMem w' r G n (fk z k l y q) ∧ Only [G] w4 w' ∧ RdB B w' pa l y) 10 (by kernel_rfl) (by kernel_rfl) ⟨C1, C4, RQ.out.kept (Only.drewN [] _ 1) (by simp) (by simp), OQ.out.trans (Only.drewN _ _ 1), YQ.out.kept (Only.drewN [] _ 1) (by simp)⟩ ?_
      rintro w5 ⟨c15, c45, R5, O5, Y5⟩
      clear C1 C4 RQ OQ YQ
      have hh5 := R5.head
      have ca := R5.row.cell (256 * k + q) (by omega)
      have fa := R5.row.free (256 * k + q) (by omega)
      have R6 := Lib.hid (R5.row.set (256 * k + q) 0 (by omega) ⟨by decide, by decide⟩)
      have RQ := Lib.hid R5
      have OQ := Lib.hid O5
      have YQ := Lib.hid Y5
      have s5 := O5.size
      clear R5 O5 Y5
      have b1 : (0 : Int) ≤ 256 * (k : Int) + q := by omega
      have b2 : 256 * (k : Int) + q < 256 * n := by omega
      have b3 : (256 * (k : Int) + q).toNat = 256 * k + q := by omega
      have ea : IntKind.i64.wrap (256 * (k : Int)) = 256 * k := IntWalk.i64_in _ ⟨by omega, by omega⟩
      have ek : IntKind.i64.wrap (256 * (k : Int) + q) = 256 * (k : Int) + q := IntWalk.i64_in _ ⟨by omega, by omega⟩
      simp only [List.take_succ_cons, List.take_zero, List.drop_succ_cons, List.drop_zero]
      iterate 10 (refine seal_next (fun K hK => ?_); go_simp; refine hK _ ?_; clear hK K)
      refine seal_nil ?_
      clear ea ek
      have h6 := Only.setCell (S := [G]) w5 (List.mem_singleton.2 rfl) (256 * k + q) (.int .u8 0)
      have M6 := Lib.hid (RQ.out.with h6 (by simpa using RQ.out.apart) R6.out)
      have O6 := Lib.hid (OQ.out.trans h6)
      by_cases hql : q < l
      · have C1 := (h6.cell (b := w.heap.size) (by omega) (by simp; omega) 1).trans c15
        have C4 := (h6.cell (b := w.heap.size) (by omega) (by simp; omega) 4).trans c45
        obtain ⟨bb, ob, epa, hbb, hcb⟩ := (YQ.out.kept h6 (by simpa using hG)).1 (by omega)
        subst epa
        have CB := hcb q hql
        have dq : decide ((q : Int) < (l : Int)) = true := by simpa using hql
        have H6 := Lib.hid h6
        clear h6 hcb
        go_wp2_with fail
        refine seal_tail (S := fun w' => w'.cell? ⟨w.heap.size, 1, none⟩ = some (.int .i64 k) ∧ w'.cell? ⟨w.heap.size, 4, none⟩ = some (.slice (some ⟨bb, ob, none⟩) l cb) ∧ w'.cell? ⟨bb, ob + q, none⟩ = some (.int .u8 (y q)) ∧ RMem w' r G n (put1 (fk z k l y q) (256 * k + q) 0) ∧ Only [G] w4 w') 15 (by kernel_rfl) (by kernel_rfl) ⟨C1, C4, CB, M6.out.kept (Only.drewN [] _ 1) (by simp) (by simp), O6.out.trans (Only.drewN _ _ 1)⟩ ?_
        rintro w7 ⟨c17, c47, cb7, R7, O7⟩
        clear C1 C4 CB M6 O6 RQ OQ YQ R6 ca fa hh5 c15 c45 H6
        have hh7 := R7.head
        have ca7 := R7.row.cell (256 * k + q) (by omega)
        have fa7 := R7.row.free (256 * k + q) (by omega)
        have RQ := Lib.hid R7
        have OQ := Lib.hid O7
        clear R7 O7
        have ea : IntKind.i64.wrap (256 * (k : Int)) = 256 * k := IntWalk.i64_in _ ⟨by omega, by omega⟩
        have ek : IntKind.i64.wrap (256 * (k : Int) + q) = 256 * (k : Int) + q := IntWalk.i64_in _ ⟨by omega, by omega⟩
        simp only [List.take_succ_cons, List.take_zero, List.drop_succ_cons, List.drop_zero]
        iterate 15 (refine seal_next (fun K hK => ?_); go_simp; refine hK _ ?_; clear hK K)
        refine seal_nil ?_
        clear ea ek
        go_wp2
        go_roundw
        case rel =>
          have h8 := Only.setCell (S := [G]) w7 (List.mem_singleton.2 rfl) (256 * k + q) (.int .u8 (y q))
          exact ⟨q + 1, by omega, by go_num, RQ.out.with h8 (by simpa using RQ.out.apart) ((RQ.out.row.set _ _ (by omega) (YH.out.2 q hql)).congr (fun j _ => fk_two z k l y q (y q) (by unfold fz; rw [if_pos hql]) j)), OQ.out.trans h8⟩
        case measure => simp [intOf]; omega
      · have dq : decide ((q : Int) < (l : Int)) = false := by simpa using hql
        clear h6
        go_wp2
        go_roundw
        case rel =>
          have e : fk z k l y (q + 1) = put1 (fk z k l y q) (256 * k + q) 0 := funext fun j => (fk_one z k l y q 0 (by unfold fz; rw [if_neg hql]) j).symm
          exact ⟨q + 1, by omega, by go_num, by rw [e]; exact M6.out, O6.out⟩
        case measure => simp [intOf]; omega
    · have e : q = 256 := by omega
      subst e
      have BQ : Hid (Both wr m F n c r G (fillz z k l y)) := ⟨MH.out.kept hOq (by simpa using a1.out) (by simpa using a3.out), hRq, a1.out, a2.out, a3.out, a4.out⟩
      have WQ := Lib.hid (WH.out.trans (hOq.mono (by simp)))
      have GQ := Lib.hid (GH.out.kept hOq (by simp; omega))
      clear hRq hOq
      go_wp2_with fail
      go_loopw [10] (fun i wx => ∃ q : Nat, q ≤ l ∧ i = .int .i64 q ∧ (∃ y', Row wx g l y') ∧ Only [g] wr wx) (fun i _ => l - (intOf i).toNat)
      case atStart => exact ⟨0, by omega, rfl, ⟨y, GQ.out⟩, Only.refl _ _⟩
      case round =>
        obtain ⟨q, hq, rfl, ⟨y', hGx⟩, hOx⟩ := hrel
        have OX := Lib.hid hOx
        have GX := Lib.hid hGx
        by_cases hlt : q < l
        · have cq := hGx.cell q hlt
          have fq := hGx.free q hlt
          clear hGx hOx
          go_wp2
          go_roundw
          case rel =>
            have hx : B8 ((y' q + 1) % 256) := ⟨by omega, by omega⟩
            exact ⟨q + 1, by omega, by go_num, ⟨_, GX.out.set q _ hlt hx⟩, OX.out.trans (Only.setCell _ (List.mem_singleton.2 rfl) _ _)⟩
          case measure => simp [intOf]; omega
        · clear hGx hOx
          go_wp2
          go_ret
          refine ⟨rfl, ⟨_, BQ.out.kept OX.out (by simp; omega) (by simp; omega) (by simp; omega) (by simp; omega)⟩, WQ.out.next OX.out (by simp; omega)⟩
/-- A call, read. -/
structure CallIs (B : Nat) (w : World) (ad : Nat) (vl : Int) (pa : Option Addr) (l : Nat) (y : Nat → Int) : Prop where
  ad : ad < 4294967296
  v0 : 0 ≤ vl
  v1 : vl < 4294967296
  few : l ≤ 3000
  bts : RdB B w pa l y
theorem told_any (m F n c r G B : Nat) (z y : Nat → Int) (wh nn : Int) (ad : Nat) (vl : Int) (pa : Option Addr) (l cb : Nat) (w : World) (hB : Both w m F n c r G z) (hF : B ≤ F) (hG : B ≤ G) (hc : CallIs B w ad vl pa l y) :
    Calls Try.prog 13 #[.pointer (some ⟨m, 0, none⟩), .pointer (some ⟨r, 0, none⟩), .agg #[.int .i64 wh, .int .i64 nn, .int .u32 ad, .int .u32 vl, .slice pa l cb]] w (ToldEnd m F n c r G w) := by
  by_cases h0 : wh = 0
  · subst h0
    exact told_byte m F n c r G z nn ad vl pa l cb w hB hc.ad
  · by_cases h1 : wh = 1
    · subst h1
      exact told_word m F n c r G z nn ad vl pa l cb w hB hc.ad hc.v0 hc.v1
    · by_cases h2 : wh = 2
      · subst h2
        by_cases hk : 0 ≤ nn ∧ nn < n
        · obtain ⟨k, rfl⟩ := Int.eq_ofNat_of_zero_le hk.1
          by_cases hl : l ≤ 256
          · exact told_fill_yes m F n c r G B z y k ad vl pa l cb w hB hl hF hG hc.bts (by omega)
          · exact told_fill_many m F n c r G B z y k ad vl pa l cb w hB hc.few (by omega) hc.bts (by omega)
        · exact told_fill_no m F n c r G z y nn ad vl pa l cb w hB hc.few hc.bts.rd hk
      · exact told_else m F n c r G z wh nn ad vl pa l cb w hB h0 h1 h2
end Ph
end Go.Proofs.Ytpnpcmclpmldmaa
