/-
  What stage's breakUp, clearUp, replace, single and whole do. Conditions: that a space lies there that tells its pages, and that each argument is of its Go type.
-/
import Derived.Test.YtiiggmfindfkfaaGreatStChg
namespace Go.Proofs.YtiiggmfindfkfaaGreat
open Go.RowKit Nt
namespace St
open Ph En Wk
theorem slot_still (t i : Nat) (w : World) (ht : t < 65536) (hi : i < 64) : Calls Tryz.prog 59 #[.int .i64 t, .int .i64 i] w fun E w' => E = .returned (.int .u32 ((256 * t + 4 * i : Nat) : Int)) ∧ w' = w :=
  (slot_any t i w ht hi).mono fun _ _ h => ⟨h.1, h.2.symm⟩
/-- So many entries of a table have been put. -/
def bupN (n vm : Nat) (x : Pl) (t : Nat) (w e : Bool) (F : Nat) : Nat → Pl
  | 0 => x
  | k + 1 => (bupN n vm x t w e F k).chg n vm (256 * t + 4 * k) (pgW (some (w, e, F + k)))
/-- A block having been broken up. -/
def bup (n vm : Nat) (x : Pl) (i t : Nat) (w e : Bool) (F : Nat) : Pl :=
  (bupN n vm (x.took t) t w e F 64).chg n vm (256 * x.root + 4 * i) (lw true false false false t)
theorem bupN_root (n vm : Nat) (x : Pl) (t : Nat) (w e : Bool) (F : Nat) : ∀ k, (bupN n vm x t w e F k).root = x.root
  | 0 => rfl
  | k + 1 => by rw [bupN, Pl.chg_root, bupN_root n vm x t w e F k]
theorem bupN_len (n vm : Nat) (x : Pl) (t : Nat) (w e : Bool) (F : Nat) : ∀ k, (bupN n vm x t w e F k).log.length ≤ x.log.length + 3 * k
  | 0 => Nat.le_refl _
  | k + 1 => by
    have h1 := bupN_len n vm x t w e F k
    have h2 := Pl.chg_len n vm (bupN n vm x t w e F k) (256 * t + 4 * k) (pgW (some (w, e, F + k)))
    rw [bupN]
    omega
theorem bup_len (n vm : Nat) (x : Pl) (i t : Nat) (w e : Bool) (F : Nat) : (bup n vm x i t w e F).log.length ≤ x.log.length + 195 := by
  have h1 := bupN_len n vm (x.took t) t w e F 64
  have h2 := Pl.chg_len n vm (bupN n vm (x.took t) t w e F 64) (256 * x.root + 4 * i) (lw true false false false t)
  have h3 : (x.took t).log.length = x.log.length := rfl
  unfold bup
  omega
section
variable {L : Loc} {v : Value} {x : Pl} {A : Nat → Fst}
theorem first_rep (i : Nat) (w : World) (hS : St L w v x) (hR : Rep L.n x A) (hi : i < 64) (V W X B : Bool) (f : Int) (hE : entOf (A i).W = ⟨V, W, X, B, f⟩) :
    Calls Tryz.prog 57 #[.pointer (some ⟨L.s, 0, none⟩), .int .i64 i] w fun e w' => e = .returned (.agg #[.bool V, .bool W, .bool X, .bool B, .int .i64 f]) ∧ Below w.heap.size w w' :=
  first_at i V W X B f w hS hR.rt hi (by rw [hR.wrd i hi]; exact hE)
theorem change_at (t i : Nat) (Aa : Int) (V W X B : Bool) (f y : Int) (w : World) (hAa : Aa = 256 * (t : Int) + 4 * i) (hS : St L w v x) (ht : t < L.n) (hi : i < 64) (hl : x.log.length ≤ 900) (hy : encN V W X B f = y) :
    Calls Tryz.prog 58 #[.pointer (some ⟨L.s, 0, none⟩), .int .u32 Aa, .agg #[.bool V, .bool W, .bool X, .bool B, .int .i64 f]] w (Fin L v w (.tuple #[]) (x.chg L.n L.vm (256 * t + 4 * i) y)) := by
  rw [hAa, show 256 * (t : Int) + 4 * i = ((256 * t + 4 * i : Nat) : Int) by omega]
  exact change_any _ V W X B f y w hS (hwA_at ht hi) hl hy
set_option maxRecDepth 100000 in
set_option maxHeartbeats 1000000 in
theorem breakUp_yes (i t : Nat) (bw be : Bool) (F : Nat) (w : World) (hS : St L w v x) (hR : Rep L.n x A) (hi : i < 64) (hA : A i = .blk bw be F) (hp : Fr.spot 1 x.os = some t) (ht : x.os[t]? = some 0) (hl : x.log.length ≤ 100) :
    Calls Tryz.prog 79 #[.pointer (some ⟨L.s, 0, none⟩), .int .i64 i] w (Fin L v w (.tuple #[]) (bup L.n L.vm x i t bw be F)) := by
  have hF : F + 64 ≤ L.n := by have := hR.ok i hi; rw [hA] at this; exact this.2
  have hf := hR.few
  have HE := Lib.hid (show entOf (A i).W = ⟨true, bw, be, true, F⟩ by rw [hA]; exact entOf_lw _ _ _ (by omega) (by omega))
  obtain ⟨_, htn, _, _, _⟩ := hR.took ht
  have HS := Lib.hid hS
  have HR := Lib.hid hR
  have HT := Lib.hid hp
  clear hS hR hp ht hA
  go_enter Tryz.func79, Tryz.ntmps79
  go_wp2_with fail
  refine (first_rep i w HS.out HR.out hi _ _ _ _ _ HE.out).mono ?_
  rintro e w1 ⟨rfl, b1⟩
  have S1 := Lib.hid (HS.out.below b1)
  have O1 := Lib.hid (Only.of b1 L.S)
  go_wp2_with fail
  have S2 := Lib.hid (S1.out.alloc (.cells #[.bool true, .bool bw, .bool be, .bool true, .int .i64 F] 62))
  have O2 := Lib.hid (O1.out.trans (Only.alloc L.S w1 (.cells #[.bool true, .bool bw, .bool be, .bool true, .int .i64 F] 62)))
  have B2 := Lib.hid (Tl.Lay.new w1 62 [.bool true, .bool bw, .bool be, .bool true, .int .i64 F])
  obtain ⟨bx, hbx⟩ : ∃ bx, bx = w1.heap.size := ⟨_, rfl⟩
  have X2 := Lib.hid (show (∀ k ∈ L.all, k < bx) ∧ v.ownBlock ≠ some bx by rw [hbx]; exact ⟨S1.out.lts, S1.out.off (Nat.le_refl _)⟩)
  rw [← hbx] at B2 ⊢
  clear S1 O1 b1 hbx
  refine (take_yes t _ S2.out HT.out htn).mono ?_
  rintro e w2 ⟨rfl, hS, hO⟩
  have S3 := Lib.hid hS
  have P3 := Lib.hid (Hop.of (O2.out.trans hO) v)
  have nS : bx ∉ L.S := fun h => by have := X2.out.1 bx (by simp [Loc.S] at h; simp [Loc.all]; omega); omega
  have B3 := Lib.hid (B2.out.kept hO nS)
  have V3 := Lib.hid X2.out.2
  clear S2 O2 B2 hS hO HS X2
  go_wp2_with fail
  go_loopw [12] (fun c wr => ∃ (k : Nat) (v' : Value), c = .int .i64 k ∧ k ≤ 64 ∧ St L wr v' (bupN L.n L.vm (x.took t) t bw be F k) ∧ Hop L.S v v' w wr ∧ Tl.Lay wr bx 62 [.bool true, .bool bw, .bool be, .bool true, .int .i64 F] ∧ v'.ownBlock ≠ some bx) (fun c _ => 64 - (intOf c).toNat)
  case atStart => exact ⟨0, v, rfl, Nat.zero_le _, S3.out, P3.out, B3.out, V3.out⟩
  case round =>
    obtain ⟨k, v', rfl, hk, hS, hP, hB, hV⟩ := hrel
    clear S3 P3 B3 V3
    have lenk := bupN_len L.n L.vm (x.took t) t bw be F k
    have lt0 : (x.took t).log.length = x.log.length := rfl
    have S4 := Lib.hid hS
    have P4 := Lib.hid hP
    have B4 := Lib.hid hB
    have V4 := Lib.hid hV
    clear hS hP hB hV
    by_cases hlt : k < 64
    · have S5 := Lib.hid (S4.out.drewN 1)
      have P5 := Lib.hid (P4.out.trans (Hop.of (Only.drewN L.S wr 1) v'))
      have B5 := Lib.hid (B4.out.kept (Only.drewN [] wr 1) (by simp))
      change Hid (St L wr.drew v' _) at S5
      change Hid (Hop L.S v v' w wr.drew) at P5
      change Hid (Tl.Lay wr.drew bx _ _) at B5
      clear S4 P4 B4
      have k1 := B5.out.cell 1
      have k2 := B5.out.cell 2
      have k4 := B5.out.cell 4
      simp only [List.getElem?_cons_zero, List.getElem?_cons_succ] at k1 k2 k4
      go_wp2_with fail
      refine wp_region_still_tail 13 (by kernel_rfl) (by kernel_rfl) ?_
      simp only [List.take_succ_cons, List.take_zero, List.drop_succ_cons, List.drop_zero]
      change wpStill _ _ wr.drew (fun a' => wpList _ _ _ _ a' wr.drew) _ _
      generalize wr.drew = u at *
      iterate 3 still_step
      still_call (slot_still t k _ (by omega) hlt)
      repeat still_step
      refine wpStill_nil ?_
      go_wp2_with fail
      refine (change_at t k _ true bw be false _ (pgW (some (bw, be, F + k))) u rfl S5.out htn hlt (by omega) (by rw [show (F : Int) + (k : Int) = ((F + k : Nat) : Int) by omega]; exact encN_lw _ _ _ (by omega) (by omega))).mono ?_
      rintro e w4 ⟨rfl, v4, hS, hP⟩
      have P6 := Lib.hid (P5.out.trans hP)
      have B6 := Lib.hid (hP.lay B5.out nS V4.out)
      have V6 := Lib.hid (hP.off B5.out.lt V4.out)
      have S6 := Lib.hid hS
      clear S5 P5 B5 V4 hS hP k1 k2 k4
      go_wp2
      go_roundw
      case rel => exact ⟨k + 1, v4, by go_num, by omega, S6.out, P6.out, B6.out, V6.out⟩
      case measure => simp [intOf]; omega
    · obtain rfl : k = 64 := by omega
      have k4 := S4.out.c4
      rw [bupN_root, show (x.took t).root = x.root from rfl] at k4
      clear B4 V4
      go_wp2_with (go_at_call 59; refine (slot_any x.root i _ (by have := HR.out.rt; omega) hi).mono ?_; rintro e w' ⟨rfl, rfl⟩)
      refine (change_at x.root i _ true false false false _ (lw true false false false t) wr (by push_cast; rfl) S4.out HR.out.rt hi (by omega) (encN_lw _ _ _ (by omega) (by omega))).mono ?_
      rintro e w5 ⟨rfl, v5, hS, hP⟩
      have F5 := Lib.hid (And.intro hS (P4.out.trans hP))
      clear S4 P4 hS hP k4
      go_wp2
      go_end0
      exact ⟨rfl, v5, F5.out.1, F5.out.2⟩
theorem breakUp_no (i : Nat) (bw be : Bool) (F : Nat) (w : World) (hS : St L w v x) (hR : Rep L.n x A) (hi : i < 64) (hA : A i = .blk bw be F) (hp : Fr.spot 1 x.os = none) :
    Calls Tryz.prog 79 #[.pointer (some ⟨L.s, 0, none⟩), .int .i64 i] w fun e w' => e = panE 15 ∧ St L w' v x ∧ Only L.S w w' := by
  have hF : F + 64 ≤ L.n := by have := hR.ok i hi; rw [hA] at this; exact this.2
  have hf := hR.few
  have HE := Lib.hid (show entOf (A i).W = ⟨true, bw, be, true, F⟩ by rw [hA]; exact entOf_lw _ _ _ (by omega) (by omega))
  have HS := Lib.hid hS
  have HR := Lib.hid hR
  have HT := Lib.hid hp
  clear hS hR hp hA
  go_enter Tryz.func79, Tryz.ntmps79
  go_wp2_with fail
  refine (first_rep i w HS.out HR.out hi _ _ _ _ _ HE.out).mono ?_
  rintro e w1 ⟨rfl, b1⟩
  have S1 := Lib.hid (HS.out.below b1)
  have O1 := Lib.hid (Only.of b1 L.S)
  go_wp2_with fail
  have S2 := Lib.hid (S1.out.alloc (.cells #[.bool true, .bool bw, .bool be, .bool true, .int .i64 F] 62))
  have O2 := Lib.hid (O1.out.trans (Only.alloc L.S w1 (.cells #[.bool true, .bool bw, .bool be, .bool true, .int .i64 F] 62)))
  clear S1 O1 b1 HS
  refine (take_no _ S2.out HT.out).mono ?_
  rintro e w2 ⟨rfl, hS, hO⟩
  unfold panE
  exact ⟨rfl, rfl, hS, O2.out.trans hO⟩
end
end St
end Go.Proofs.YtiiggmfindfkfaaGreat
