/-
  WheelCalls: every row of calls is answered as the document says, and every question, of whatever keeps what a wheel is asked for: for every input true, and the input reads as it did; no condition.
-/
import Derived.Test.YtddiapihopgpbaaWhPair
import Derived.Deep.CutRange
import Derived.Deep.CutBlock
import Derived.Deep.RegionHeld3
import Derived.BigQuiet
namespace Go.Proofs.Ytddiapihopgpbaa
open Go.ChangeShapes Go.WideShapes Go.ChangeAt Go.RowKit Go.Deep
namespace wheelCalls
open Wh
open Ph (Only)
set_option maxRecDepth 100000 in
set_option maxHeartbeats 8000000 in
theorem walk (K : Wk) (n0 : Nat) (pa : Option Addr) (len cap : Nat) (y : Nat → WCallsT) (q : Int) (w : World) (hl : len ≤ cap ∧ cap ≤ maxLen) (hx : WCalls w.heap.size w pa len y) (hq : W64 q) (hn0 : n0 < 18446744073709551616) :
    Calls Try.prog 3 #[.int .u64 (n0 : Nat), .slice pa len cap, .int .i64 q] w fun e w' => e = .returned (.bool true) ∧ Below w.heap.size w w' := by
  have hz : ∀ w, (zeroValue 42).run Try.prog w = .ok (pV (0, 0)) w := fun _ => by kernel_rfl
  have HX := Lib.hid hx
  have hlm : len ≤ maxLen := by omega
  unfold maxLen at hlm
  clear hx hl
  go_enter Try.func3, Try.ntmps3
  go_wp2_with fail
  refine (alive_any K _).mono ?_
  rintro e w0 ⟨rfl, B0⟩
  by_cases g1 : 200 < len
  · have g1' : (200 : Int) < (len : Int) := by omega
    go_wp2
    go_ret
    exact ⟨rfl, B0⟩
  have g1' : ¬ (200 : Int) < (len : Int) := by omega
  have g10 : len ≤ 200 := by omega
  clear g1
  by_cases g2 : 4611686018427387904 < n0
  · have g2d : decide ((4611686018427387904 : Int) < (n0 : Int)) = true := decide_eq_true (by omega)
    have g2n : decide (4611686018427387904 < n0) = true := decide_eq_true g2
    go_wp2_with fail
    refine (K.new_no n0 w0 g2).mono ?_
    rintro e w1 ⟨rfl, hO⟩
    have hB := B0.trans (hO.below B0.size (by simp))
    clear hO
    go_wp2
    go_ret
    exact ⟨rfl, hB⟩
  have g2d : decide ((4611686018427387904 : Int) < (n0 : Int)) = false := decide_eq_false (by omega)
  have g2n : decide (4611686018427387904 < n0) = false := decide_eq_false g2
  go_wp2_with fail
  refine (K.new_yes n0 w0 (by omega)).mono ?_
  rintro e w1 ⟨p, F1, rfl, hW, hF, hO⟩
  have H1 : On K w.heap.size w p F1 n0 [] w1 := ⟨hW, fun x hx => Nat.le_trans B0.size (hF x hx), B0.trans (hO.below B0.size (by simp))⟩
  clear hW hF hO B0
  go_wp2_with fail
  have oR := Only.alloc [] w1 (.cells #[.int .u64 (n0 : Nat), .slice none 0 0] 32)
  have r0 := World.cell?_alloc_new w1 #[.int .u64 (n0 : Nat), .slice none 0 0] 32 0
  have r1 := World.cell?_alloc_new w1 #[.int .u64 (n0 : Nat), .slice none 0 0] 32 1
  simp only [List.getElem?_toArray, List.getElem?_cons_zero, List.getElem?_cons_succ] at r0 r1
  have HP : Hid (Pr K w.heap.size w p F1 n0 [] w1.heap.size [w1.heap.size] n0 [] (w1.alloc (.cells #[.int .u64 (n0 : Nat), .slice none 0 0] 32))) := Lib.hid ⟨H1.quiet oR (Nat.le_refl _), ⟨fun x hx => by simp at hx; subst hx; simp, by simp, r0, World.frozen?_alloc_new w1 _ _ _, World.frozen?_alloc_new w1 _ _ _, _, r1, World.ownsRow_nil _ _ _ _, fun g e => by cases e⟩, fun x hx => by simp; have := K.lt H1.wh x hx; omega, fun x hx => by simp at hx; subst hx; exact H1.size (Nat.le_refl _)⟩
  obtain ⟨r, hr⟩ : ∃ r, r = w1.heap.size := ⟨_, rfl⟩
  rw [← hr] at HP ⊢
  clear oR r0 r1 H1 g1' g2 g2d g2n hr
  generalize w1.alloc (.cells #[.int .u64 (n0 : Nat), .slice none 0 0] 32) = w2 at *
  go_loopw [10] (fun c wr => ∃ (i : Nat) (F H : List Nat) (t : Nat) (l : List DuT), c = .int .i64 i ∧ i ≤ len ∧ l.length ≤ i ∧ Hid (Pr K w.heap.size w p F t l r H t l wr)) (fun c _ => len - (intOf c).toNat)
  case atStart => exact ⟨0, F1, [r], n0, [], rfl, Nat.zero_le _, Nat.le_refl _, HP⟩
  case round =>
    obtain ⟨i, F, H, t, l, rfl, hi, hli, HP⟩ := hrel
    obtain ⟨wo, rfl⟩ : ∃ wo, wo = wr := ⟨_, rfl⟩
    by_cases hlt : i < len
    · obtain ⟨b, off, rfl, hbl, hC⟩ := HX.out.at HP.out.a.below hlt
      rcases hyi : y i with ⟨a, d, z⟩
      rw [hyi] at hC
      have c0 := hC.c0
      have c1 := hC.c1
      have c2 := hC.c2
      have u1 : W64 d := hC.w1
      have u2 := bounds_u64 hC.w2
      simp only at c0 c1 c2 u2
      obtain ⟨zn, rfl⟩ : ∃ zn : Nat, z = (zn : Int) := ⟨z.toNat, by omega⟩
      have hi0 : (0 : Int) ≤ (i : Int) := by omega
      have hil : (i : Int) < (len : Int) := by omega
      clear hyi hC
      have oA := Only.alloc [] wo (.cells #[.int .i64 a, .int .i64 d, .int .u64 (zn : Nat)] 34)
      have H2 := Lib.hid (HP.out.quiet oA (Nat.le_refl _))
      have q0 := World.cell?_alloc_new wo #[.int .i64 a, .int .i64 d, .int .u64 (zn : Nat)] 34 0
      have q1 := World.cell?_alloc_new wo #[.int .i64 a, .int .i64 d, .int .u64 (zn : Nat)] 34 1
      have q2 := World.cell?_alloc_new wo #[.int .i64 a, .int .i64 d, .int .u64 (zn : Nat)] 34 2
      have z2 : wo.heap.size < (wo.alloc (.cells #[.int .i64 a, .int .i64 d, .int .u64 (zn : Nat)] 34)).heap.size := by simp
      have hlF := Lib.hid (K.lt HP.out.a.wh)
      have hlH := Lib.hid HP.out.b.lt
      obtain ⟨bc, hbc⟩ : ∃ q, q = wo.heap.size := ⟨_, rfl⟩
      have hnF : bc ∉ F := fun h => by have := hlF.out _ h; omega
      have hnH : bc ∉ H := fun h => by have := hlH.out _ h; omega
      rw [← hbc] at q0 q1 q2 z2
      clear HP oA hlF hlH
      go_upto_region 15 with fail
      rw [← hbc]
      clear hbc c0 c1 c2
      generalize wo.alloc (.cells #[.int .i64 a, .int .i64 d, .int .u64 (zn : Nat)] 34) = w3 at *
      simp only [List.getElem?_toArray, List.getElem?_cons_zero, List.getElem?_cons_succ] at q0 q1 q2
      go_upto_block 2 with fail
      go_cut [12] from 44 to 197 (fun s12 wx => ∃ (F' H' : List Nat) (t' : Nat) (l' : List DuT), l'.length ≤ i + 1 ∧ Hid (Pr K w.heap.size w p F' t' l' r H' t' l' wx))
      case first =>
        have hd3 := Only.drewN [] w3 1
        have HD := Lib.hid (H2.out.quiet hd3 (Nat.le_refl _))
        have HF := Lib.hid (K.fine HD.out.a.wh)
        have k1 : w3.drew.cell? ⟨bc, 1, none⟩ = some (.int .i64 d) := (hd3.cell z2 (by simp) 1).trans q1
        have k2 : w3.drew.cell? ⟨bc, 2, none⟩ = some (.int .u64 (zn : Nat)) := (hd3.cell z2 (by simp) 2).trans q2
        have zd : bc < w3.drew.heap.size := z2
        have HC := Lib.hid (fun (S : List Nat) (w' : World) (h : bc ∉ S ∧ Only S w3.drew w') => show w'.cell? ⟨bc, 1, none⟩ = some (.int .i64 d) ∧ w'.cell? ⟨bc, 2, none⟩ = some (.int .u64 (zn : Nat)) from ⟨(h.2.cell zd h.1 1).trans k1, (h.2.cell zd h.1 2).trans k2⟩)
        have hA : bc ∉ F ++ H ∧ Only (F ++ H) w3.drew w3.drew := ⟨by simp; exact ⟨hnF, hnH⟩, Only.refl _ _⟩
        have hFs : ∀ x ∈ F, x ∈ F ++ H := fun x hx => List.mem_append_left _ hx
        have hHs : ∀ x ∈ H, x ∈ F ++ H := fun x hx => List.mem_append_right _ hx
        clear q1 q2 hd3 k1 k2
        by_cases h0 : a = 0
        · subst h0
          have dne : (addE d zn l != addE d zn l) = false := by simp
          have C1 := Lib.hid (K.add w3.drew p F t l d zn HD.out.a.wh u1 (by omega))
          go_upto_region 17 with fail
          go_region_held3 (fun w' => w'.cell? ⟨bc, 1, none⟩ = some (.int .i64 d) ∧ w'.cell? ⟨bc, 2, none⟩ = some (.int .u64 (zn : Nat))) (exact HC.out _ _ hA) (first
            | (go_at_call 10; refine C1.out.mono ?_; rintro e w5 ⟨rfl, F5, hW, hO, hF⟩; have P5 := Lib.hid (HD.out.stepA hW hO hF (Nat.le_refl _)); replace hA := And.intro hA.1 (hA.2.trans (hO.mono hFs)))
            | (go_at_call 11; refine (radd_any r H t l d zn _ (by omega) (by omega) P5.out.b).mono ?_; rintro e w6 ⟨H6, rfl, hR, hO, hF⟩; have P6 := Lib.hid (P5.out.stepB hR hO hF (Nat.le_refl _)); replace hA := And.intro hA.1 (hA.2.trans (hO.mono hHs))))
          all_goals
            go_wp2_with fail
            go_meet
            case rel => exact ⟨F5, H6, t, _, addL_len hli d zn, P6⟩
        have d0 : (a == 0) = false := by simpa using h0
        by_cases h1 : a = 1
        · subst h1
          have dne : (canB d l != canB d l) = false := by simp
          have C1 := Lib.hid (K.can w3.drew p F t l d HD.out.a.wh u1)
          go_upto_region 20 with fail
          go_region_held3 (fun w' => w'.cell? ⟨bc, 1, none⟩ = some (.int .i64 d) ∧ w'.cell? ⟨bc, 2, none⟩ = some (.int .u64 (zn : Nat))) (exact HC.out _ _ hA) (first
            | (go_at_call 12; refine C1.out.mono ?_; rintro e w5 ⟨rfl, F5, hW, hO, hF⟩; have P5 := Lib.hid (HD.out.stepA hW hO hF (Nat.le_refl _)); replace hA := And.intro hA.1 (hA.2.trans (hO.mono hFs)))
            | (go_at_call 13; refine (rcan_any r H t l d _ (by omega) HF.out.uni P5.out.b).mono ?_; rintro e w6 ⟨H6, rfl, hR, hO, hF⟩; have P6 := Lib.hid (P5.out.stepB hR hO hF (Nat.le_refl _)); replace hA := And.intro hA.1 (hA.2.trans (hO.mono hHs))))
          all_goals
            go_wp2_with fail
            go_meet
            case rel => exact ⟨F5, H6, t, _, Nat.le_trans (canL_len d l) (by omega), P6⟩
        have d1 : (a == 1) = false := by simpa using h1
        by_cases h2 : a = 2
        · subst h2
          have C1 := Lib.hid (K.adv w3.drew p F t l zn HD.out.a.wh (by omega))
          have hol := advO_len t zn l
          go_upto_region 23 with fail
          go_region_held3 (fun w' => w'.cell? ⟨bc, 1, none⟩ = some (.int .i64 d) ∧ w'.cell? ⟨bc, 2, none⟩ = some (.int .u64 (zn : Nat))) (exact HC.out _ _ hA) (first
            | (go_at_call 15; refine C1.out.mono ?_; rintro e w5 ⟨v5, rfl, F5, ⟨hW, hS⟩, hO, hF⟩; have P5 := Lib.hid (HD.out.stepA hW hO hF (Nat.le_refl _)); have S5 := Lib.hid hS; have hltH := Lib.hid HD.out.b.lt; replace hA := And.intro hA.1 (hA.2.trans (hO.mono hFs)))
            | (go_at_call 16; refine (radv_any r H t l zn _ (by omega) HF.out.srt (by omega) P5.out.b).mono ?_; rintro e w6 ⟨v6, H6, rfl, hR, hS6, hO, hF⟩; have P6 := Lib.hid (P5.out.stepB hR hO hF (Nat.le_refl _)); have S6 := Lib.hid hS6; have S56 := Lib.hid (S5.out.kept hO (fun x hx => Or.inr (Or.inl (hltH.out x hx)))); replace hA := And.intro hA.1 (hA.2.trans (hO.mono hHs)))
            | (go_at_call 14; refine (same_any _ _ _ _ v5 v6 (advO t zn l) _ (by omega) S56.out S6.out).mono ?_; rintro e w7 ⟨rfl, hO⟩; have P7 := Lib.hid (P6.out.quiet hO (Nat.le_refl _)); replace hA := And.intro hA.1 (hA.2.trans (hO.mono (by simp)))))
          all_goals
            go_wp2_with fail
            go_meet
            case rel => exact ⟨F5, H6, _, _, Nat.le_trans (advL_len t zn l) (by omega), P7⟩
        have d2 : (a == 2) = false := by simpa using h2
        go_wp2_with fail
        go_meet
        case rel => exact ⟨F, H, t, l, by omega, H2⟩
      case rest =>
        obtain ⟨F', H', t', l', hl', HP⟩ := hcut
        clear H2 q0 q1 q2 z2 hnF hnH
        have FI := Lib.hid (K.fine HP.out.a.wh)
        rcases hnx : nxt l' with ⟨xd, xt⟩
        cases hem : l'.isEmpty with
        | true =>
          have hl0 : l' = [] := by simpa using hem
          have hz0 := Lib.hid (show xd = 0 ∧ xt = 0 from by rw [hl0] at hnx; cases hnx; exact ⟨rfl, rfl⟩)
          have hix : ixN q 0 l' = -1 := by rw [hl0]; rfl
          have hat := atP_none hix
          have hlz : l'.length ≤ 0 := by rw [hl0]; simp
          clear hl0
          go_wp2_with fail
          refine (K.next _ p F' t' l' HP.out.a.wh).mono ?_
          rintro e w5 ⟨he, hO⟩
          rw [hnx, hem] at he
          replace he : e = .returned (.tuple #[.agg #[.int .i64 (xd : Nat), .int .u64 (xt : Nat)], .bool false]) := he
          subst he
          have oA := Only.alloc [] w5 (.cells #[.int .i64 (xd : Nat), .int .u64 (xt : Nat)] 42)
          have P6 := Lib.hid ((HP.out.quiet hO (Nat.le_refl _)).quiet oA (Nat.le_refl _))
          have b0 := World.cell?_alloc_new w5 #[.int .i64 (xd : Nat), .int .u64 (xt : Nat)] 42 0
          have b1 := World.cell?_alloc_new w5 #[.int .i64 (xd : Nat), .int .u64 (xt : Nat)] 42 1
          have z6 : w5.heap.size < (w5.alloc (.cells #[.int .i64 (xd : Nat), .int .u64 (xt : Nat)] 42)).heap.size := by simp
          obtain ⟨bn, hbn⟩ : ∃ q, q = w5.heap.size := ⟨_, rfl⟩
          rw [← hbn] at b0 b1 z6
          simp only [List.getElem?_toArray, List.getElem?_cons_zero, List.getElem?_cons_succ] at b0 b1
          clear HP hO oA hnx hem
          go_upto_region 26 with fail
          rw [← hbn]
          clear hbn
          generalize w5.alloc (.cells #[.int .i64 (xd : Nat), .int .u64 (xt : Nat)] 42) = w6 at *
          have CT := K.at_ w6 p F' t' l' q P6.out.a.wh hq
          rw [hat] at CT
          go_wp2_with fail
          refine CT.mono ?_
          rintro e w7 ⟨he, hO7⟩
          replace he : e = .returned (.tuple #[.int .u64 0, .bool false]) := he
          subst he
          have P7 := Lib.hid (P6.out.quiet hO7 (Nat.le_refl _))
          have b0' := (hO7.cell z6 (by simp) 0).trans b0
          have b1' := (hO7.cell z6 (by simp) 1).trans b1
          have z7 : bn < w7.heap.size := Nat.lt_of_lt_of_le z6 hO7.size
          clear CT P6 hO7 b0 b1 z6
          have CI := index_any r H' t' l' q w7 (by omega) P7.out.b
          rw [hix] at CI
          go_wp2_with fail
          refine CI.mono ?_
          rintro e w8 ⟨rfl, rfl⟩
          have hr0 := P7.out.b.c0
          have hrlt := P7.out.b.lt r P7.out.b.mem
          obtain ⟨rv, hr1, hrow, _⟩ := P7.out.b.row
          obtain ⟨ra, rc, rfl⟩ := own_form hrow
          have HROW := Lib.hid (own_seen hrow)
          have dT : (((t' : Nat) : Int) != ((t' : Nat) : Int)) = false := by simp
          have dL : (((l'.length : Nat) : Int) != ((l'.length : Nat) : Int)) = false := by simp
          have HN := Lib.hid (fun (k : Nat) => K.now (w7.drewN k) p F' t' l' (K.kept P7.out.a.wh (Only.drewN [] w7 k) (by simp)))
          have HLN := Lib.hid (fun (k : Nat) => K.len (w7.drewN k) p F' t' l' (K.kept P7.out.a.wh (Only.drewN [] w7 k) (by simp)))
          clear CI hrow hix hat
          obtain ⟨rfl, rfl⟩ := hz0.out
          have dpos : decide ((0 : Int) < (l'.length : Int)) = false := decide_eq_false (by omega)
          have dposn : decide (0 < l'.length) = false := decide_eq_false (by omega)
          have eE : ∀ w, (binOp .neq 42 (.agg #[.int .i64 ((0 : Nat) : Int), .int .u64 ((0 : Nat) : Int)]) (.agg #[.int .i64 0, .int .u64 0])).run Try.prog w = .ok (.bool false) w := fun w => by
            have h := neqDu (0, 0) (0, 0) w
            rw [decide_eq_true rfl] at h
            exact h
          have eE2 : ∀ w, (binOp .neq 42 (.agg #[.int .i64 0, .int .u64 0]) (.agg #[.int .i64 0, .int .u64 0])).run Try.prog w = .ok (.bool false) w := eE
          clear hlz hz0
          go_upto_region 28 with fail
          go_quiet (first | (go_at_call 20; exact Calls.quiet_of_same ((HN.out _).mono fun _ _ ⟨h, h'⟩ => ⟨h, h'.symm⟩)) | (go_at_call 21; exact Calls.quiet_of_same ((HLN.out _).mono fun _ _ ⟨h, h'⟩ => ⟨h, h'.symm⟩)))
          have hqd := Only.drewN [] w7 nq
          have PQ := Lib.hid (P7.out.quiet hqd (Nat.le_refl _))
          have hr1q := (hqd.cell hrlt (by simp) 1).trans hr1
          clear P7 HN HLN b0' b1' z7 hr0 hr1 hqd dT dL dpos dposn eE eE2
          generalize w7.drewN nq = wq at *
          go_wp2_with fail
          go_roundw
          case rel => first | exact ⟨i + 1, F', H', t', l', by push_cast; rfl, by omega, hl', PQ⟩ | ((repeat apply Exists.intro); exact ⟨⟨i + 1, F', H', t', l', by push_cast; rfl, by omega, hl', PQ⟩, rfl⟩)
          case measure => simp [intOf]; omega
        | false =>
          have hl1 : l'[0]? = some (xd, xt) := by
            cases l' with
            | nil => cases hem
            | cons x r' => rw [← hnx]; rfl
          have hlz : 0 < l'.length := (List.getElem?_eq_some_iff.1 hl1).1
          rcases ixN_low q 0 l' with hix | hge
          · have hat := atP_none hix
            go_wp2_with fail
            refine (K.next _ p F' t' l' HP.out.a.wh).mono ?_
            rintro e w5 ⟨he, hO⟩
            rw [hnx, hem] at he
            replace he : e = .returned (.tuple #[.agg #[.int .i64 (xd : Nat), .int .u64 (xt : Nat)], .bool true]) := he
            subst he
            have oA := Only.alloc [] w5 (.cells #[.int .i64 (xd : Nat), .int .u64 (xt : Nat)] 42)
            have P6 := Lib.hid ((HP.out.quiet hO (Nat.le_refl _)).quiet oA (Nat.le_refl _))
            have b0 := World.cell?_alloc_new w5 #[.int .i64 (xd : Nat), .int .u64 (xt : Nat)] 42 0
            have b1 := World.cell?_alloc_new w5 #[.int .i64 (xd : Nat), .int .u64 (xt : Nat)] 42 1
            have z6 : w5.heap.size < (w5.alloc (.cells #[.int .i64 (xd : Nat), .int .u64 (xt : Nat)] 42)).heap.size := by simp
            obtain ⟨bn, hbn⟩ : ∃ q, q = w5.heap.size := ⟨_, rfl⟩
            rw [← hbn] at b0 b1 z6
            simp only [List.getElem?_toArray, List.getElem?_cons_zero, List.getElem?_cons_succ] at b0 b1
            clear HP hO oA hnx hem
            go_upto_region 26 with fail
            rw [← hbn]
            clear hbn
            generalize w5.alloc (.cells #[.int .i64 (xd : Nat), .int .u64 (xt : Nat)] 42) = w6 at *
            have CT := K.at_ w6 p F' t' l' q P6.out.a.wh hq
            rw [hat] at CT
            go_wp2_with fail
            refine CT.mono ?_
            rintro e w7 ⟨he, hO7⟩
            replace he : e = .returned (.tuple #[.int .u64 0, .bool false]) := he
            subst he
            have P7 := Lib.hid (P6.out.quiet hO7 (Nat.le_refl _))
            have b0' := (hO7.cell z6 (by simp) 0).trans b0
            have b1' := (hO7.cell z6 (by simp) 1).trans b1
            have z7 : bn < w7.heap.size := Nat.lt_of_lt_of_le z6 hO7.size
            clear CT P6 hO7 b0 b1 z6
            have CI := index_any r H' t' l' q w7 (by omega) P7.out.b
            rw [hix] at CI
            go_wp2_with fail
            refine CI.mono ?_
            rintro e w8 ⟨rfl, rfl⟩
            have hr0 := P7.out.b.c0
            have hrlt := P7.out.b.lt r P7.out.b.mem
            obtain ⟨rv, hr1, hrow, _⟩ := P7.out.b.row
            obtain ⟨ra, rc, rfl⟩ := own_form hrow
            have HROW := Lib.hid (own_seen hrow)
            have dT : (((t' : Nat) : Int) != ((t' : Nat) : Int)) = false := by simp
            have dL : (((l'.length : Nat) : Int) != ((l'.length : Nat) : Int)) = false := by simp
            have HN := Lib.hid (fun (k : Nat) => K.now (w7.drewN k) p F' t' l' (K.kept P7.out.a.wh (Only.drewN [] w7 k) (by simp)))
            have HLN := Lib.hid (fun (k : Nat) => K.len (w7.drewN k) p F' t' l' (K.kept P7.out.a.wh (Only.drewN [] w7 k) (by simp)))
            clear CI hrow hix hat
            have dpos : decide ((0 : Int) < (l'.length : Int)) = true := decide_eq_true (by omega)
            have dposn : decide (0 < l'.length) = true := decide_eq_true hlz
            have dI : (((xd : Nat) : Int) != ((xd : Nat) : Int)) = false := by simp
            have dA : (((xt : Nat) : Int) != ((xt : Nat) : Int)) = false := by simp
            obtain ⟨rb, ro, rfl, rl, -, -, y0, y1⟩ := HROW.out.at hl1
            simp only [Nat.zero_mul, Nat.add_zero] at y0 y1
            have hlI : (0 : Int) < (l'.length : Int) := by omega
            clear hl1
            go_upto_region 28 with fail
            go_quiet (first | (go_at_call 20; exact Calls.quiet_of_same ((HN.out _).mono fun _ _ ⟨h, h'⟩ => ⟨h, h'.symm⟩)) | (go_at_call 21; exact Calls.quiet_of_same ((HLN.out _).mono fun _ _ ⟨h, h'⟩ => ⟨h, h'.symm⟩)))
            have hqd := Only.drewN [] w7 nq
            have PQ := Lib.hid (P7.out.quiet hqd (Nat.le_refl _))
            have hr1q := (hqd.cell hrlt (by simp) 1).trans hr1
            clear P7 HN HLN b0' b1' z7 hr0 hr1 hqd dT dL dpos dposn dI dA y0 y1 rl
            generalize w7.drewN nq = wq at *
            go_wp2_with fail
            go_roundw
            case rel => first | exact ⟨i + 1, F', H', t', l', by push_cast; rfl, by omega, hl', PQ⟩ | ((repeat apply Exists.intro); exact ⟨⟨i + 1, F', H', t', l', by push_cast; rfl, by omega, hl', PQ⟩, rfl⟩)
            case measure => simp [intOf]; omega
          · obtain ⟨k, hix⟩ : ∃ k : Nat, ixN q 0 l' = (k : Int) := ⟨(ixN q 0 l').toNat, by omega⟩
            obtain ⟨⟨kd, kt⟩, hk, hat⟩ := atP_some hix
            simp only at hat
            go_wp2_with fail
            refine (K.next _ p F' t' l' HP.out.a.wh).mono ?_
            rintro e w5 ⟨he, hO⟩
            rw [hnx, hem] at he
            replace he : e = .returned (.tuple #[.agg #[.int .i64 (xd : Nat), .int .u64 (xt : Nat)], .bool true]) := he
            subst he
            have oA := Only.alloc [] w5 (.cells #[.int .i64 (xd : Nat), .int .u64 (xt : Nat)] 42)
            have P6 := Lib.hid ((HP.out.quiet hO (Nat.le_refl _)).quiet oA (Nat.le_refl _))
            have b0 := World.cell?_alloc_new w5 #[.int .i64 (xd : Nat), .int .u64 (xt : Nat)] 42 0
            have b1 := World.cell?_alloc_new w5 #[.int .i64 (xd : Nat), .int .u64 (xt : Nat)] 42 1
            have z6 : w5.heap.size < (w5.alloc (.cells #[.int .i64 (xd : Nat), .int .u64 (xt : Nat)] 42)).heap.size := by simp
            obtain ⟨bn, hbn⟩ : ∃ q, q = w5.heap.size := ⟨_, rfl⟩
            rw [← hbn] at b0 b1 z6
            simp only [List.getElem?_toArray, List.getElem?_cons_zero, List.getElem?_cons_succ] at b0 b1
            clear HP hO oA hnx hem
            go_upto_region 26 with fail
            rw [← hbn]
            clear hbn
            generalize w5.alloc (.cells #[.int .i64 (xd : Nat), .int .u64 (xt : Nat)] 42) = w6 at *
            have CT := K.at_ w6 p F' t' l' q P6.out.a.wh hq
            rw [hat] at CT
            go_wp2_with fail
            refine CT.mono ?_
            rintro e w7 ⟨he, hO7⟩
            replace he : e = .returned (.tuple #[.int .u64 (kt : Nat), .bool true]) := he
            subst he
            have P7 := Lib.hid (P6.out.quiet hO7 (Nat.le_refl _))
            have b0' := (hO7.cell z6 (by simp) 0).trans b0
            have b1' := (hO7.cell z6 (by simp) 1).trans b1
            have z7 : bn < w7.heap.size := Nat.lt_of_lt_of_le z6 hO7.size
            clear CT P6 hO7 b0 b1 z6
            have CI := index_any r H' t' l' q w7 (by omega) P7.out.b
            rw [hix] at CI
            go_wp2_with fail
            refine CI.mono ?_
            rintro e w8 ⟨rfl, rfl⟩
            have hr0 := P7.out.b.c0
            have hrlt := P7.out.b.lt r P7.out.b.mem
            obtain ⟨rv, hr1, hrow, _⟩ := P7.out.b.row
            obtain ⟨ra, rc, rfl⟩ := own_form hrow
            have HROW := Lib.hid (own_seen hrow)
            have dT : (((t' : Nat) : Int) != ((t' : Nat) : Int)) = false := by simp
            have dL : (((l'.length : Nat) : Int) != ((l'.length : Nat) : Int)) = false := by simp
            have HN := Lib.hid (fun (k : Nat) => K.now (w7.drewN k) p F' t' l' (K.kept P7.out.a.wh (Only.drewN [] w7 k) (by simp)))
            have HLN := Lib.hid (fun (k : Nat) => K.len (w7.drewN k) p F' t' l' (K.kept P7.out.a.wh (Only.drewN [] w7 k) (by simp)))
            clear CI hrow hix hat
            have dpos : decide ((0 : Int) < (l'.length : Int)) = true := decide_eq_true (by omega)
            have dposn : decide (0 < l'.length) = true := decide_eq_true hlz
            have dI : (((xd : Nat) : Int) != ((xd : Nat) : Int)) = false := by simp
            have dA : (((xt : Nat) : Int) != ((xt : Nat) : Int)) = false := by simp
            obtain ⟨rb, ro, rfl, rl, -, -, y0, y1⟩ := HROW.out.at hl1
            simp only [Nat.zero_mul, Nat.add_zero] at y0 y1
            have hlI : (0 : Int) < (l'.length : Int) := by omega
            clear hl1
            have hkl := (List.getElem?_eq_some_iff.1 hk).1
            go_upto_region 28 with fail
            go_quiet (first | (go_at_call 20; exact Calls.quiet_of_same ((HN.out _).mono fun _ _ ⟨h, h'⟩ => ⟨h, h'.symm⟩)) | (go_at_call 21; exact Calls.quiet_of_same ((HLN.out _).mono fun _ _ ⟨h, h'⟩ => ⟨h, h'.symm⟩)))
            have hqd := Only.drewN [] w7 nq
            have PQ := Lib.hid (P7.out.quiet hqd (Nat.le_refl _))
            have hr1q := (hqd.cell hrlt (by simp) 1).trans hr1
            obtain ⟨rb', ro', e', rl', -, -, s0, s1⟩ := (HROW.out.kept hqd (by simp)).at hk
            cases e'
            simp only at s0 s1
            have dK : (((kt : Nat) : Int) != ((kt : Nat) : Int)) = false := by simp
            have hk0 : (0 : Int) ≤ (k : Int) := by omega
            have hkI : (k : Int) < (l'.length : Int) := by omega
            clear P7 HN HLN b0' b1' z7 hr0 hr1 hqd dT dL dpos dposn dI dA y0 y1 rl hk
            generalize w7.drewN nq = wq at *
            go_wp2_with fail
            go_roundw
            case rel => first | exact ⟨i + 1, F', H', t', l', by push_cast; rfl, by omega, hl', PQ⟩ | ((repeat apply Exists.intro); exact ⟨⟨i + 1, F', H', t', l', by push_cast; rfl, by omega, hl', PQ⟩, rfl⟩)
            case measure => simp [intOf]; omega
    · obtain rfl : i = len := by omega
      clear hlt
      go_wp2_with fail
      go_ret
      exact ⟨rfl, HP.out.a.below⟩
end wheelCalls
end Go.Proofs.Ytddiapihopgpbaa
