/-
  HeapCalls: every row of calls is answered as the document says, and every question, of whatever keeps what a heap is asked for: for every input true, and the input reads as it did; no condition.
-/
import Derived.Test.YtmeadkllbjkjbaaHqSame
import Derived.Test.YtmeadkllbjkjbaaHqOpen
import Derived.Deep.CutRange
import Derived.Deep.CutBlock
import Derived.Deep.RegionHeld3
import Derived.BigQuiet
namespace Go.Proofs.Ytmeadkllbjkjbaa
open Go.ChangeShapes Go.WideShapes Go.ChangeAt Go.RowKit Go.Deep
namespace heapCalls
open Hq
open Ph (Only)
open Wh (Srt Uni ins del has mem_ins has_iff len_ins)
theorem rm_top {x : ItT} {r : List ItT} (hu : Uni (x :: r)) : rmB (x.1 : Nat) (x :: r) = true ∧ rmL (x.1 : Nat) (x :: r) = r := by
  have hb : rmB (x.1 : Nat) (x :: r) = true := by
    unfold rmB
    rw [Int.toNat_natCast, has_iff.2 ⟨x, by simp, rfl⟩]
    simp
  refine ⟨hb, ?_⟩
  unfold rmL
  rw [if_pos hb, Int.toNat_natCast, del_at hu (k := 0) (x := x) rfl rfl]
  rfl
set_option maxRecDepth 100000 in
set_option maxHeartbeats 600000 in
theorem walk (K : Hk) (pa : Option Addr) (len cap : Nat) (y : Nat → WCallsT) (q : Int) (w : World) (hl : len ≤ cap ∧ cap ≤ maxLen) (hx : WCalls w.heap.size w pa len y) (hq : W64 q) :
    Calls Try.prog 3 #[.slice pa len cap, .int .i64 q] w fun e w' => e = .returned (.bool true) ∧ Below w.heap.size w w' := by
  have HX := Lib.hid hx
  have hlm : len ≤ maxLen := by omega
  unfold maxLen at hlm
  clear hx hl
  go_enter Try.func3, Try.ntmps3
  go_wp2_with fail
  refine (alive_any K _).mono ?_
  rintro e w0 ⟨rfl, B0⟩
  by_cases g1 : 200 < len
  · have g1' : (200 : Int) < (len : Int) := by omega
    go_wp2
    go_ret
    exact ⟨rfl, B0⟩
  have g1' : ¬ (200 : Int) < (len : Int) := by omega
  have g10 : len ≤ 200 := by omega
  clear g1
  go_wp2_with fail
  refine (K.new w0).mono ?_
  rintro e w1 ⟨p, F1, rfl, hW, hF, hO⟩
  have H1 : On K w.heap.size w p F1 [] w1 := ⟨hW, fun x hx => Nat.le_trans B0.size (hF x hx), B0.trans (hO.below B0.size (by simp))⟩
  clear hW hF hO B0
  go_wp2_with fail
  have oR := Only.alloc [] w1 (.cells #[.slice none 0 0] 29)
  have r0 := World.cell?_alloc_new w1 #[.slice none 0 0] 29 0
  simp only [List.getElem?_toArray, List.getElem?_cons_zero] at r0
  have HP : Hid (Pr K w.heap.size w p F1 [] w1.heap.size [w1.heap.size] [] (w1.alloc (.cells #[.slice none 0 0] 29))) := Lib.hid ⟨H1.quiet oR (Nat.le_refl _), ⟨fun x hx => by simp at hx; subst hx; simp, by simp, World.frozen?_alloc_new w1 _ _ _, _, r0, World.ownsRow_nil _ _ _ _, fun g e => by cases e⟩, fun x hx => by simp; have := K.lt H1.hp x hx; omega, fun x hx => by simp at hx; subst hx; exact H1.size (Nat.le_refl _)⟩
  obtain ⟨r, hr⟩ : ∃ r, r = w1.heap.size := ⟨_, rfl⟩
  rw [← hr] at HP ⊢
  clear oR r0 H1 g1' hr
  generalize w1.alloc (.cells #[.slice none 0 0] 29) = w2 at *
  go_loopw [7] (fun c wr => ∃ (i : Nat) (F H : List Nat) (l : List ItT), c = .int .i64 i ∧ i ≤ len ∧ Hid (Pr K w.heap.size w p F l r H l wr)) (fun c _ => len - (intOf c).toNat)
  case atStart => exact ⟨0, F1, [r], [], rfl, Nat.zero_le _, HP⟩
  case round =>
    obtain ⟨i, F, H, l, rfl, hi, HP⟩ := hrel
    obtain ⟨wo, rfl⟩ : ∃ wo, wo = wr := ⟨_, rfl⟩
    by_cases hlt : i < len
    · obtain ⟨b, off, rfl, hbl, hC⟩ := HX.out.at HP.out.a.below hlt
      rcases hyi : y i with ⟨a, d, z⟩
      rw [hyi] at hC
      have c0 := hC.c0
      have c1 := hC.c1
      have c2 := hC.c2
      have u1 : W64 d := hC.w1
      have u2 := bounds_u64 hC.w2
      simp only at c0 c1 c2 u2
      obtain ⟨zn, rfl⟩ : ∃ zn : Nat, z = (zn : Int) := ⟨z.toNat, by omega⟩
      have hi0 : (0 : Int) ≤ (i : Int) := by omega
      have hil : (i : Int) < (len : Int) := by omega
      clear hyi hC
      have oA := Only.alloc [] wo (.cells #[.int .i64 a, .int .i64 d, .int .u64 (zn : Nat)] 32)
      have H2 := Lib.hid (HP.out.quiet oA (Nat.le_refl _))
      have q0 := World.cell?_alloc_new wo #[.int .i64 a, .int .i64 d, .int .u64 (zn : Nat)] 32 0
      have q1 := World.cell?_alloc_new wo #[.int .i64 a, .int .i64 d, .int .u64 (zn : Nat)] 32 1
      have q2 := World.cell?_alloc_new wo #[.int .i64 a, .int .i64 d, .int .u64 (zn : Nat)] 32 2
      have z2 : wo.heap.size < (wo.alloc (.cells #[.int .i64 a, .int .i64 d, .int .u64 (zn : Nat)] 32)).heap.size := by simp
      have hlF := Lib.hid (K.lt HP.out.a.hp)
      have hlH := Lib.hid HP.out.b.lt
      obtain ⟨bc, hbc⟩ : ∃ q, q = wo.heap.size := ⟨_, rfl⟩
      have hnF : bc ∉ F := fun h => by have := hlF.out _ h; omega
      have hnH : bc ∉ H := fun h => by have := hlH.out _ h; omega
      rw [← hbc] at q0 q1 q2 z2
      clear HP oA hlF hlH
      go_upto_region 11 with fail
      rw [← hbc]
      clear hbc c0 c1 c2
      generalize wo.alloc (.cells #[.int .i64 a, .int .i64 d, .int .u64 (zn : Nat)] 32) = w3 at *
      simp only [List.getElem?_toArray, List.getElem?_cons_zero, List.getElem?_cons_succ] at q0 q1 q2
      go_upto_block 2 with fail
      go_cut [9] from 32 to 129 (fun s9 wx => ∃ (F' H' : List Nat) (l' : List ItT), Hid (Pr K w.heap.size w p F' l' r H' l' wx))
      case first =>
        have FI := Lib.hid (K.fine H2.out.a.hp)
        have hl64 := FI.out.len
        by_cases h1 : a = 1
        · subst h1
          clear q0 q1 q2 z2 hnF hnH
          cases l with
          | nil =>
            go_wp2_with fail
            refine (K.pop _ p F [] H2.out.a.hp).mono ?_
            rintro e w5 ⟨he, hg⟩
            replace he : e = .returned (.tuple #[.int .i64 (-1), .int .u64 0, .bool false]) := he
            subst he
            obtain ⟨F5, P5, hO5⟩ := H2.out.stepA hg (Nat.le_refl _)
            replace P5 : Pr K w.heap.size w p F5 [] r H [] w5 := P5
            have P5 := Lib.hid P5
            obtain ⟨v, hv, hrow, _⟩ := P5.out.b.row
            obtain ⟨av, cp, rfl⟩ := own_form hrow
            rw [List.length_nil] at hv
            clear hg hO5 hrow H2 FI
            go_wp2_with fail
            go_meet
            case rel => exact ⟨F5, H, [], P5⟩
          | cons x l =>
            go_wp2_with fail
            refine (K.pop _ p F (x :: l) H2.out.a.hp).mono ?_
            rintro e w5 ⟨he, hg⟩
            replace he : e = .returned (.tuple #[.int .i64 (x.1 : Nat), .int .u64 (x.2 : Nat), .bool true]) := he
            subst he
            obtain ⟨F5, P5, hO5⟩ := H2.out.stepA hg (Nat.le_refl _)
            replace P5 : Pr K w.heap.size w p F5 l r H (x :: l) w5 := P5
            have P5 := Lib.hid P5
            obtain ⟨v, hv, hrow, _⟩ := P5.out.b.row
            obtain ⟨av, cp, rfl⟩ := own_form hrow
            obtain ⟨rb, ro, rfl, rl, -, -, y0, y1⟩ := (own_seen hrow).at (i := 0) (x := x) rfl
            simp only [Nat.zero_mul, Nat.add_zero] at y0 y1
            have CR := Lib.hid (rrem_any r H (x :: l) (x.1 : Nat) w5 (by omega) FI.out.uni P5.out.b)
            rw [(rm_top FI.out.uni).1, (rm_top FI.out.uni).2] at CR
            have dI : (((x.1 : Nat) : Int) != ((x.1 : Nat) : Int)) = false := by simp
            have dA : (((x.2 : Nat) : Int) != ((x.2 : Nat) : Int)) = false := by simp
            obtain ⟨n, hn⟩ : ∃ n, n = (x :: l).length := ⟨_, rfl⟩
            have hn0 : 0 < n := by rw [hn]; simp
            have hnI : (0 : Int) < (n : Int) := by omega
            have dP : decide ((0 : Int) < (n : Int)) = true := decide_eq_true hnI
            rw [← hn] at hv
            clear hg hO5 hrow H2 FI hn hl64
            go_wp2_with fail
            refine CR.out.mono ?_
            rintro e w6 ⟨H6, rfl, hR, hO, hF⟩
            have P6 := Lib.hid (P5.out.stepB hR hO hF (Nat.le_refl _))
            clear hR hO hF P5 CR hv y0 y1 dI dA dP
            go_wp2_with fail
            go_meet
            case rel => exact ⟨F5, H6, l, P6⟩
        have d1 : (a == 1) = false := by simpa using h1
        have hd3 := Only.drewN [] w3 1
        have HD := Lib.hid (H2.out.quiet hd3 (Nat.le_refl _))
        have k1 : w3.drew.cell? ⟨bc, 1, none⟩ = some (.int .i64 d) := (hd3.cell z2 (by simp) 1).trans q1
        have k2 : w3.drew.cell? ⟨bc, 2, none⟩ = some (.int .u64 (zn : Nat)) := (hd3.cell z2 (by simp) 2).trans q2
        have zd : bc < w3.drew.heap.size := z2
        have HC := Lib.hid (fun (S : List Nat) (w' : World) (h : bc ∉ S ∧ Only S w3.drew w') => show w'.cell? ⟨bc, 1, none⟩ = some (.int .i64 d) ∧ w'.cell? ⟨bc, 2, none⟩ = some (.int .u64 (zn : Nat)) from ⟨(h.2.cell zd h.1 1).trans k1, (h.2.cell zd h.1 2).trans k2⟩)
        have hA : bc ∉ F ++ H ∧ Only (F ++ H) w3.drew w3.drew := ⟨by simp; exact ⟨hnF, hnH⟩, Only.refl _ _⟩
        have hFs : ∀ x ∈ F, x ∈ F ++ H := fun x hx => List.mem_append_left _ hx
        have hHs : ∀ x ∈ H, x ∈ F ++ H := fun x hx => List.mem_append_right _ hx
        clear q1 q2 hd3 k1 k2
        by_cases h0 : a = 0
        · subst h0
          have dne : (pshE d l != pshE d l) = false := by simp
          have C1 := Lib.hid (K.push w3.drew p F l d zn HD.out.a.hp u1 (by omega))
          go_upto_region 13 with fail
          go_region_held3 (fun w' => w'.cell? ⟨bc, 1, none⟩ = some (.int .i64 d) ∧ w'.cell? ⟨bc, 2, none⟩ = some (.int .u64 (zn : Nat))) (exact HC.out _ _ hA) (first
            | (go_at_call 9; refine C1.out.mono ?_; rintro e w5 ⟨rfl, hg⟩; obtain ⟨F5, h5, hO⟩ := HD.out.stepA hg (Nat.le_refl _); have P5 := Lib.hid h5; clear hg h5; replace hA := And.intro hA.1 (hA.2.trans (hO.mono hFs)))
            | (go_at_call 10; refine (rpush_any r H l d zn _ (by omega) P5.out.b).mono ?_; rintro e w6 ⟨H6, rfl, hR, hO, hF⟩; have P6 := Lib.hid (P5.out.stepB hR hO hF (Nat.le_refl _)); replace hA := And.intro hA.1 (hA.2.trans (hO.mono hHs))))
          all_goals
            go_wp2_with fail
            go_meet
            case rel => exact ⟨F5, H6, _, P6⟩
        have d0 : (a == 0) = false := by simpa using h0
        by_cases h2 : a = 2
        · subst h2
          have dne : (rmB d l != rmB d l) = false := by simp
          have C1 := Lib.hid (K.rem w3.drew p F l d HD.out.a.hp u1)
          go_upto_region 22 with fail
          go_region_held3 (fun w' => w'.cell? ⟨bc, 1, none⟩ = some (.int .i64 d) ∧ w'.cell? ⟨bc, 2, none⟩ = some (.int .u64 (zn : Nat))) (exact HC.out _ _ hA) (first
            | (go_at_call 13; refine C1.out.mono ?_; rintro e w5 ⟨rfl, hg⟩; obtain ⟨F5, h5, hO⟩ := HD.out.stepA hg (Nat.le_refl _); have P5 := Lib.hid h5; clear hg h5; replace hA := And.intro hA.1 (hA.2.trans (hO.mono hFs)))
            | (go_at_call 12; refine (rrem_any r H l d _ (by omega) FI.out.uni P5.out.b).mono ?_; rintro e w6 ⟨H6, rfl, hR, hO, hF⟩; have P6 := Lib.hid (P5.out.stepB hR hO hF (Nat.le_refl _)); replace hA := And.intro hA.1 (hA.2.trans (hO.mono hHs))))
          all_goals
            go_wp2_with fail
            go_meet
            case rel => exact ⟨F5, H6, _, P6⟩
        have d2 : (a == 2) = false := by simpa using h2
        by_cases h3 : a = 3
        · subst h3
          have dne : (chE d l != chE d l) = false := by simp
          have C1 := Lib.hid (K.chg w3.drew p F l d zn HD.out.a.hp u1 (by omega))
          go_upto_region 25 with fail
          go_region_held3 (fun w' => w'.cell? ⟨bc, 1, none⟩ = some (.int .i64 d) ∧ w'.cell? ⟨bc, 2, none⟩ = some (.int .u64 (zn : Nat))) (exact HC.out _ _ hA) (first
            | (go_at_call 14; refine C1.out.mono ?_; rintro e w5 ⟨rfl, hg⟩; obtain ⟨F5, h5, hO⟩ := HD.out.stepA hg (Nat.le_refl _); have P5 := Lib.hid h5; clear hg h5; replace hA := And.intro hA.1 (hA.2.trans (hO.mono hFs)))
            | (go_at_call 15; refine (rchg_any r H l d zn _ (by omega) FI.out.uni P5.out.b).mono ?_; rintro e w6 ⟨H6, rfl, hR, hO, hF⟩; have P6 := Lib.hid (P5.out.stepB hR hO hF (Nat.le_refl _)); replace hA := And.intro hA.1 (hA.2.trans (hO.mono hHs))))
          all_goals
            go_wp2_with fail
            go_meet
            case rel => exact ⟨F5, H6, _, P6⟩
        have d3 : (a == 3) = false := by simpa using h3
        go_wp2_with fail
        go_meet
        case rel => exact ⟨F, H, l, H2⟩
      case rest =>
        obtain ⟨F', H', l', HP⟩ := hcut
        clear H2 q0 q1 q2 z2 hnF hnH
        go_wp2_with fail
        refine (told_any K p F' l' r H' q _ HP.out.a.hp HP.out.b hq).mono ?_
        rintro e w5 ⟨rfl, hO⟩
        have PQ := Lib.hid (HP.out.quiet hO (Nat.le_refl _))
        clear hO HP
        go_wp2_with fail
        go_roundw
        case rel => first | exact ⟨i + 1, F', H', l', by push_cast; rfl, by omega, PQ⟩ | ((repeat apply Exists.intro); exact ⟨⟨i + 1, F', H', l', by push_cast; rfl, by omega, PQ⟩, rfl⟩)
        case measure => simp [intOf]; omega
    · obtain rfl : i = len := by omega
      clear hlt
      go_wp2_with fail
      go_ret
      exact ⟨rfl, HP.out.a.below⟩
end heapCalls
end Go.Proofs.Ytmeadkllbjkjbaa
