/-
  HeapSorts: what is pushed is popped in order, and nothing else, of whatever keeps what a heap is asked for: for every input true, and the input reads as it did; no condition.
-/
import Derived.Test.YtmeadkllbjkjbaaHqSortsM
import Derived.Deep.CutRange
import Derived.Deep.CutBlock
import Derived.Deep.RegionHeld3
import Derived.BigQuiet
namespace Go.Proofs.Ytmeadkllbjkjbaa
open Go.ChangeShapes Go.WideShapes Go.ChangeAt Go.RowKit Go.Deep
namespace heapSorts
open Hq
open Ph (Only)
set_option maxRecDepth 100000 in
set_option maxHeartbeats 8000000 in
theorem walk (K : Hk) (pa : Option Addr) (len cap : Nat) (y : Nat → Int) (w : World) (hl : len ≤ maxLen) (hx : WSteps w.heap.size w pa len y) :
    Calls Try.prog 4 #[.slice pa len cap] w fun e w' => e = .returned (.bool true) ∧ Below w.heap.size w w' := by
  have HX := Lib.hid hx
  unfold maxLen at hl
  clear hx
  go_enter Try.func4, Try.ntmps4
  go_wp2_with fail
  refine (alive_any K _).mono ?_
  rintro e w0 ⟨rfl, B0⟩
  by_cases g1 : 64 < len
  · have g1' : (64 : Int) < (len : Int) := by omega
    go_wp2
    go_ret
    exact ⟨rfl, B0⟩
  have g1' : ¬ (64 : Int) < (len : Int) := by omega
  have g10 : len ≤ 64 := by omega
  clear g1
  go_wp2_with fail
  refine (K.new w0).mono ?_
  rintro e w1 ⟨p, F1, rfl, hW, hF, hO⟩
  have H1 : On K w.heap.size w p F1 [] w1 := ⟨hW, fun x hx => Nat.le_trans B0.size (hF x hx), B0.trans (hO.below B0.size (by simp))⟩
  clear hW hF hO B0 g1'
  go_wp2_with fail
  go_loopw [4] (fun c wr => ∃ (i : Nat) (F : List Nat) (l : List ItT), c = .int .i64 i ∧ i ≤ len ∧ Hid (Pushed y i l) ∧ Hid (On K w.heap.size w p F l wr)) (fun c _ => len - (intOf c).toNat)
  case atStart => exact ⟨0, F1, [], rfl, Nat.zero_le _, Lib.hid ⟨rfl, by simp⟩, Lib.hid H1⟩
  case round =>
    obtain ⟨i, F, l, rfl, hi, HP, HO⟩ := hrel
    clear H1
    by_cases hlt : i < len
    · obtain ⟨b, off, rfl, hbl, hc, u2, u3⟩ := HX.out.at HO.out.below hlt
      obtain ⟨zn, hzn⟩ : ∃ zn : Nat, y i = (zn : Int) := ⟨(y i).toNat, by omega⟩
      rw [hzn] at hc u2 u3
      have hi0 : (0 : Int) ≤ (i : Int) := by omega
      have hil : (i : Int) < (len : Int) := by omega
      obtain ⟨hpe, hpn⟩ := HP.out.next (by omega) hzn
      have HPN := Lib.hid hpn
      have CA := K.push wr p F l (i : Nat) zn HO.out.hp (wf_nat (by omega)) (by omega)
      rw [hpe] at CA
      clear hzn hpe hpn HP
      go_wp2_with fail
      refine CA.mono ?_
      rintro e w3 ⟨rfl, hg⟩
      obtain ⟨F3, H3, -, -⟩ := HO.out.grown hg (Nat.le_refl _)
      have H3 := Lib.hid H3
      clear hg HO hc CA
      go_wp2_with fail
      go_roundw
      case rel => first | exact ⟨i + 1, _, _, by push_cast; rfl, by omega, HPN, H3⟩ | ((repeat apply Exists.intro); exact ⟨⟨i + 1, _, _, by push_cast; rfl, by omega, HPN, H3⟩, rfl⟩)
      case measure => simp [intOf]; omega
    · obtain rfl : i = len := by omega
      have hmk := fun wx => made_bools i wx g10
      have hB := made_row i wr
      have oA := Only.alloc [] wr (.cells (madeCells #[.bool false] i) 4)
      have H2 := Lib.hid (HO.out.quiet oA (Nat.le_refl _))
      have HB := Lib.hid hB
      have hF0 := Lib.hid (show wr.heap.size ∉ F from fun h => Nat.lt_irrefl _ (K.lt HO.out.hp _ h))
      have hlow := Lib.hid (HO.out.size (Nat.le_refl _))
      clear hB oA
      go_wp2_with fail
      clear HO hmk
      obtain ⟨bs, hbs⟩ : ∃ q, q = wr.heap.size := ⟨_, rfl⟩
      rw [← hbs] at HB hF0 hlow
      rw [← hbs]
      clear hbs
      generalize wr.alloc (.cells (madeCells #[.bool false] i) 4) = w2 at *
      go_loopw [6, 7, 8] (fun c6 c7 c8 wr => ∃ (k : Nat) (F : List Nat) (l : List ItT) (s : Nat → Bool) (last : Nat) (bef : Int), c8 = .int .i64 k ∧ c6 = .int .u64 (last : Nat) ∧ c7 = .int .i64 bef ∧ k ≤ i ∧ bs ∉ F ∧ bs < wr.heap.size ∧ Hid (Hq.Left y i k s last bef l) ∧ Hid (BRow wr bs i s) ∧ Hid (On K w.heap.size w p F l wr)) (fun _ _ c _ => i - (intOf c).toNat)
      case atStart => exact ⟨0, F, l, fun _ => false, 0, -1, rfl, rfl, rfl, Nat.zero_le _, hF0.out, HB.out.lt, Lib.hid ⟨by rw [HP.out.1]; rfl, fun x hx => ⟨(HP.out.2 x hx).1, (HP.out.2 x hx).2, rfl⟩, fun _ => ⟨rfl, rfl⟩, fun h => by omega⟩, HB, H2⟩
      case round =>
        obtain ⟨k, F4, l4, s, last, bef, rfl, rfl, rfl, hk, hnF, hbw, HL, HR, HO⟩ := hrel
        clear H2 HB hF0 HP
        by_cases hkl : k < i
        · cases l4 with
          | nil => have := HL.out.len; simp at this; omega
          | cons x r =>
            have hki0 : (k : Int) < (i : Int) := by omega
            obtain ⟨hx1, hx2, hx3⟩ := HL.out.it x (by simp)
            have FI := Lib.hid (K.fine HO.out.hp)
            obtain ⟨b, off, rfl, hbl, hc, u2, u3⟩ := HX.out.at HO.out.below hx1
            rw [hx2] at hc u2 u3
            have hbb : b ≠ bs := by have := hlow.out; omega
            have hblF : b ∉ F4 := fun h => by have := HO.out.low b h; omega
            have hbl2 : b < wr.heap.size := Nat.lt_of_lt_of_le hbl HO.out.below.size
            have CA := K.pop wr p F4 (x :: r) HO.out.hp
            go_wp2_with fail
            refine CA.mono ?_
            rintro e w5 ⟨he, hg⟩
            replace he : e = .returned (.tuple #[.int .i64 (x.1 : Nat), .int .u64 (x.2 : Nat), .bool true]) := he
            subst he
            obtain ⟨F6, H6, ho6, hf6⟩ := HO.out.grown hg (Nat.le_refl _)
            replace H6 : On K w.heap.size w p F6 r w5 := H6
            have R5 := HR.out.kept ho6 hnF
            have c5 := (ho6.cell hbl2 hblF (off + x.1)).trans hc
            have s5 := R5.cell x.1 hx1
            have f5 := R5.free x.1 hx1
            rw [hx3] at s5
            have r5l := R5.lt
            have b5l : b < w5.heap.size := Nat.lt_of_lt_of_le hbl2 ho6.size
            have hnF6 : bs ∉ F6 := fun h => (hf6 bs h).elim hnF (fun g => by omega)
            have H6' := Lib.hid H6
            have HR5 := Lib.hid R5
            have HLN := Lib.hid (HL.out.next FI.out)
            have hpast := HL.out.past
            have hfirst := HL.out.first
            have hxi : (x.1 : Int) < (i : Int) := by omega
            clear hg CA HO H6 R5 hc ho6 hf6 HR hx2 hx3
            by_cases hk0 : k = 0
            · subst hk0
              obtain ⟨rfl, rfl⟩ := hfirst rfl
              clear hpast hfirst HL
              go_wp2_with fail
              have hR6 := HR5.out.set x.1 hx1
              have oS : Only [bs] w5 (w5.setCell ⟨bs, x.1, none⟩ (.bool true)) := Only.setCell w5 (by simp) _ _
              have h6 : On K w.heap.size w p F6 r (w5.setCell ⟨bs, x.1, none⟩ (.bool true)) := ⟨K.kept H6'.out.hp oS (fun q hq => by simp; rintro rfl; exact hnF6 hq), H6'.out.low, H6'.out.below.trans (oS.below (H6'.out.size (Nat.le_refl _)) (by simp; exact hlow.out))⟩
              have h6l : bs < (w5.setCell ⟨bs, x.1, none⟩ (.bool true)).heap.size := hR6.lt
              have HR6 := Lib.hid hR6
              have H7 := Lib.hid h6
              clear hR6 oS h6
              go_roundw
              case rel => first | exact ⟨0 + 1, F6, r, markB s x.1, x.2, (x.1 : Nat), by first | rfl | (push_cast; rfl) | simp, rfl, rfl, by omega, hnF6, h6l, HLN, HR6, H7⟩ | ((repeat apply Exists.intro); exact ⟨⟨0 + 1, F6, r, markB s x.1, x.2, (x.1 : Nat), by first | rfl | (push_cast; rfl) | simp, rfl, rfl, by omega, hnF6, h6l, HLN, HR6, H7⟩, rfl⟩)
              case measure => simp [intOf]; omega
            · have hp2 := hpast (by omega) x (by simp)
              have hk1 : (0 : Int) < (k : Int) := by omega
              have hge : ¬ (x.2 : Int) < (last : Int) := by omega
              clear hpast hfirst HL
              by_cases heq : x.2 = last
              · have hd : ((x.2 : Int) == (last : Int)) = true := by simp [heq]
                have hb2 : ¬ (x.1 : Int) < bef := by omega
                have HQ := Lib.hid heq
                clear heq hp2
                go_wp2_with fail
                have hR6 := HR5.out.set x.1 hx1
                have oS : Only [bs] w5 (w5.setCell ⟨bs, x.1, none⟩ (.bool true)) := Only.setCell w5 (by simp) _ _
                have h6 : On K w.heap.size w p F6 r (w5.setCell ⟨bs, x.1, none⟩ (.bool true)) := ⟨K.kept H6'.out.hp oS (fun q hq => by simp; rintro rfl; exact hnF6 hq), H6'.out.low, H6'.out.below.trans (oS.below (H6'.out.size (Nat.le_refl _)) (by simp; exact hlow.out))⟩
                have h6l : bs < (w5.setCell ⟨bs, x.1, none⟩ (.bool true)).heap.size := hR6.lt
                have HR6 := Lib.hid hR6
                have H7 := Lib.hid h6
                clear hR6 oS h6
                go_roundw
                case rel => first | exact ⟨k + 1, F6, r, markB s x.1, x.2, (x.1 : Nat), by first | rfl | (push_cast; rfl) | simp, rfl, rfl, by omega, hnF6, h6l, HLN, HR6, H7⟩ | ((repeat apply Exists.intro); exact ⟨⟨k + 1, F6, r, markB s x.1, x.2, (x.1 : Nat), by first | rfl | (push_cast; rfl) | simp, rfl, rfl, by omega, hnF6, h6l, HLN, HR6, H7⟩, rfl⟩)
                case measure => simp [intOf]; omega
              · have hd : ((x.2 : Int) == (last : Int)) = false := by simp; omega
                clear heq hp2
                go_wp2_with fail
                have hR6 := HR5.out.set x.1 hx1
                have oS : Only [bs] w5 (w5.setCell ⟨bs, x.1, none⟩ (.bool true)) := Only.setCell w5 (by simp) _ _
                have h6 : On K w.heap.size w p F6 r (w5.setCell ⟨bs, x.1, none⟩ (.bool true)) := ⟨K.kept H6'.out.hp oS (fun q hq => by simp; rintro rfl; exact hnF6 hq), H6'.out.low, H6'.out.below.trans (oS.below (H6'.out.size (Nat.le_refl _)) (by simp; exact hlow.out))⟩
                have h6l : bs < (w5.setCell ⟨bs, x.1, none⟩ (.bool true)).heap.size := hR6.lt
                have HR6 := Lib.hid hR6
                have H7 := Lib.hid h6
                clear hR6 oS h6
                go_roundw
                case rel => first | exact ⟨k + 1, F6, r, markB s x.1, x.2, (x.1 : Nat), by first | rfl | (push_cast; rfl) | simp, rfl, rfl, by omega, hnF6, h6l, HLN, HR6, H7⟩ | ((repeat apply Exists.intro); exact ⟨⟨k + 1, F6, r, markB s x.1, x.2, (x.1 : Nat), by first | rfl | (push_cast; rfl) | simp, rfl, rfl, by omega, hnF6, h6l, HLN, HR6, H7⟩, rfl⟩)
                case measure => simp [intOf]; omega
        · obtain rfl : k = i := by omega
          cases l4 with
          | cons x r => have := HL.out.len; simp at this
          | nil =>
            go_wp2_with fail
            refine (K.pop wr p F4 [] HO.out.hp).mono ?_
            rintro e w5 ⟨he, hg⟩
            replace he : e = .returned (.tuple #[.int .i64 (-1), .int .u64 0, .bool false]) := he
            subst he
            obtain ⟨F6, H6, -, -⟩ := HO.out.grown hg (Nat.le_refl _)
            have H6 := Lib.hid H6
            clear hg HO HR
            go_wp2_with fail
            refine (K.len w5 p F6 [] H6.out.hp).mono ?_
            rintro e w6 ⟨he, hw⟩
            subst hw
            replace he : e = .returned (.int .i64 0) := he
            subst he
            go_wp2_with fail
            go_ret
            exact ⟨rfl, H6.out.below⟩
end heapSorts
end Go.Proofs.Ytmeadkllbjkjbaa
