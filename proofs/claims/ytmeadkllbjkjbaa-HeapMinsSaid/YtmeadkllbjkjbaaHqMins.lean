/-
  HeapMins: the first one has the least key of all, of several the least number, and Pop takes just that one, of whatever keeps what a heap is asked for: for every input true, and the input reads as it did; no condition.
-/
import Derived.Test.YtmeadkllbjkjbaaHqMinsM
import Derived.Deep.CutRange
import Derived.Deep.CutBlock
import Derived.Deep.RegionHeld3
import Derived.BigQuiet
namespace Go.Proofs.Ytmeadkllbjkjbaa
open Go.ChangeShapes Go.WideShapes Go.ChangeAt Go.RowKit Go.Deep
namespace heapMins
open Hq
open Ph (Only)
set_option maxRecDepth 100000 in
set_option maxHeartbeats 8000000 in
theorem walk (K : Hk) (pa : Option Addr) (len cap : Nat) (y : Nat → WCallsT) (id : Int) (w : World) (hl : len ≤ cap ∧ cap ≤ maxLen) (hx : WCalls w.heap.size w pa len y) (hid : W64 id) :
    Calls Try.prog 6 #[.slice pa len cap, .int .i64 id] w fun e w' => e = .returned (.bool true) ∧ Below w.heap.size w w' := by
  have HX := Lib.hid hx
  have HID := Lib.hid hid
  have hlm : len ≤ maxLen := by omega
  unfold maxLen at hlm
  clear hx hl hid
  go_enter Try.func6, Try.ntmps6
  go_wp2_with fail
  refine (alive_any K _).mono ?_
  rintro e w0 ⟨rfl, B0⟩
  by_cases g1 : 200 < len
  · have g1' : (200 : Int) < (len : Int) := by omega
    go_wp2
    go_ret
    exact ⟨rfl, B0⟩
  have g1' : ¬ (200 : Int) < (len : Int) := by omega
  have g10 : len ≤ 200 := by omega
  clear g1
  go_wp2_with fail
  refine (K.new w0).mono ?_
  rintro e w1 ⟨p, F1, rfl, hW, hF, hO⟩
  have H1 : On K w.heap.size w p F1 [] w1 := ⟨hW, fun x hx => Nat.le_trans B0.size (hF x hx), B0.trans (hO.below B0.size (by simp))⟩
  clear hW hF hO B0 g1'
  go_wp2_with fail
  go_loopw [6] (fun c wr => ∃ (i : Nat) (F : List Nat) (l : List ItT), c = .int .i64 i ∧ i ≤ len ∧ Hid (On K w.heap.size w p F l wr)) (fun c _ => len - (intOf c).toNat)
  case atStart => exact ⟨0, F1, [], rfl, Nat.zero_le _, Lib.hid H1⟩
  case round =>
    obtain ⟨i, F, l, rfl, hi, HO⟩ := hrel
    clear H1
    by_cases hlt : i < len
    · obtain ⟨b, off, rfl, hbl, hC⟩ := HX.out.at HO.out.below hlt
      rcases hyi : y i with ⟨a, d, z⟩
      have HS := Lib.hid (fun (w' : World) (h : Below w.heap.size w w') => show (w'.cell? ⟨b, off + i * 3 + 1, none⟩ = some (.int .i64 d) ∧ w'.cell? ⟨b, off + i * 3 + 2, none⟩ = some (.int .u64 z)) ∧ W64 d ∧ 0 ≤ z ∧ z ≤ 18446744073709551615 from by
        obtain ⟨b', off', e, _, hC⟩ := HX.out.at h hlt
        cases e
        rw [hyi] at hC
        exact ⟨⟨hC.c1, hC.c2⟩, hC.w1, bounds_u64 hC.w2⟩)
      rw [hyi] at hC
      have c0 := hC.c0
      simp only at c0
      obtain ⟨hc12, u1, u2, u3⟩ := HS.out _ HO.out.below
      obtain ⟨zn, rfl⟩ : ∃ zn : Nat, z = (zn : Int) := ⟨z.toNat, by omega⟩
      have hi0 : (0 : Int) ≤ (i : Int) := by omega
      have hil : (i : Int) < (len : Int) := by omega
      clear hC hyi
      by_cases h0 : a = 0
      · subst h0
        have hd := Only.drewN [] wr 1
        have HD : Hid (On K w.heap.size w p F l wr.drew) := Lib.hid (HO.out.quiet hd (Nat.le_refl _))
        have hB : Below w.heap.size w wr.drew := HD.out.below
        have hW := Lib.hid (K.push wr.drew p F l d zn HD.out.hp u1 (by omega))
        clear HO hd hc12
        go_upto_region 11 with fail
        go_region_held3 (fun w' => w'.cell? ⟨b, off + i * 3 + 1, none⟩ = some (.int .i64 d) ∧ w'.cell? ⟨b, off + i * 3 + 2, none⟩ = some (.int .u64 (zn : Int))) (exact (HS.out _ hB).1) (first | (go_at_call 9; refine hW.out.mono ?_; rintro e w3 ⟨rfl, hg⟩; obtain ⟨F3, H3, ho3, hf3⟩ := HD.out.grown hg (Nat.le_refl _); replace hB := H3.below))
        all_goals
          have H3 := Lib.hid H3
          clear hW HD hB ho3 hf3 hg
          go_wp2_with fail
          go_roundw
          case rel => first | exact ⟨i + 1, _, _, by push_cast; rfl, by omega, H3⟩ | ((repeat apply Exists.intro); exact ⟨⟨i + 1, _, _, by push_cast; rfl, by omega, H3⟩, rfl⟩)
          case measure => simp [intOf]; omega
      have d0 : (a == 0) = false := by simpa using h0
      by_cases h1 : a = 1
      · subst h1
        go_wp2_with fail
        refine (K.pop wr p F l HO.out.hp).mono ?_
        rintro e w3 ⟨rfl, hg⟩
        obtain ⟨F3, H3, -, -⟩ := HO.out.grown hg (Nat.le_refl _)
        have H3 := Lib.hid H3
        clear hg HO hc12 c0
        go_wp2_with fail
        go_roundw
        case rel => first | exact ⟨i + 1, _, _, by push_cast; rfl, by omega, H3⟩ | ((repeat apply Exists.intro); exact ⟨⟨i + 1, _, _, by push_cast; rfl, by omega, H3⟩, rfl⟩)
        case measure => simp [intOf]; omega
      have d1 : (a == 1) = false := by simpa using h1
      by_cases h2 : a = 2
      · subst h2
        obtain ⟨k1, k2⟩ := hc12
        have CA := K.rem wr p F l d HO.out.hp u1
        go_wp2_with fail
        refine CA.mono ?_
        rintro e w3 ⟨rfl, hg⟩
        obtain ⟨F3, H3, -, -⟩ := HO.out.grown hg (Nat.le_refl _)
        have H3 := Lib.hid H3
        clear hg HO k1 k2 c0 CA
        go_wp2_with fail
        go_roundw
        case rel => first | exact ⟨i + 1, _, _, by push_cast; rfl, by omega, H3⟩ | ((repeat apply Exists.intro); exact ⟨⟨i + 1, _, _, by push_cast; rfl, by omega, H3⟩, rfl⟩)
        case measure => simp [intOf]; omega
      have d2 : (a == 2) = false := by simpa using h2
      by_cases h3 : a = 3
      · subst h3
        have hd := Only.drewN [] wr 1
        have HD : Hid (On K w.heap.size w p F l wr.drew) := Lib.hid (HO.out.quiet hd (Nat.le_refl _))
        have hB : Below w.heap.size w wr.drew := HD.out.below
        have hW := Lib.hid (K.chg wr.drew p F l d zn HD.out.hp u1 (by omega))
        clear HO hd hc12
        go_upto_region 17 with fail
        go_region_held3 (fun w' => w'.cell? ⟨b, off + i * 3 + 1, none⟩ = some (.int .i64 d) ∧ w'.cell? ⟨b, off + i * 3 + 2, none⟩ = some (.int .u64 (zn : Int))) (exact (HS.out _ hB).1) (first | (go_at_call 14; refine hW.out.mono ?_; rintro e w3 ⟨rfl, hg⟩; obtain ⟨F3, H3, ho3, hf3⟩ := HD.out.grown hg (Nat.le_refl _); replace hB := H3.below))
        all_goals
          have H3 := Lib.hid H3
          clear hW HD hB ho3 hf3 hg
          go_wp2_with fail
          go_roundw
          case rel => first | exact ⟨i + 1, _, _, by push_cast; rfl, by omega, H3⟩ | ((repeat apply Exists.intro); exact ⟨⟨i + 1, _, _, by push_cast; rfl, by omega, H3⟩, rfl⟩)
          case measure => simp [intOf]; omega
      have d3 : (a == 3) = false := by simpa using h3
      have H3 := HO
      clear HO hc12
      go_wp2_with fail
      go_roundw
      case rel => first | exact ⟨i + 1, _, _, by push_cast; rfl, by omega, H3⟩ | ((repeat apply Exists.intro); exact ⟨⟨i + 1, _, _, by push_cast; rfl, by omega, H3⟩, rfl⟩)
      case measure => simp [intOf]; omega
    · obtain rfl : i = len := by omega
      cases l with
      | nil =>
        have FI := Lib.hid (K.fine HO.out.hp)
        go_wp2_with fail
        refine (K.min wr p F [] HO.out.hp).mono ?_
        rintro e w3 ⟨he, hO⟩
        replace he : e = .returned (.tuple #[.int .i64 (-1), .int .u64 (0), .bool false]) := he
        subst he
        have H3 := Lib.hid (HO.out.quiet hO (Nat.le_refl _))
        clear HO hO
        go_wp2_with fail
        go_loopw [10] (fun c wr => ∃ (k : Nat), c = .int .i64 k ∧ k ≤ 64 ∧ Hid (On K w.heap.size w p F [] wr)) (fun c _ => 64 - (intOf c).toNat)
        case atStart => exact ⟨0, rfl, Nat.zero_le _, H3⟩
        case round =>
          clear H3
          obtain ⟨k, rfl, hk, HK⟩ := hrel
          by_cases hlt : k < 64
          · have CK := K.key wr p F [] (k : Nat) HK.out.hp (wf_nat (by omega))
            cases hkk : keyP (k : Nat) [] with
            | none =>
              rw [hkk] at CK
              simp only [Option.getD_none, Option.isSome_none] at CK
              clear hkk
              go_wp2_with fail
              refine CK.mono ?_
              rintro e w4 ⟨rfl, hO⟩
              have H5 := Lib.hid (HK.out.quiet hO (Nat.le_refl _))
              clear CK hO HK
              go_wp2_with fail
              go_roundw
              case rel => first | exact ⟨k + 1, by push_cast; rfl, by omega, H5⟩ | ((repeat apply Exists.intro); exact ⟨⟨k + 1, by push_cast; rfl, by omega, H5⟩, rfl⟩)
              case measure => simp [intOf]; omega
            | some zz =>
              rw [hkk] at CK
              simp only [Option.getD_some, Option.isSome_some] at CK
              rw [key_nil] at hkk
              cases hkk
          · obtain rfl : k = 64 := by omega
            have CK := K.key wr p F [] id HK.out.hp HID.out
            rw [key_nil] at CK
            simp only [Option.getD_none, Option.isSome_none] at CK
            go_wp2_with fail
            refine CK.mono ?_
            rintro e w4 ⟨rfl, hO⟩
            have H5 := Lib.hid (HK.out.quiet hO (Nat.le_refl _))
            clear CK hO HK
            go_wp2_with fail
            refine (K.len w4 p F [] H5.out.hp).mono ?_
            rintro e w5 ⟨he, hw⟩
            subst hw
            replace he : e = .returned (.int .i64 0) := he
            subst he
            go_wp2_with fail
            refine (K.pop w4 p F [] H5.out.hp).mono ?_
            rintro e w6 ⟨he, hg⟩
            replace he : e = .returned (.tuple #[.int .i64 (-1), .int .u64 0, .bool false]) := he
            subst he
            obtain ⟨F6, H6, -, -⟩ := H5.out.grown hg (Nat.le_refl _)
            have CK := K.key w6 p F6 [] id H6.hp HID.out
            rw [key_nil] at CK
            simp only [Option.getD_none, Option.isSome_none] at CK
            have H6 := Lib.hid H6
            clear hg H5
            go_wp2_with fail
            refine CK.mono ?_
            rintro e w7 ⟨rfl, hO⟩
            have H7 := Lib.hid (H6.out.quiet hO (Nat.le_refl _))
            clear CK hO H6
            go_wp2_with fail
            go_ret
            exact ⟨rfl, H7.out.below⟩
      | cons x r =>
        have FI := Lib.hid (K.fine HO.out.hp)
        go_wp2_with fail
        refine (K.min wr p F (x :: r) HO.out.hp).mono ?_
        rintro e w3 ⟨he, hO⟩
        replace he : e = .returned (.tuple #[.int .i64 ((x.1 : Nat)), .int .u64 ((x.2 : Nat)), .bool true]) := he
        subst he
        have H3 := Lib.hid (HO.out.quiet hO (Nat.le_refl _))
        clear HO hO
        go_wp2_with fail
        go_loopw [10] (fun c wr => ∃ (k : Nat), c = .int .i64 k ∧ k ≤ 64 ∧ Hid (On K w.heap.size w p F (x :: r) wr)) (fun c _ => 64 - (intOf c).toNat)
        case atStart => exact ⟨0, rfl, Nat.zero_le _, H3⟩
        case round =>
          clear H3
          obtain ⟨k, rfl, hk, HK⟩ := hrel
          by_cases hlt : k < 64
          · have CK := K.key wr p F (x :: r) (k : Nat) HK.out.hp (wf_nat (by omega))
            cases hkk : keyP (k : Nat) (x :: r) with
            | none =>
              rw [hkk] at CK
              simp only [Option.getD_none, Option.isSome_none] at CK
              clear hkk
              go_wp2_with fail
              refine CK.mono ?_
              rintro e w4 ⟨rfl, hO⟩
              have H5 := Lib.hid (HK.out.quiet hO (Nat.le_refl _))
              clear CK hO HK
              go_wp2_with fail
              go_roundw
              case rel => first | exact ⟨k + 1, by push_cast; rfl, by omega, H5⟩ | ((repeat apply Exists.intro); exact ⟨⟨k + 1, by push_cast; rfl, by omega, H5⟩, rfl⟩)
              case measure => simp [intOf]; omega
            | some zz =>
              rw [hkk] at CK
              simp only [Option.getD_some, Option.isSome_some] at CK
              obtain ⟨m1, m2⟩ := key_least FI.out.srt hkk
              have m1' : ¬ (zz : Int) < (x.2 : Int) := by omega
              clear hkk
              go_wp2_with fail
              refine CK.mono ?_
              rintro e w4 ⟨rfl, hO⟩
              have H5 := Lib.hid (HK.out.quiet hO (Nat.le_refl _))
              clear CK hO HK
              by_cases q1 : zz = x.2
              · have q2 : ¬ (k : Int) < (x.1 : Int) := fun h => m2 ⟨q1, h⟩
                have q1d : ((zz : Int) == (x.2 : Int)) = true := by simp [q1]
                clear m1 m2
                go_wp2_with fail
                go_roundw
                case rel => first | exact ⟨k + 1, by push_cast; rfl, by omega, H5⟩ | ((repeat apply Exists.intro); exact ⟨⟨k + 1, by push_cast; rfl, by omega, H5⟩, rfl⟩)
                case measure => simp [intOf]; omega
              · have q1d : ((zz : Int) == (x.2 : Int)) = false := by simp; omega
                clear m1 m2
                go_wp2_with fail
                go_roundw
                case rel => first | exact ⟨k + 1, by push_cast; rfl, by omega, H5⟩ | ((repeat apply Exists.intro); exact ⟨⟨k + 1, by push_cast; rfl, by omega, H5⟩, rfl⟩)
                case measure => simp [intOf]; omega
          · obtain rfl : k = 64 := by omega
            by_cases hidx : id = (x.1 : Nat)
            · have CK := K.key wr p F (x :: r) id HK.out.hp HID.out
              rw [key_head r hidx] at CK
              have HIX := Lib.hid hidx
              clear hidx
              simp only [Option.getD_some, Option.isSome_some] at CK
              go_wp2_with fail
              refine CK.mono ?_
              rintro e w4 ⟨rfl, hO⟩
              have H5 := Lib.hid (HK.out.quiet hO (Nat.le_refl _))
              clear CK hO HK
              go_wp2_with fail
              refine (K.len w4 p F (x :: r) H5.out.hp).mono ?_
              rintro e w5 ⟨he, hw⟩
              subst hw
              replace he : e = .returned (.int .i64 ((r.length : Nat) + 1 : Int)) := by rw [he]; congr 2
              subst he
              go_wp2_with fail
              refine (K.pop w4 p F (x :: r) H5.out.hp).mono ?_
              rintro e w6 ⟨he, hg⟩
              replace he : e = .returned (.tuple #[.int .i64 (x.1 : Nat), .int .u64 (x.2 : Nat), .bool true]) := he
              subst he
              obtain ⟨F6, H6, -, -⟩ := H5.out.grown hg (Nat.le_refl _)
              replace H6 : On K w.heap.size w p F6 r w6 := H6
              have CK := K.key w6 p F6 r id H6.hp HID.out
              rw [show keyP id r = none by rw [HIX.out]; exact key_gone FI.out.uni] at CK
              simp only [Option.getD_none, Option.isSome_none] at CK
              have H6 := Lib.hid H6
              clear hg H5
              go_wp2_with fail
              refine CK.mono ?_
              rintro e w7 ⟨rfl, hO⟩
              have H7 := Lib.hid (H6.out.quiet hO (Nat.le_refl _))
              clear CK hO H6
              have hrl : r.length ≤ 64 := by have := FI.out.len; simp at this; omega
              go_wp2_with fail
              refine (K.len w7 p F6 r H7.out.hp).mono ?_
              rintro e w8 ⟨he, hw⟩
              subst hw
              subst he
              have hne : (((r.length : Nat) : Int) != ((r.length : Nat) : Int) + 1 - 1) = false := by simp
              have hq : (((x.1 : Nat) : Int) == id) = true := by simp [HIX.out]
              go_wp2_with fail
              go_ret
              exact ⟨rfl, H7.out.below⟩
            · have hq : (((x.1 : Nat) : Int) == id) = false := by simp; exact fun e => hidx e.symm
              have HIX := Lib.hid hidx
              cases hkr : keyP id r with
              | none =>
                have CK := K.key wr p F (x :: r) id HK.out.hp HID.out
                rw [key_tail r HIX.out, hkr] at CK
                clear hidx
                simp only [Option.getD_none, Option.isSome_none] at CK
                go_wp2_with fail
                refine CK.mono ?_
                rintro e w4 ⟨rfl, hO⟩
                have H5 := Lib.hid (HK.out.quiet hO (Nat.le_refl _))
                clear CK hO HK
                go_wp2_with fail
                refine (K.len w4 p F (x :: r) H5.out.hp).mono ?_
                rintro e w5 ⟨he, hw⟩
                subst hw
                replace he : e = .returned (.int .i64 ((r.length : Nat) + 1 : Int)) := by rw [he]; congr 2
                subst he
                go_wp2_with fail
                refine (K.pop w4 p F (x :: r) H5.out.hp).mono ?_
                rintro e w6 ⟨he, hg⟩
                replace he : e = .returned (.tuple #[.int .i64 (x.1 : Nat), .int .u64 (x.2 : Nat), .bool true]) := he
                subst he
                obtain ⟨F6, H6, -, -⟩ := H5.out.grown hg (Nat.le_refl _)
                replace H6 : On K w.heap.size w p F6 r w6 := H6
                have CK := K.key w6 p F6 r id H6.hp HID.out
                rw [hkr] at CK
                clear hkr
                simp only [Option.getD_none, Option.isSome_none] at CK
                have H6 := Lib.hid H6
                clear hg H5
                go_wp2_with fail
                refine CK.mono ?_
                rintro e w7 ⟨rfl, hO⟩
                have H7 := Lib.hid (H6.out.quiet hO (Nat.le_refl _))
                clear CK hO H6
                have hrl : r.length ≤ 64 := by have := FI.out.len; simp at this; omega
                go_wp2_with fail
                refine (K.len w7 p F6 r H7.out.hp).mono ?_
                rintro e w8 ⟨he, hw⟩
                subst hw
                subst he
                have hne : (((r.length : Nat) : Int) != ((r.length : Nat) : Int) + 1 - 1) = false := by simp
                go_wp2_with fail
                go_ret
                exact ⟨rfl, H7.out.below⟩
              | some zq =>
                have CK := K.key wr p F (x :: r) id HK.out.hp HID.out
                rw [key_tail r HIX.out, hkr] at CK
                clear hidx
                simp only [Option.getD_some, Option.isSome_some] at CK
                go_wp2_with fail
                refine CK.mono ?_
                rintro e w4 ⟨rfl, hO⟩
                have H5 := Lib.hid (HK.out.quiet hO (Nat.le_refl _))
                clear CK hO HK
                go_wp2_with fail
                refine (K.len w4 p F (x :: r) H5.out.hp).mono ?_
                rintro e w5 ⟨he, hw⟩
                subst hw
                replace he : e = .returned (.int .i64 ((r.length : Nat) + 1 : Int)) := by rw [he]; congr 2
                subst he
                go_wp2_with fail
                refine (K.pop w4 p F (x :: r) H5.out.hp).mono ?_
                rintro e w6 ⟨he, hg⟩
                replace he : e = .returned (.tuple #[.int .i64 (x.1 : Nat), .int .u64 (x.2 : Nat), .bool true]) := he
                subst he
                obtain ⟨F6, H6, -, -⟩ := H5.out.grown hg (Nat.le_refl _)
                replace H6 : On K w.heap.size w p F6 r w6 := H6
                have CK := K.key w6 p F6 r id H6.hp HID.out
                rw [hkr] at CK
                clear hkr
                simp only [Option.getD_some, Option.isSome_some] at CK
                have H6 := Lib.hid H6
                clear hg H5
                go_wp2_with fail
                refine CK.mono ?_
                rintro e w7 ⟨rfl, hO⟩
                have H7 := Lib.hid (H6.out.quiet hO (Nat.le_refl _))
                clear CK hO H6
                have hrl : r.length ≤ 64 := by have := FI.out.len; simp at this; omega
                go_wp2_with fail
                refine (K.len w7 p F6 r H7.out.hp).mono ?_
                rintro e w8 ⟨he, hw⟩
                subst hw
                subst he
                have hne : (((r.length : Nat) : Int) != ((r.length : Nat) : Int) + 1 - 1) = false := by simp
                go_wp2_with fail
                go_ret
                exact ⟨rfl, H7.out.below⟩
end heapMins
end Go.Proofs.Ytmeadkllbjkjbaa
