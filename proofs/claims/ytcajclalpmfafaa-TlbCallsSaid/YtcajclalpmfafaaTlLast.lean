/-
  The law's lasting: is each entry the last one that was filled of its name, and not dropped since? Conditions: that the rows lie there.
-/
import Derived.Test.YtcajclalpmfafaaTlSeen
import Derived.Deep.CutRange
import Derived.Deep.CutBlock
import Derived.Deep.QuietTactic
import Derived.BigQuiet
namespace Go.Proofs.Ytcajclalpmfafaa
open Go.RowKit Go.Maps
namespace Tl
open Ph (Only)

theorem fine_succ (l : SlotT) (y : Nat → HeldT) (k : Nat) : fine l y (k + 1) = fineStep l (y k) (fine l y k) := rfl
set_option maxRecDepth 100000 in
set_option maxHeartbeats 4000000 in
theorem lasting_true (va : Value) (l : List SlotT) (pa : Option Addr) (len cap : Nat) (y : Nat → HeldT) (w : World) (hl : l.length ≤ 64) (hn : len ≤ 60) (ha : Seen w va l) (hx : TCalls w.heap.size w pa len y) (hf : ∀ s ∈ l, fine s y len = true) :
    Calls Try.prog 21 #[va, .slice pa len cap] w fun e w' => e = .returned (.bool true) ∧ Below w.heap.size w w' := by
  obtain ⟨a, ca, rfl, hra⟩ := ha
  have RA := Lib.hid hra
  have HX := Lib.hid hx
  have HF := Lib.hid hf
  have HE := Lib.hid eqlSlot
  clear hra hx hf
  go_enter Try.func21, Try.ntmps21
  go_wp2_with fail
  go_loopw [5] (fun c wr => ∃ i : Nat, c = .int .i64 i ∧ i ≤ l.length ∧ Below w.heap.size w wr) (fun c _ => l.length - (intOf c).toNat)
  case atStart => exact ⟨0, rfl, Nat.zero_le _, Below.refl _ _⟩
  case round =>
    obtain ⟨i, rfl, hi, hB⟩ := hrel
    have HB := Lib.hid hB
    clear hB
    by_cases hlt : i < l.length
    · obtain ⟨x, hx⟩ : ∃ x, l[i]? = some x := ⟨l[i], List.getElem?_eq_getElem hlt⟩
      obtain ⟨ba, rfl, hal, hca⟩ := RA.out (by omega)
      have GA := Lib.hid (fun j u hu => hca i x hx j u hu)
      have FX := Lib.hid (HF.out x (List.mem_of_getElem? hx))
      clear hca RA HF hx
      go_wp2_with fail
      go_loopw [6, 7] (fun fv c wi => ∃ k : Nat, c = .int .i64 k ∧ k ≤ len ∧ fv = .bool (fine x y k) ∧ Below w.heap.size w wi) (fun _ c _ => len - (intOf c).toNat)
      case atStart => exact ⟨0, rfl, Nat.zero_le _, rfl, HB.out⟩
      case round =>
        obtain ⟨k, rfl, hk, rfl, hB2⟩ := hrel
        clear HB
        by_cases hkl : k < len
        · obtain ⟨b, off, rfl, hbl, hC⟩ := HX.out.at hB2 hkl
          obtain ⟨⟨t, v, p, f, wri, ex⟩, hyk⟩ : ∃ h, y k = h := ⟨_, rfl⟩
          rw [hyk] at hC
          have c0 := hC.c0
          have c1 := hC.c1
          have c2 := hC.c2
          have c3 := hC.c3
          have c4 := hC.c4
          have c5 := hC.c5
          have HY := Lib.hid hyk
          have HB2 := Lib.hid hB2
          have hbs := hB2.size
          have hbr : b < wr.heap.size := by omega
          have hal' : ba < wr.heap.size := by omega
          obtain ⟨xv, xp, xf, xw, xx⟩ := x
          have ga := fun j u hu => (hB2.cell (p := ⟨ba, i * 5 + j, none⟩) hal).trans (GA.out j u hu)
          have k0 := ga 0 _ rfl
          have k1 := ga 1 _ rfl
          rw [Nat.add_zero] at k0
          clear ga hC hyk hB2
          obtain ⟨fk, hfk⟩ : ∃ fk, fk = fine (xv, xp, xf, xw, xx) y k := ⟨_, rfl⟩
          rw [← hfk]
          have HFK := Lib.hid hfk
          clear hfk
          have hBa := Lib.hid (HB2.out.alloc hbs (.cells #[.int .i64 v, .int .i64 p, .int .i64 f, .bool wri, .bool ex] 31))
          have hLa := Lib.hid (Lay.new wr 31 [.int .i64 v, .int .i64 p, .int .i64 f, .bool wri, .bool ex])
          go_upto_region 9 with fail
          go_cut [9] from 16 to 93 (fun one wx => one = .bool (named xv xp (v, p, f, wri, ex)) ∧ Lay wx wr.heap.size 31 [.int .i64 v, .int .i64 p, .int .i64 f, .bool wri, .bool ex] ∧ Below w.heap.size w wx)
          case first =>
            have e0 := hLa.out.cell 0
            have e1 := hLa.out.cell 1
            simp only [List.getElem?_cons_zero, List.getElem?_cons_succ] at e0 e1
            clear c0 c1 c2 c3 c4 c5
            have hil : (i : Int) < (l.length : Int) := by omega
            have hi0 : (0 : Int) ≤ (i : Int) := by omega
            by_cases n1 : v = xv
            · subst n1
              by_cases n2 : p = xp
              · subst n2
                go_quiet (fail)
                go_wp2_with fail
                go_meet
                case rel => exact ⟨by simp [named], hLa.out.kept (Only.drewN [] _ _) (by simp), hBa.out.trans ((Only.drewN [] _ _).below hBa.out.size (by simp))⟩
              · have hd : decide (p = xp) = false := decide_eq_false n2
                go_quiet (fail)
                go_wp2_with fail
                go_meet
                case rel => exact ⟨by simp [named, n2], hLa.out.kept (Only.drewN [] _ _) (by simp), hBa.out.trans ((Only.drewN [] _ _).below hBa.out.size (by simp))⟩
            · have hd : decide (v = xv) = false := decide_eq_false n1
              go_quiet (fail)
              go_wp2_with fail
              go_meet
              case rel => exact ⟨by simp [named, n1], hLa.out.kept (Only.drewN [] _ _) (by simp), hBa.out.trans ((Only.drewN [] _ _).below hBa.out.size (by simp))⟩
          case rest =>
            obtain ⟨rfl, hL, hB⟩ := hcut
            obtain ⟨b1, o1, he, _, hC⟩ := HX.out.at hB hkl
            simp only [Option.some.injEq, Addr.mk.injEq, and_true] at he
            obtain ⟨rfl, rfl⟩ := he
            rw [HY.out] at hC
            have ga := fun j u hu => (hB.cell (p := ⟨ba, i * 5 + j, none⟩) hal).trans (GA.out j u hu)
            clear c0 c1 c2 c3 c4 c5 k0 k1
            have c0 := hC.c0
            have k0 := ga 0 _ rfl
            have k1 := ga 1 _ rfl
            have k2 := ga 2 _ rfl
            have k3 := ga 3 _ rfl
            have k4 := ga 4 _ rfl
            rw [Nat.add_zero] at k0
            have e0 := hL.cell 0
            have e1 := hL.cell 1
            have e2 := hL.cell 2
            have e3 := hL.cell 3
            have e4 := hL.cell 4
            simp only [List.getElem?_cons_zero, List.getElem?_cons_succ] at e0 e1 e2 e3 e4
            have HB := Lib.hid hB
            have hzc := hB.size
            have hbc : b < wc.heap.size := by omega
            have hac : ba < wc.heap.size := by omega
            have hlc := hL.lt
            have hil : (i : Int) < (l.length : Int) := by omega
            have hi0 : (0 : Int) ≤ (i : Int) := by omega
            obtain ⟨ob, hob⟩ : ∃ ob, ob = named xv xp (v, p, f, wri, ex) := ⟨_, rfl⟩
            rw [← hob]
            have HOB := Lib.hid hob
            obtain ⟨dq, hdq⟩ : ∃ dq, dq = decide (((v, p, f, wri, ex) : SlotT) = (xv, xp, xf, xw, xx)) := ⟨_, rfl⟩
            have HDQ := Lib.hid hdq
            have heq : ∀ w, (binOp .eql 31 (.agg #[.int .i64 v, .int .i64 p, .int .i64 f, .bool wri, .bool ex]) (.agg #[.int .i64 xv, .int .i64 xp, .int .i64 xf, .bool xw, .bool xx])).run Try.prog w = .ok (.bool dq) w := fun w => by rw [hdq]; exact eqlSlot (v, p, f, wri, ex) (xv, xp, xf, xw, xx) w
            clear hB hL hC ga hob hdq hBa hLa HB2 GA
            by_cases t0 : t = 0
            · subst t0
              clear heq
              cases ob
              · go_wp2_with fail
                go_roundw
                case rel => first | exact ⟨k + 1, rfl, by omega, congrArg Value.bool (by rw [fine_succ, HY.out, ← HFK.out]; (simp [fineStep, ← HOB.out]) <;> rfl), by first | (with_reducible exact HB.out) | exact HB.out.trans ((Only.drewN [] _ _).below HB.out.size (by simp))⟩ | ((repeat apply Exists.intro); exact ⟨⟨rfl, by omega, congrArg Value.bool (by rw [fine_succ, HY.out, ← HFK.out]; (simp [fineStep, ← HOB.out]) <;> rfl), by first | (with_reducible exact HB.out) | exact HB.out.trans ((Only.drewN [] _ _).below HB.out.size (by simp))⟩, rfl⟩)
                case measure => simp only [intOf, Int.toNat_natCast]; omega
              · have heq : ∀ w, (binOp .eql 31 (.agg #[.int .i64 v, .int .i64 p, .int .i64 f, .bool wri, .bool ex]) (.agg #[.int .i64 xv, .int .i64 xp, .int .i64 xf, .bool xw, .bool xx])).run Try.prog w = .ok (.bool dq) w := fun w => by rw [HDQ.out]; exact eqlSlot (v, p, f, wri, ex) (xv, xp, xf, xw, xx) w
                go_wp2_with fail
                go_quiet (fail)
                go_wp2_with fail
                go_roundw
                case rel => first | exact ⟨k + 1, rfl, by omega, congrArg Value.bool (by rw [fine_succ, HY.out, ← HFK.out]; (simp [fineStep, ← HOB.out, HDQ.out]) <;> rfl), by first | (with_reducible exact HB.out) | exact HB.out.trans ((Only.drewN [] _ _).below HB.out.size (by simp))⟩ | ((repeat apply Exists.intro); exact ⟨⟨rfl, by omega, congrArg Value.bool (by rw [fine_succ, HY.out, ← HFK.out]; (simp [fineStep, ← HOB.out, HDQ.out]) <;> rfl), by first | (with_reducible exact HB.out) | exact HB.out.trans ((Only.drewN [] _ _).below HB.out.size (by simp))⟩, rfl⟩)
                case measure => simp only [intOf, Int.toNat_natCast]; omega
            clear heq
            by_cases t1 : t = 1
            · subst t1
              cases fk
              · skip
                go_wp2_with fail
                go_roundw
                case rel => first | exact ⟨k + 1, rfl, by omega, congrArg Value.bool (by rw [fine_succ, HY.out, ← HFK.out]; (simp [fineStep]) <;> rfl), by first | (with_reducible exact HB.out) | exact HB.out.trans ((Only.drewN [] _ _).below HB.out.size (by simp))⟩ | ((repeat apply Exists.intro); exact ⟨⟨rfl, by omega, congrArg Value.bool (by rw [fine_succ, HY.out, ← HFK.out]; (simp [fineStep]) <;> rfl), by first | (with_reducible exact HB.out) | exact HB.out.trans ((Only.drewN [] _ _).below HB.out.size (by simp))⟩, rfl⟩)
                case measure => simp only [intOf, Int.toNat_natCast]; omega
              · skip
                go_wp2_with fail
                go_roundw
                case rel => first | exact ⟨k + 1, rfl, by omega, congrArg Value.bool (by rw [fine_succ, HY.out, ← HFK.out]; (simp [fineStep, ← HOB.out]) <;> rfl), by first | (with_reducible exact HB.out) | exact HB.out.trans ((Only.drewN [] _ _).below HB.out.size (by simp))⟩ | ((repeat apply Exists.intro); exact ⟨⟨rfl, by omega, congrArg Value.bool (by rw [fine_succ, HY.out, ← HFK.out]; (simp [fineStep, ← HOB.out]) <;> rfl), by first | (with_reducible exact HB.out) | exact HB.out.trans ((Only.drewN [] _ _).below HB.out.size (by simp))⟩, rfl⟩)
                case measure => simp only [intOf, Int.toNat_natCast]; omega
            by_cases t2 : t = 2
            · subst t2
              cases fk
              · go_wp2_with fail
                go_quiet (fail)
                go_wp2_with fail
                go_roundw
                case rel => first | exact ⟨k + 1, rfl, by omega, congrArg Value.bool (by rw [fine_succ, HY.out, ← HFK.out]; (simp [fineStep]) <;> rfl), by first | (with_reducible exact HB.out) | exact HB.out.trans ((Only.drewN [] _ _).below HB.out.size (by simp))⟩ | ((repeat apply Exists.intro); exact ⟨⟨rfl, by omega, congrArg Value.bool (by rw [fine_succ, HY.out, ← HFK.out]; (simp [fineStep]) <;> rfl), by first | (with_reducible exact HB.out) | exact HB.out.trans ((Only.drewN [] _ _).below HB.out.size (by simp))⟩, rfl⟩)
                case measure => simp only [intOf, Int.toNat_natCast]; omega
              · go_wp2_with fail
                go_quiet (fail)
                go_wp2_with fail
                go_roundw
                case rel => first | exact ⟨k + 1, rfl, by omega, congrArg Value.bool (by rw [fine_succ, HY.out, ← HFK.out]; (simp [fineStep]) <;> rfl), by first | (with_reducible exact HB.out) | exact HB.out.trans ((Only.drewN [] _ _).below HB.out.size (by simp))⟩ | ((repeat apply Exists.intro); exact ⟨⟨rfl, by omega, congrArg Value.bool (by rw [fine_succ, HY.out, ← HFK.out]; (simp [fineStep]) <;> rfl), by first | (with_reducible exact HB.out) | exact HB.out.trans ((Only.drewN [] _ _).below HB.out.size (by simp))⟩, rfl⟩)
                case measure => simp only [intOf, Int.toNat_natCast]; omega
            by_cases t3 : t = 3
            · subst t3
              cases fk
              · go_wp2_with fail
                go_quiet (fail)
                go_wp2_with fail
                go_roundw
                case rel => first | exact ⟨k + 1, rfl, by omega, congrArg Value.bool (by rw [fine_succ, HY.out, ← HFK.out]; (simp [fineStep]) <;> rfl), by first | (with_reducible exact HB.out) | exact HB.out.trans ((Only.drewN [] _ _).below HB.out.size (by simp))⟩ | ((repeat apply Exists.intro); exact ⟨⟨rfl, by omega, congrArg Value.bool (by rw [fine_succ, HY.out, ← HFK.out]; (simp [fineStep]) <;> rfl), by first | (with_reducible exact HB.out) | exact HB.out.trans ((Only.drewN [] _ _).below HB.out.size (by simp))⟩, rfl⟩)
                case measure => simp only [intOf, Int.toNat_natCast]; omega
              · go_wp2_with fail
                go_quiet (fail)
                go_wp2_with fail
                go_roundw
                case rel => first | exact ⟨k + 1, rfl, by omega, congrArg Value.bool (by rw [fine_succ, HY.out, ← HFK.out]; (simp [fineStep]) <;> rfl), by first | (with_reducible exact HB.out) | exact HB.out.trans ((Only.drewN [] _ _).below HB.out.size (by simp))⟩ | ((repeat apply Exists.intro); exact ⟨⟨rfl, by omega, congrArg Value.bool (by rw [fine_succ, HY.out, ← HFK.out]; (simp [fineStep]) <;> rfl), by first | (with_reducible exact HB.out) | exact HB.out.trans ((Only.drewN [] _ _).below HB.out.size (by simp))⟩, rfl⟩)
                case measure => simp only [intOf, Int.toNat_natCast]; omega
            by_cases t4 : t = 4
            · subst t4
              go_wp2_with fail
              go_roundw
              case rel => first | exact ⟨k + 1, rfl, by omega, congrArg Value.bool (by rw [fine_succ, HY.out, ← HFK.out]; (simp [fineStep]) <;> rfl), by first | (with_reducible exact HB.out) | exact HB.out.trans ((Only.drewN [] _ _).below HB.out.size (by simp))⟩ | ((repeat apply Exists.intro); exact ⟨⟨rfl, by omega, congrArg Value.bool (by rw [fine_succ, HY.out, ← HFK.out]; (simp [fineStep]) <;> rfl), by first | (with_reducible exact HB.out) | exact HB.out.trans ((Only.drewN [] _ _).below HB.out.size (by simp))⟩, rfl⟩)
              case measure => simp only [intOf, Int.toNat_natCast]; omega
            go_wp2_with fail
            go_roundw
            case rel => first | exact ⟨k + 1, rfl, by omega, congrArg Value.bool (by rw [fine_succ, HY.out, ← HFK.out]; (simp [fineStep, t0, t1, t2, t3, t4]) <;> rfl), by first | (with_reducible exact HB.out) | exact HB.out.trans ((Only.drewN [] _ _).below HB.out.size (by simp))⟩ | ((repeat apply Exists.intro); exact ⟨⟨rfl, by omega, congrArg Value.bool (by rw [fine_succ, HY.out, ← HFK.out]; (simp [fineStep, t0, t1, t2, t3, t4]) <;> rfl), by first | (with_reducible exact HB.out) | exact HB.out.trans ((Only.drewN [] _ _).below HB.out.size (by simp))⟩, rfl⟩)
            case measure => simp only [intOf, Int.toNat_natCast]; omega
        · obtain rfl : k = len := by omega
          have HB := Lib.hid hB2
          clear hB2
          rw [FX.out]
          go_wp2_with fail
          go_roundw
          case rel => exact ⟨i + 1, rfl, by omega, HB.out⟩
          case measure => simp only [intOf, Int.toNat_natCast]; omega
    · obtain rfl : i = l.length := by omega
      clear RA hi
      go_wp2
      go_ret
      exact ⟨rfl, HB.out⟩
end Tl
end Go.Proofs.Ytcajclalpmfafaa
