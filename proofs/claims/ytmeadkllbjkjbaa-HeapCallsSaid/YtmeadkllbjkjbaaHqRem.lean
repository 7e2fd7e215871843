/-
  What the program's heap's Change, Remove and Pop answer and leave. Conditions: that a heap lies there; numbers are in their kind's range.
-/
import Derived.Test.YtmeadkllbjkjbaaHqOps
namespace Go.Proofs.Ytmeadkllbjkjbaa
open Go.RowKit
namespace Hq
open Ph (Only)
open Wh (Srt Uni ins del has mem_ins srt_ins uni_ins srt_filter uni_filter has_iff len_ins)
open Hp (lt lt_irr lt_asym le_trans lt_total)

set_option maxRecDepth 100000 in
theorem tChange (w : World) (p : Nat) (F : List Nat) (l : List ItT) (d : Int) (k : Nat) (h : HpT w p F l) (hk : k < 18446744073709551616) : Calls Try.prog 14 #[.pointer (some ⟨p, 0, none⟩), .int .i64 d, .int .u64 (k : Nat)] w fun e w' => e = .returned (.int .i64 (chE d l)) ∧ Grown F w w' fun F' => HpT w' p F' (chL d k l) := by
  have h0 := h
  obtain ⟨rfl, a, q, hb, hr, ho, hf⟩ := h
  by_cases hdr : d < 0 ∨ 63 < d
  · have he : chE d l = 11 := by unfold chE; rw [if_pos hdr]
    have hl : chL d k l = l := by unfold chL; rw [he]; rfl
    rw [he, hl]
    have HN := Lib.hid (isNumber_no d w hdr)
    have HH := Lib.hid h0
    clear hb hr ho hf hdr hk he hl h0
    go_enter Try.func14, Try.ntmps14
    go_wp2_with (go_at_call 22; refine HN.out.mono ?_; rintro e w' ⟨rfl, rfl⟩)
    go_ret
    exact ⟨rfl, [p], HH.out, Only.refl _ _, fun x hx => Or.inl hx⟩
  · obtain ⟨i, rfl⟩ : ∃ i : Nat, d = (i : Nat) := ⟨d.toNat, by omega⟩
    have hi : i < 64 := by omega
    have HN := Lib.hid (isNumber_yes i w hi)
    have HP := Lib.hid (place_yes w p l.length i a q hb hi)
    have he0 : chE (i : Nat) l = if has i l = true then 0 else 12 := by unfold chE; rw [if_neg hdr, Int.toNat_natCast]
    rcases hr.spot hf.uni i with ⟨q0, n1, _⟩ | ⟨q1, q2, q3, n1, _, _⟩
    · have he : chE (i : Nat) l = 12 := by rw [he0, n1]; rfl
      have hl : chL (i : Nat) k l = l := by unfold chL; rw [he]; rfl
      rw [he, hl]
      rw [q0] at HP
      have HH := Lib.hid h0
      clear hb hr ho hf hdr hk he he0 hl h0 q0 n1
      go_enter Try.func14, Try.ntmps14
      go_wp2_with (first
        | (go_at_call 22; refine HN.out.mono ?_; rintro e w' ⟨rfl, rfl⟩)
        | (go_at_call 23; refine HP.out.mono ?_; rintro e w' ⟨rfl, rfl⟩))
      go_ret
      exact ⟨rfl, [p], HH.out, Only.refl _ _, fun x hx => Or.inl hx⟩
    · have he : chE (i : Nat) l = 0 := by rw [he0, n1]; rfl
      have hl : chL (i : Nat) k l = ins (i, k) (del i l) := by unfold chL; rw [if_pos he, Int.toNat_natCast]
      have hf2 := hf.change (i : Nat) hk
      rw [hl] at hf2
      have hlen := hf.len
      rw [he, hl]
      have HR := Lib.hid (And.intro (hr.turn (i, k) q1 q2 q3.symm) (And.intro (ho.x (q i) (i, k)) (And.intro hf2 (show ∀ x, (x = (i, k) ∨ (x ∈ l ∧ x.1 ≠ i)) → x.1 < 64 from fun x hx => by
        rcases hx with rfl | hx
        · exact hi
        · have := hf.ids x hx.1; omega))))
      have HB := Lib.hid hb
      generalize hnn : l.length = n at *
      generalize hvv : q i = v at *
      have HQ := Lib.hid (And.intro q1 q2)
      have hv : ((v : Int) == 0) = false := by simp; omega
      clear hb hr ho hf hdr hk he he0 hl n1 h0 hf2 hnn q1 q2 q3 hvv
      go_enter Try.func14, Try.ntmps14
      go_wp2_with (first
        | (go_at_call 22; refine HN.out.mono ?_; rintro e w' ⟨rfl, rfl⟩)
        | (go_at_call 23; refine HP.out.mono ?_; rintro e w' ⟨rfl, rfl⟩)
        | (go_at_call 24; refine (settle_any _ p n v a q (i, k) _ HB.out hlen HQ.out.1 HQ.out.2 HR.out.1 HR.out.2.1 HR.out.2.2.2).mono ?_; rintro e w' ⟨rfl, a', q', b1, r1, o1, ol⟩; have HE := Lib.hid (And.intro b1 (And.intro r1 (And.intro o1 ol))); clear b1 r1 o1 ol))
      go_ret
      have hr2 := HE.out.2.1.congr (C' := (· ∈ ins (i, k) (del i l))) (fun x => by rw [mem_ins, mem_del])
      have hln := hr2.len HR.out.2.2.1.uni
      refine ⟨rfl, [p], ⟨rfl, a', q', ?_, ?_, ?_, HR.out.2.2.1⟩, HE.out.2.2.2, fun x hx => Or.inl hx⟩
      · rw [← hln]; exact HE.out.1
      · rw [← hln]; exact hr2
      · rw [← hln]; exact HE.out.2.2.1
set_option maxRecDepth 100000 in
theorem tRemove (w : World) (p : Nat) (F : List Nat) (l : List ItT) (d : Int) (h : HpT w p F l) : Calls Try.prog 13 #[.pointer (some ⟨p, 0, none⟩), .int .i64 d] w fun e w' => e = .returned (.bool (rmB d l)) ∧ Grown F w w' fun F' => HpT w' p F' (rmL d l) := by
  have h0 := h
  obtain ⟨rfl, a, q, hb, hr, ho, hf⟩ := h
  have hno : (d < 0 ∨ 63 < d) → rmB d l = false := fun h => by
    unfold rmB
    rcases h with h | h
    · rw [decide_eq_false (by omega)]; rfl
    · rw [has_out hf (by omega), Bool.and_false]
  by_cases hdr : d < 0 ∨ 63 < d
  · have he := hno hdr
    have hl : rmL d l = l := by unfold rmL; rw [he]; rfl
    rw [he, hl]
    have HP := Lib.hid (place_no w (.pointer (some ⟨p, 0, none⟩)) d hdr)
    have HH := Lib.hid h0
    clear hb hr ho hf hdr he hl h0 hno
    go_enter Try.func13, Try.ntmps13
    go_wp2_with (go_at_call 23; refine HP.out.mono ?_; rintro e w' ⟨rfl, rfl⟩)
    go_ret
    exact ⟨rfl, [p], HH.out, Only.refl _ _, fun x hx => Or.inl hx⟩
  · clear hno
    obtain ⟨i, rfl⟩ : ∃ i : Nat, d = (i : Nat) := ⟨d.toNat, by omega⟩
    have hi : i < 64 := by omega
    have HP := Lib.hid (place_yes w p l.length i a q hb hi)
    have he0 : rmB (i : Nat) l = has i l := by unfold rmB; rw [decide_eq_true (by omega), Int.toNat_natCast]; rfl
    rcases hr.spot hf.uni i with ⟨q0, n1, _⟩ | ⟨q1, q2, q3, n1, _, _⟩
    · have he : rmB (i : Nat) l = false := by rw [he0, n1]
      have hl : rmL (i : Nat) l = l := by unfold rmL; rw [he]; rfl
      rw [he, hl]
      rw [q0] at HP
      have HH := Lib.hid h0
      clear hb hr ho hf hdr he he0 hl h0 q0 n1
      go_enter Try.func13, Try.ntmps13
      go_wp2_with (go_at_call 23; refine HP.out.mono ?_; rintro e w' ⟨rfl, rfl⟩)
      go_ret
      exact ⟨rfl, [p], HH.out, Only.refl _ _, fun x hx => Or.inl hx⟩
    · have he : rmB (i : Nat) l = true := by rw [he0, n1]
      have hl : rmL (i : Nat) l = del i l := by unfold rmL; rw [he, Int.toNat_natCast]; rfl
      have hf2 := hf.remove (i : Nat)
      rw [hl] at hf2
      have hlen := hf.len
      rw [he, hl]
      have HF := Lib.hid (And.intro hf hf2)
      have HB := Lib.hid hb
      generalize hnn : l.length = n at *
      obtain ⟨m, rfl⟩ : ∃ m, n = m + 1 := ⟨n - 1, by omega⟩
      generalize hvv : q i = v at *
      have HR := Lib.hid (And.intro hr (And.intro ho (And.intro q1 (And.intro q2 (And.intro q3 hvv)))))
      have hv : ((v : Int) == 0) = false := by simp; omega
      have c0 : w.cell? ⟨p, 0, none⟩ = some (.int .i64 ((m : Int) + 1)) := hb.cn
      have hm65 : ¬ (65 ≤ (m : Int) + 1) := by omega
      have hpl := hb.lt
      have i0 := hb.ci (m + 1) (by omega)
      have i1 := hb.ck (m + 1) (by omega)
      clear hb hr ho hf hdr he he0 hl n1 h0 hf2 hnn q1 q2 q3 hvv
      go_enter Try.func13, Try.ntmps13
      go_wp2_with (first
        | (go_at_call 23; refine HP.out.mono ?_; rintro e w' ⟨rfl, rfl⟩))
      go_region
      have hB := (Lay.new w 53 [.int .i64 ((a (m + 1)).1 : Nat), .int .u64 ((a (m + 1)).2 : Nat)]).kept (Only.drewN [] _ 1) (by simp)
      have oB := (Only.alloc [] w (.cells #[.int .i64 ((a (m + 1)).1 : Nat), .int .u64 ((a (m + 1)).2 : Nat)] 53)).trans (Only.drewN [] _ 1)
      have hb1 := HB.out.quiet oB
      change Lay (w.alloc (.cells #[.int .i64 ((a (m + 1)).1 : Nat), .int .u64 ((a (m + 1)).2 : Nat)] 53)).drew _ _ _ at hB
      change Bk (w.alloc (.cells #[.int .i64 ((a (m + 1)).1 : Nat), .int .u64 ((a (m + 1)).2 : Nat)] 53)).drew _ _ _ _ at hb1
      change Only [] w (w.alloc (.cells #[.int .i64 ((a (m + 1)).1 : Nat), .int .u64 ((a (m + 1)).2 : Nat)] 53)).drew at oB
      have hLp : w.heap.size ∉ [p] := by simp; omega
      clear c0 i0 i1 hpl
      generalize (w.alloc (.cells #[.int .i64 ((a (m + 1)).1 : Nat), .int .u64 ((a (m + 1)).2 : Nat)] 53)).drew = w1 at *
      have c0 : w1.cell? ⟨p, 0, none⟩ = some (.int .i64 ((m : Int) + 1)) := hb1.cn
      have f0 := hb1.fz 0
      have hb2 := hb1.setN m
      have o2 := Only.setCell w1 (S := [p]) (b := p) (by simp) 0 (.int .i64 (m : Nat))
      have c2 := hb2.cp i hi
      have f2 := hb2.fz (131 + i)
      have hb3 := hb2.setP hi 0
      have o3 := o2.trans (Only.setCell _ (S := [p]) (b := p) (by simp) (131 + i) (.int .i64 (0 : Nat)))
      have hB2 := hB.kept o2 hLp
      have d0 := hB2.cell 0
      have d1 := hB2.cell 1
      simp only [List.getElem?_cons_zero, List.getElem?_cons_succ] at d0 d1
      have hb3 : Bk ((w1.setCell ⟨p, 0, none⟩ (.int .i64 (m : Nat))).setCell ⟨p, 131 + i, none⟩ (.int .i64 0)) p m a (updF q i 0) := hb3
      have o3 : Only [p] w1 ((w1.setCell ⟨p, 0, none⟩ (.int .i64 (m : Nat))).setCell ⟨p, 131 + i, none⟩ (.int .i64 0)) := o3
      have hi64 : ¬ (64 ≤ (i : Int)) := by omega
      have H3 := Lib.hid (And.intro hb3 ((oB.mono (S' := [p]) (by simp)).trans o3))
      clear hB oB hb1 hb2 hb3 o2 o3 hB2
      by_cases hx : (a (m + 1)).1 = i
      · have hxx : (((a (m + 1)).1 : Int) == (i : Int)) = true := by simp [hx]
        have hxn : (((a (m + 1)).1 : Int) != (i : Int)) = false := by simp [hx]
        have HX := Lib.hid hx
        clear hx
        have hrr := HR.out.1.cut
        have hvm : v = m + 1 := HR.out.1.inj v (m + 1) HR.out.2.2.1 HR.out.2.2.2.1 (by omega) (Nat.le_refl _) (by rw [HR.out.2.2.2.2.1, HX.out])
        rw [HX.out] at hrr
        have hr2 := hrr.congr (C' := (· ∈ del i l)) (fun x => mem_del.symm)
        have HE := Lib.hid (And.intro hr2 (HR.out.2.1.less (Nat.le_succ m)))
        clear hrr hvm hr2
        go_wp2_with fail
        go_ret
        have hln := HE.out.1.len HF.out.2.uni
        refine ⟨rfl, [p], ⟨rfl, a, updF q i 0, ?_, ?_, ?_, HF.out.2⟩, H3.out.2, fun x hx => Or.inl hx⟩
        · rw [← hln]; exact H3.out.1
        · rw [← hln]; exact HE.out.1
        · rw [← hln]; exact HE.out.2
      · have hxx : (((a (m + 1)).1 : Int) == (i : Int)) = false := by simp; omega
        have hxn : (((a (m + 1)).1 : Int) != (i : Int)) = true := by simp; omega
        have HX := Lib.hid hx
        have hvm : v ≤ m := by
          have h1 := HR.out.2.2.2.1
          have h2 : v ≠ m + 1 := fun e => hx (by rw [← e]; exact HR.out.2.2.2.2.1)
          omega
        have hrr := HR.out.1.fill HR.out.2.2.1 hvm
        rw [HR.out.2.2.2.2.1] at hrr
        have HE := Lib.hid (And.intro hrr (And.intro ((HR.out.2.1.less (Nat.le_succ m)).x v (a (m + 1))) (And.intro hvm (show ∀ x, (x ∈ l ∧ x.1 ≠ i) → x.1 < 64 from fun x hx => by have := HF.out.1.ids x hx.1; omega))))
        clear hx hrr hvm
        go_wp2_with (go_at_call 24; refine (settle_any _ p m v a (updF q i 0) (a (m + 1)) _ H3.out.1 (by omega) HR.out.2.2.1 HE.out.2.2.1 HE.out.1 HE.out.2.1 HE.out.2.2.2).mono ?_; rintro e w' ⟨rfl, a', q', b1, r1, o1, ol⟩; have HG := Lib.hid (And.intro b1 (And.intro r1 (And.intro o1 (H3.out.2.trans ol)))); clear b1 r1 o1 ol)
        go_ret
        have hr2 := HG.out.2.1.congr (C' := (· ∈ del i l)) (fun x => mem_del.symm)
        have hln := hr2.len HF.out.2.uni
        refine ⟨rfl, [p], ⟨rfl, a', q', ?_, ?_, ?_, HF.out.2⟩, HG.out.2.2.2, fun x hx => Or.inl hx⟩
        · rw [← hln]; exact HG.out.1
        · rw [← hln]; exact hr2
        · rw [← hln]; exact HG.out.2.2.1
theorem tPop (w : World) (p : Nat) (F : List Nat) (l : List ItT) (h : HpT w p F l) : Calls Try.prog 11 #[.pointer (some ⟨p, 0, none⟩)] w fun e w' => e = .returned (.tuple #[.int .i64 (topI l), .int .u64 (topK l : Nat), .bool (!l.isEmpty)]) ∧ Grown F w w' fun F' => HpT w' p F' l.tail := by
  have hf := h.fine
  have e1 : rmL (topI l) l = l.tail := by
    cases l with
    | nil => rfl
    | cons x r =>
      have hu := List.pairwise_cons.1 hf.uni
      have hb : rmB (topI (x :: r)) (x :: r) = true := by
        unfold rmB topI
        simp only
        rw [decide_eq_true (by omega), Int.toNat_natCast, Bool.true_and]
        exact has_iff.2 ⟨x, by simp, rfl⟩
      unfold rmL
      rw [hb, if_pos rfl]
      show del (((x.1 : Nat) : Int)).toNat (x :: r) = r
      rw [Int.toNat_natCast]
      unfold del
      rw [List.filter_cons_of_neg (by simp), List.filter_eq_self.2 (fun y hy => by have := hu.1 y hy; simp; exact fun e => this e.symm)]
  have HM := Lib.hid (tMin w p F l h)
  have HR := Lib.hid (fun W (ho : Only [] w W) => tRemove W p F l (topI l) (h.kept ho (by simp)))
  rw [e1] at HR
  generalize topI l = t at *
  generalize topK l = k at *
  generalize l.isEmpty = b at *
  clear h hf e1
  go_enter Try.func11, Try.ntmps11
  go_wp2_with (first
    | (go_at_call 20; refine HM.out.mono ?_; rintro e w1 ⟨rfl, ho⟩; have HO := Lib.hid ho; clear ho)
    | (go_at_call 13; refine (HR.out _ HO.out).mono ?_; rintro e w2 ⟨rfl, hg⟩; have HG := Lib.hid hg; clear hg))
  go_ret3
  obtain ⟨F', h1, h2, h3⟩ := HG.out
  exact ⟨rfl, F', h1, (HO.out.mono (by simp)).trans h2, fun x hx => (h3 x hx).elim Or.inl (fun e => Or.inr (Nat.le_trans HO.out.size e))⟩
end Hq
end Go.Proofs.Ytmeadkllbjkjbaa
