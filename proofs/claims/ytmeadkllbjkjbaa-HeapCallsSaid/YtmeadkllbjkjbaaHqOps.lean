/-
  What the program's heap's New, Push, Change, Min, Key and Len answer and leave. Conditions: that a heap lies there; numbers are in their kind's range.
-/
import Derived.Test.YtmeadkllbjkjbaaHqSettle
import Derived.OwnWalk
namespace Go.Proofs.Ytmeadkllbjkjbaa
open Go.RowKit
namespace Hq
open Ph (Only)
open Wh (Srt Uni ins del has mem_ins srt_ins uni_ins srt_filter uni_filter has_iff len_ins)
open Hp (lt lt_irr lt_asym le_trans lt_total)

/-- The program's heap of items in order. -/
def HpT (w : World) (p : Nat) (F : List Nat) (l : List ItT) : Prop := F = [p] ∧ ∃ a q, Bk w p l.length a q ∧ Rl a l.length q (· ∈ l) ∧ Ordr a l.length ∧ Fine l
theorem HpT.kept {w w' : World} {p : Nat} {F : List Nat} {l : List ItT} {S : List Nat} (h : HpT w p F l) (ho : Only S w w') (hs : ∀ x ∈ F, x ∉ S) : HpT w' p F l := by
  obtain ⟨rfl, a, q, hb, hr⟩ := h
  exact ⟨rfl, a, q, hb.kept ho (hs p (by simp)), hr⟩
theorem HpT.lt {w : World} {p : Nat} {F : List Nat} {l : List ItT} (h : HpT w p F l) : ∀ x ∈ F, x < w.heap.size := by
  obtain ⟨rfl, a, q, hb, hr⟩ := h
  intro x hx
  obtain rfl : x = p := by simpa using hx
  exact hb.lt
theorem HpT.fine {w : World} {p : Nat} {F : List Nat} {l : List ItT} (h : HpT w p F l) : Fine l := by
  obtain ⟨rfl, a, q, hb, hr⟩ := h
  exact hr.2.2
def zeroZ : List Value := [.int .i64 0] ++ (List.replicate 65 [.int .i64 0, .int .u64 0]).flatten ++ List.replicate 64 (.int .i64 0)
def isI (v : Option Value) : Bool := match v with
  | some (.int .i64 z) => z == 0
  | _ => false
def isU (v : Option Value) : Bool := match v with
  | some (.int .u64 z) => z == 0
  | _ => false
theorem isI_of : ∀ {v : Option Value}, isI v = true → v = some (.int .i64 0)
  | some (.int .i64 z), h => by obtain rfl : z = 0 := by simpa [isI] using h
                                rfl
theorem isU_of : ∀ {v : Option Value}, isU v = true → v = some (.int .u64 0)
  | some (.int .u64 z), h => by obtain rfl : z = 0 := by simpa [isU] using h
                                rfl
theorem zero_at (i : Nat) (h : i < 65) : zeroZ[1 + i * 2]? = some (.int .i64 0) ∧ zeroZ[1 + i * 2 + 1]? = some (.int .u64 0) := by
  have h1 : (List.range 65).all (fun i => isI zeroZ[1 + i * 2]? && isU zeroZ[1 + i * 2 + 1]?) = true := by kernel_rfl
  have := List.all_eq_true.1 h1 i (List.mem_range.2 h)
  rw [Bool.and_eq_true] at this
  exact ⟨isI_of this.1, isU_of this.2⟩
theorem zero_pl (i : Nat) (h : i < 64) : zeroZ[131 + i]? = some (.int .i64 0) := by
  have h1 : (List.range 64).all (fun i => isI zeroZ[131 + i]?) = true := by kernel_rfl
  exact isI_of (List.all_eq_true.1 h1 i (List.mem_range.2 h))
theorem new_lies (w : World) : Bk (w.alloc (.cells zeroZ.toArray 57)) w.heap.size 0 (fun _ => (0, 0)) (fun _ => 0) := by
  have hl := Lay.new w 57 zeroZ
  refine ⟨hl.lt, (hl.cell 0).trans rfl, fun i hi => (hl.cell _).trans (zero_at i hi).1, fun i hi => (hl.cell _).trans (zero_at i hi).2, fun i hi => (hl.cell _).trans (zero_pl i hi), fun j => hl.free j⟩
def zeroC : Array Value := zeroZ.toArray
theorem zeroC_size : zeroC.size = 195 := by kernel_rfl
set_option maxRecDepth 100000 in
theorem tNew (w : World) : Calls Try.prog 8 #[] w fun e w' => ∃ p F, e = .returned (.pointer (some ⟨p, 0, none⟩)) ∧ HpT w' p F [] ∧ (∀ x ∈ F, w.heap.size ≤ x) ∧ Only [] w w' := by
  have hzv : ∀ W : World, (zeroValue 57).run Try.prog W = .ok (.agg zeroC) W := fun W => by kernel_rfl
  have hz0 : (zeroC = #[]) = False := eq_false (fun e => by have := congrArg Array.size e; rw [zeroC_size] at this; cases this)
  have hz1 := zeroC_size
  have HN := Lib.hid (new_lies w)
  have HO := Lib.hid (Only.alloc [] w (.cells zeroC 57))
  go_enter Try.func8, Try.ntmps8
  go_wp2
  go_ret
  exact ⟨w.heap.size, [w.heap.size], rfl, ⟨rfl, _, _, HN.out, Rl.nil _, fun i h1 h2 => absurd h2 (by simp; omega), Fine.nil⟩, by simp, HO.out⟩
theorem tLen (w : World) (p : Nat) (F : List Nat) (l : List ItT) (h : HpT w p F l) : Calls Try.prog 17 #[.pointer (some ⟨p, 0, none⟩)] w fun e w' => e = .returned (.int .i64 (l.length : Nat)) ∧ w = w' := by
  obtain ⟨rfl, a, q, hb, hr⟩ := h
  have c0 := hb.cn
  clear hb hr
  go_enter Try.func17, Try.ntmps17
  go_wp2
  go_ret
  exact ⟨rfl, rfl⟩
set_option maxRecDepth 100000 in
theorem tMin (w : World) (p : Nat) (F : List Nat) (l : List ItT) (h : HpT w p F l) : Calls Try.prog 20 #[.pointer (some ⟨p, 0, none⟩)] w fun e w' => e = .returned (.tuple #[.int .i64 (topI l), .int .u64 (topK l : Nat), .bool (!l.isEmpty)]) ∧ Only [] w w' := by
  obtain ⟨rfl, a, q, hb, hr, ho, hf⟩ := h
  have c0 := hb.cn
  cases l with
  | nil =>
    clear hb hr ho hf
    go_enter Try.func20, Try.ntmps20
    go_wp2
    go_ret3
    exact ⟨rfl, Only.refl _ _⟩
  | cons x r =>
    have h1 := hr.first ho hf.srt
    have hb2 := hb.quiet (Only.drewN [] w 1)
    have i0 : w.drew.cell? ⟨p, 3, none⟩ = some (.int .i64 ((a 1).1 : Nat)) := hb2.ci 1 (by omega)
    have i1 : w.drew.cell? ⟨p, 4, none⟩ = some (.int .u64 ((a 1).2 : Nat)) := hb2.ck 1 (by omega)
    rw [h1.2] at i0 i1
    rw [List.length_cons] at c0
    have c1 : w.cell? ⟨p, 0, none⟩ = some (.int .i64 ((r.length : Int) + 1)) := c0
    have hne : ((r.length : Int) + 1 == 0) = false := by simp; omega
    clear hb hr ho hf h1 hb2 c0
    go_enter Try.func20, Try.ntmps20
    go_wp2_with fail
    go_region
    go_wp2_with fail
    go_ret3
    exact ⟨rfl, Only.drewN [] w 1⟩
theorem keyP_no {d : Int} {l : List ItT} (hl : Fine l) (h : d < 0 ∨ 63 < d) : keyP d l = none := by
  unfold keyP
  split
  · have : l.find? (fun x => x.1 == d.toNat) = none := by
      rw [List.find?_eq_none]
      intro x hx
      have := hl.ids x hx
      simp; omega
    rw [this]; rfl
  · rfl
theorem has_out {d : Nat} {l : List ItT} (hl : Fine l) (h : 63 < d) : has d l = false := by
  cases e : has d l with
  | false => rfl
  | true =>
    obtain ⟨x, hx, e⟩ := has_iff.1 e
    have := hl.ids x hx
    omega
set_option maxRecDepth 100000 in
theorem tKey (w : World) (p : Nat) (F : List Nat) (l : List ItT) (d : Int) (h : HpT w p F l) : Calls Try.prog 21 #[.pointer (some ⟨p, 0, none⟩), .int .i64 d] w fun e w' => e = .returned (.tuple #[.int .u64 ((keyP d l).getD 0 : Nat), .bool (keyP d l).isSome]) ∧ Only [] w w' := by
  obtain ⟨rfl, a, q, hb, hr, ho, hf⟩ := h
  by_cases hdr : d < 0 ∨ 63 < d
  · rw [keyP_no hf hdr]
    have HP := Lib.hid (place_no w (.pointer (some ⟨p, 0, none⟩)) d hdr)
    clear hb hr ho hf hdr
    go_enter Try.func21, Try.ntmps21
    go_wp2_with (go_at_call 23; refine HP.out.mono ?_; rintro e w' ⟨rfl, rfl⟩)
    go_ret2
    exact ⟨rfl, Only.refl _ _⟩
  · obtain ⟨k, rfl⟩ : ∃ k : Nat, d = (k : Nat) := ⟨d.toNat, by omega⟩
    have hk : k < 64 := by omega
    have hkp : keyP (k : Nat) l = (l.find? (fun y => y.1 == k)).map (·.2) := by
      unfold keyP
      rw [if_pos (by omega), Int.toNat_natCast]
    rw [hkp]
    have HP := Lib.hid (place_yes w p l.length k a q hb hk)
    rcases hr.spot hf.uni k with ⟨h0, _, h2⟩ | ⟨h1, h2, h3, _, _, h6⟩
    · rw [h2]
      rw [h0] at HP
      clear hb hr ho hf hdr hk hkp h0 h2
      go_enter Try.func21, Try.ntmps21
      go_wp2_with (go_at_call 23; refine HP.out.mono ?_; rintro e w' ⟨rfl, rfl⟩)
      go_ret2
      exact ⟨rfl, Only.refl _ _⟩
    · rw [h6]
      have hl := hf.len
      have i1 := hb.ck (q k) (by omega)
      generalize q k = v at *
      have hv : ((v : Int) == 0) = false := by simp; omega
      have hv65 : ¬ (65 ≤ (v : Int)) := by omega
      clear hb hr ho hf hdr hk hkp h1 h2 h3 h6 hl
      go_enter Try.func21, Try.ntmps21
      go_wp2_with (go_at_call 23; refine HP.out.mono ?_; rintro e w' ⟨rfl, rfl⟩)
      go_ret2
      exact ⟨rfl, Only.refl _ _⟩
set_option maxRecDepth 100000 in
theorem tPush (w : World) (p : Nat) (F : List Nat) (l : List ItT) (d : Int) (k : Nat) (h : HpT w p F l) (hk : k < 18446744073709551616) : Calls Try.prog 9 #[.pointer (some ⟨p, 0, none⟩), .int .i64 d, .int .u64 (k : Nat)] w fun e w' => e = .returned (.int .i64 (pshE d l)) ∧ Grown F w w' fun F' => HpT w' p F' (pshL d k l) := by
  have h0 := h
  obtain ⟨rfl, a, q, hb, hr, ho, hf⟩ := h
  by_cases hdr : d < 0 ∨ 63 < d
  · have he : pshE d l = 11 := by unfold pshE; rw [if_pos hdr]
    have hl : pshL d k l = l := by unfold pshL; rw [he]; rfl
    rw [he, hl]
    have HN := Lib.hid (isNumber_no d w hdr)
    have HH := Lib.hid h0
    clear hb hr ho hf hdr hk he hl h0
    go_enter Try.func9, Try.ntmps9
    go_wp2_with (go_at_call 22; refine HN.out.mono ?_; rintro e w' ⟨rfl, rfl⟩)
    go_ret
    exact ⟨rfl, [p], HH.out, Only.refl _ _, fun x hx => Or.inl hx⟩
  · obtain ⟨i, rfl⟩ : ∃ i : Nat, d = (i : Nat) := ⟨d.toNat, by omega⟩
    have hi : i < 64 := by omega
    have HN := Lib.hid (isNumber_yes i w hi)
    have HP := Lib.hid (place_yes w p l.length i a q hb hi)
    have he0 : pshE (i : Nat) l = if has i l = true then 13 else 0 := by unfold pshE; rw [if_neg hdr, Int.toNat_natCast]
    rcases hr.spot hf.uni i with ⟨q0, n1, _⟩ | ⟨q1, _, _, n1, _, _⟩
    · have he : pshE (i : Nat) l = 0 := by rw [he0, n1]; rfl
      have hl : pshL (i : Nat) k l = ins (i, k) l := by unfold pshL; rw [if_pos he, Int.toNat_natCast]
      have hf2 := hf.push (i : Nat) hk
      rw [hl] at hf2
      have hlen : l.length + 1 ≤ 64 := by have := hf2.len; rwa [len_ins] at this
      rw [he, hl]
      rw [q0] at HP
      have hno : ∀ y, y ∈ l → y.1 ≠ (i, k).1 := fun y hy e => by
        have := has_iff.2 ⟨y, hy, e⟩
        rw [n1] at this; cases this
      have HR := Lib.hid (And.intro (hr.push (i, k) hno) (And.intro (ho.push (i, k)) (And.intro hf2 (show ∀ x, (x = (i, k) ∨ x ∈ l) → x.1 < 64 from fun x hx => by
        rcases hx with rfl | hx
        · exact hi
        · have := hf.ids x hx; omega))))
      have HB := Lib.hid ((hb.setN (l.length + 1)))
      have c0 := hb.cn
      have f0 := hb.fz 0
      have hpl := hb.lt
      generalize hnn : l.length = n at *
      have HNN := Lib.hid hnn
      have e1 : (n : Int) + 1 = ((n + 1 : Nat) : Int) := by omega
      generalize hmm : n + 1 = m at *
      clear hb hr ho hf hdr he he0 hl q0 n1 h0 hno hf2 hnn
      go_enter Try.func9, Try.ntmps9
      go_wp2_with (first
        | (go_at_call 22; refine HN.out.mono ?_; rintro e w' ⟨rfl, rfl⟩)
        | (go_at_call 23; refine HP.out.mono ?_; rintro e w' ⟨rfl, rfl⟩)
        | (go_at_call 24; refine (settle_any _ p m m a q (i, k) _ HB.out hlen (by omega) (Nat.le_refl m) HR.out.1 HR.out.2.1 HR.out.2.2.2).mono ?_; rintro e w' ⟨rfl, a', q', b1, r1, o1, ol⟩; have HE := Lib.hid (And.intro b1 (And.intro r1 (And.intro o1 ((Only.setCell w (S := [p]) (b := p) (by simp) 0 (.int .i64 (m : Nat))).trans ol)))); clear b1 r1 o1 ol))
      go_ret
      have hln : (ins (i, k) l).length = m := by rw [len_ins, HNN.out, hmm]
      refine ⟨rfl, [p], ⟨rfl, a', q', ?_, ?_, ?_, HR.out.2.2.1⟩, HE.out.2.2.2, fun x hx => Or.inl hx⟩
      · rw [hln]; exact HE.out.1
      · rw [hln]; exact HE.out.2.1.congr (fun x => mem_ins.symm)
      · rw [hln]; exact HE.out.2.2.1
    · have he : pshE (i : Nat) l = 13 := by rw [he0, n1]; rfl
      have hl : pshL (i : Nat) k l = l := by unfold pshL; rw [he]; rfl
      rw [he, hl]
      have HH := Lib.hid h0
      generalize q i = v at *
      have hv : (0 : Int) < (v : Int) := by omega
      clear hb hr ho hf hdr hk he he0 hl h0 q1 n1
      go_enter Try.func9, Try.ntmps9
      go_wp2_with (first
        | (go_at_call 22; refine HN.out.mono ?_; rintro e w' ⟨rfl, rfl⟩)
        | (go_at_call 23; refine HP.out.mono ?_; rintro e w' ⟨rfl, rfl⟩))
      go_ret
      exact ⟨rfl, [p], HH.out, Only.refl _ _, fun x hx => Or.inl hx⟩
end Hq
end Go.Proofs.Ytmeadkllbjkjbaa
