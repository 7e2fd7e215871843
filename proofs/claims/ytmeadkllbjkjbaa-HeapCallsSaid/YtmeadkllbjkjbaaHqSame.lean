/-
  A heap and the document's own in a law's world; what a law's 'same' answers of them. Conditions: that both tell the same.
-/
import Derived.Test.YtmeadkllbjkjbaaHqRef6
import Derived.Test.YtmeadkllbjkjbaaHqAlive
namespace Go.Proofs.Ytmeadkllbjkjbaa
open Go.RowKit
namespace Hq
open Ph (Only)
open Wh (Srt Uni ins del has mem_ins has_iff len_ins)
/-- A heap and the document's own lie apart, and tell the same. -/
structure Pr (K : Hk) (B : Nat) (w0 : World) (p : Nat) (F : List Nat) (l : List ItT) (r : Nat) (H : List Nat) (m : List ItT) (w : World) : Prop where
  a : On K B w0 p F l w
  b : RW w r H m
  ap : ∀ x ∈ F, x ∉ H
  low : ∀ x ∈ H, B ≤ x
section
variable {K : Hk} {B : Nat} {w0 w w' : World} {p : Nat} {F : List Nat} {l : List ItT} {r : Nat} {H : List Nat} {m : List ItT}
theorem Pr.quiet (h : Pr K B w0 p F l r H m w) (ho : Only [] w w') (hB : B ≤ w0.heap.size) : Pr K B w0 p F l r H m w' := ⟨h.a.quiet ho hB, h.b.kept ho (by simp), h.ap, h.low⟩
theorem Pr.stepA {l' : List ItT} (h : Pr K B w0 p F l r H m w) (hg : Grown F w w' fun F' => K.Hp w' p F' l') (hB : B ≤ w0.heap.size) : ∃ F', Pr K B w0 p F' l' r H m w' ∧ Only F w w' := by
  obtain ⟨F', h1, ho, hf⟩ := h.a.grown hg hB
  refine ⟨F', ⟨h1, h.b.kept ho (fun x hx hn => h.ap x hn hx), fun x hx hn => ?_, h.low⟩, ho⟩
  rcases hf x hx with e | e
  · exact h.ap x e hn
  · have := h.b.lt x hn; omega
theorem Pr.stepB {H' : List Nat} {m' : List ItT} (h : Pr K B w0 p F l r H m w) (hw : RW w' r H' m') (ho : Only H w w') (hf : ∀ x ∈ H', x ∈ H ∨ w.heap.size ≤ x) (hB : B ≤ w0.heap.size) : Pr K B w0 p F l r H' m' w' := by
  have hb := h.a.size hB
  refine ⟨⟨K.kept h.a.hp ho (fun x hx => h.ap x hx), h.a.low, h.a.below.trans (ho.below hb h.low)⟩, hw, fun x hx hn => ?_, fun x hx => (hf x hx).elim (h.low x) (fun g => Nat.le_trans hb g)⟩
  rcases hf x hn with h1 | h1
  · exact h.ap x hx h1
  · have := K.lt h.a.hp x hx; omega
end
theorem keyP_ix {d : Int} : ∀ {l : List ItT} {i k : Nat}, ixN d i l = (k : Int) → ∃ x, l[k - i]? = some x ∧ i ≤ k ∧ 0 ≤ d ∧ (l.find? (fun y => y.1 == d.toNat)).map (·.2) = some x.2
  | [], i, k, h => by unfold ixN at h; omega
  | y :: r, i, k, h => by
    unfold ixN at h
    by_cases hy : ((y.1 : Nat) : Int) = d
    · rw [if_pos hy] at h
      obtain rfl : i = k := by omega
      refine ⟨y, by simp, Nat.le_refl _, by omega, ?_⟩
      rw [List.find?_cons_of_pos (by simp; omega)]
      rfl
    · rw [if_neg hy] at h
      obtain ⟨x, h1, h2, h3, h4⟩ := keyP_ix h
      refine ⟨x, ?_, by omega, h3, ?_⟩
      · rw [show k - i = (k - (i + 1)) + 1 by omega, List.getElem?_cons_succ]; exact h1
      · rw [List.find?_cons_of_neg (by simp; omega)]; exact h4
theorem keyP_some {d : Int} {l : List ItT} {k : Nat} (h : ixN d 0 l = (k : Int)) : ∃ x, l[k]? = some x ∧ keyP d l = some x.2 := by
  obtain ⟨x, h1, _, h3, h4⟩ := keyP_ix h
  exact ⟨x, by simpa using h1, by unfold keyP; rw [if_pos h3]; exact h4⟩
theorem keyP_none {d : Int} {l : List ItT} (h : ixN d 0 l = -1) : keyP d l = none := by
  have hn := ixN_none h
  unfold keyP
  split
  · rename_i h0
    rw [List.find?_eq_none.2 (fun x hx => by have := hn x hx; simp; omega)]
    rfl
  · rfl
theorem infoI : (Try.prog.info? 3).map (fun i => (i.zero, i.size, i.bytes)) = some (some (.int .i64 0), 1, 8) := by kernel_rfl
def ints (l : List Nat) : List Value := l.map fun (x : Nat) => .int .i64 (x : Int)
theorem ints_snoc (l : List Nat) (x : Nat) : ints (l ++ [x]) = ints l ++ [.int .i64 (x : Int)] := by simp [ints]
theorem ids_snoc {l : List ItT} {i : Nat} {x : ItT} (h : l[i]? = some x) : ints ((l.take (i + 1)).map (·.1)) = ints ((l.take i).map (·.1)) ++ [.int .i64 (x.1 : Nat)] := by
  rw [List.take_add_one, h]
  simp [ints]
theorem row_seen {w : World} {base n : Nat} {v : Value} {L : List Nat} (h : w.ownsRow base 3 1 v n (ints L)) (hn : L.length = n) : Seen base w v L := by
  subst hn
  have hlt := h.lt
  rcases h.2 with ⟨rfl, h0⟩ | ⟨g, cap, cur, rfl, hrest⟩
  · have : L = [] := by
      cases L with
      | nil => rfl
      | cons x r => simp at h0
    subst this
    exact ⟨_, _, rfl, fun _ => rfl, fun h => by simp at h⟩
  · refine ⟨_, _, rfl, (fun h => absurd h (by simp)), fun _ => ⟨g, 0, rfl, (hlt g rfl).1, (hlt g rfl).2, fun i x hx => ?_⟩⟩
    have := h.cells (g := g) rfl i (.int .i64 (x : Int)) (by unfold ints; rw [List.getElem?_map, hx]; rfl)
    rw [add_eq] at this
    exact this
set_option maxRecDepth 100000 in
/-- One number is appended to a row. -/
theorem step_one {ops : Array Oper} {rest : List Oper} {o : Oper} {a : Act} {Q : Exit → Act → World → Prop} (hgd : o.guard = none) (s x : Operand)
    (ho : o.op = .call { callee := .builtin .append, args := #[s, x], argTypes := #[47, 47] }) (B : Nat) (v : Value) (k : Nat) (cs : List Value) (z : Int) (W : World)
    (hv : W.ownsRow B 3 1 v k cs) (hB : B ≤ W.heap.size) (hn : k ≤ 1024)
    (hs : a.eval s = v) (hx : a.eval x = .slice (some ⟨W.heap.size, 0, none⟩) 1 1)
    (h : ∀ v' W', W'.ownsRow B 3 1 v' (k + 1) (cs ++ [.int .i64 z]) → Below B W W' → wpList Try.prog ops Q rest (a.put o.dst v') W') :
    wpList Try.prog ops Q (o :: rest) a (W.alloc (.cells #[.int .i64 z] 3)) := by
  obtain ⟨i0, hi, hz0, hz1, hz2⟩ := info_parts infoI
  refine wpList_append_own _ hgd s x 47 ho B 3 i0 (.int .i64 0) 1 8 Try.underlying47 hi hz0 hz1 hz2 rfl (by decide) v k cs hs (hv.alloc _) ⟨W.heap.size, 0, none⟩ 1 1 [.int .i64 z] hx rfl
    (World.news_of_block (cs := #[.int .i64 z]) (t := 3) (fr := (0, 0)) (heap_alloc_new W _)) (by simp [Value.oneCell']) (by unfold maxLen; omega) (by omega) (by simp; omega) ?_
  intro v' W' hown hgrow _
  refine h v' W' ?_ ?_
  · exact hown
  · exact ((Below.refl B W).alloc hB _).grown hgrow (by simp; omega) (fun k hk => (hv.lt k hk).1)
set_option maxRecDepth 100000 in
set_option maxHeartbeats 8000000 in
theorem told_any (K : Hk) (p : Nat) (F : List Nat) (l : List ItT) (r : Nat) (H : List Nat) (q : Int) (w : World) (hh : K.Hp w p F l) (hR : RW w r H l) (hq : W64 q) :
    Calls Try.prog 16 #[.pointer (some ⟨p, 0, none⟩), .pointer (some ⟨r, 0, none⟩), .int .i64 q] w fun e w' => e = .returned (.bool true) ∧ Only [] w w' := by
  have HH := Lib.hid hh
  have HR := Lib.hid hR
  have hl := (K.fine hh).len
  have hlt := hR.lt r hR.mem
  obtain ⟨v, hv, hrow, _⟩ := hR.row
  obtain ⟨av, cap, rfl⟩ := own_form hrow
  have HS := Lib.hid (own_seen hrow)
  have HV := Lib.hid hv
  have hown0 := World.ownsRow_lit (base := w.heap.size) (e := 3) (size := 1) w #[] 0 (Nat.le_refl _) (by unfold maxLen; omega) (by simp)
  have OW0 := Lib.hid hown0
  have B0 := Lib.hid ((Below.refl w.heap.size w).alloc (Nat.le_refl _) (.cells #[] 3))
  have ov0 := ((Only.alloc [] w (.cells #[] 3)).cell hlt (by simp) 0).trans hv
  clear hh hR hrow hv hown0
  go_enter Try.func16, Try.ntmps16
  go_wp2_with fail
  go_loopw [7, 8] (fun v c wr => ∃ (i : Nat) (a : Option Addr) (c' : Nat), v = .slice a i c' ∧ c = .int .i64 i ∧ i ≤ l.length ∧ Hid (wr.ownsRow w.heap.size 3 1 (.slice a i c') i (ints ((l.take i).map (·.1)))) ∧ Hid (Below w.heap.size w wr)) (fun _ c _ => l.length - (intOf c).toNat)
  case atStart => exact ⟨0, _, _, rfl, rfl, Nat.zero_le _, OW0, B0⟩
  case round =>
    obtain ⟨i, a, c', rfl, rfl, hi, OW, BW⟩ := hrel
    clear OW0 B0 ov0
    have hvr := ((Only.of BW.out []).cell hlt (by simp) 0).trans HV.out
    by_cases hil : i < l.length
    · obtain ⟨x, hx⟩ : ∃ x, l[i]? = some x := ⟨l[i], List.getElem?_eq_getElem hil⟩
      obtain ⟨b, off, rfl, hb, -, -, x0, -⟩ := HS.out.at hx
      have x0 := ((Only.of BW.out []).cell hb (by simp) _).trans x0
      have hsn := Lib.hid (ids_snoc hx)
      have hz : w.heap.size ≤ wr.heap.size := BW.out.size
      have hi0 : (0 : Int) ≤ (i : Int) := by omega
      have hiI : (i : Int) < (l.length : Int) := by omega
      obtain ⟨xd, xt⟩ := x
      simp only at x0
      clear hx
      go_wp2_with (at_builtin; refine step_one rfl (.tmp 25) (.tmp 34) rfl w.heap.size _ i (ints ((l.take i).map (·.1))) (xd : Nat) wr OW.out hz (by omega) rfl rfl ?_; intro v' w3 hown hb; obtain ⟨a3, c3, rfl⟩ := own_form hown; have OW3 := Lib.hid hown; have BW3 := Lib.hid hb; clear hown hb)
      go_roundw
      case rel =>
        have hs := hsn.out
        simp only at hs
        have h3 := OW3.out
        rw [← hs] at h3
        exact ⟨i + 1, a3, c3, rfl, by push_cast; rfl, by omega, Lib.hid h3, Lib.hid (BW.out.trans BW3.out)⟩
      case measure => simp only [intOf]; omega
    · obtain rfl : i = l.length := by omega
      obtain ⟨L, hL⟩ : ∃ L, l.map (·.1) = L := ⟨_, rfl⟩
      have hLl : L.length = l.length := by rw [← hL, List.length_map]
      have hS0 := OW.out
      rw [List.take_length, hL] at hS0
      have SA := Lib.hid (row_seen hS0 hLl)
      have HL := Lib.hid hL
      have HLl := Lib.hid hLl
      clear hS0 hL hLl OW hil hi
      rcases htop : (topI l, topK l) with ⟨ti, tk⟩
      have ht1 : topI l = ti := congrArg Prod.fst htop
      have ht2 : topK l = tk := congrArg Prod.snd htop
      clear htop
      cases hem : l.isEmpty with
      | true =>
        have hl0 : l = [] := by simpa using hem
        have hix : ixN q 0 l = -1 := by rw [hl0]; rfl
        have hat := keyP_none hix
        have hlz : l.length ≤ 0 := by rw [hl0]; exact Nat.le_refl _
        obtain rfl : ti = -1 := by rw [← ht1, hl0]; rfl
        obtain rfl : tk = 0 := by rw [← ht2, hl0]; rfl
        clear hl0
        have CM := K.min wr p F l (K.kept HH.out (Only.of BW.out []) (by simp))
        rw [ht1, ht2, hem] at CM
        clear ht1 ht2 hem
        go_wp2_with fail
        refine CM.mono ?_
        rintro e w5 ⟨he, hO⟩
        replace he : e = .returned (.tuple #[.int .i64 (-1), .int .u64 0, .bool false]) := he
        subst he
        have B5 := Lib.hid (BW.out.trans (hO.below BW.out.size (by simp)))
        have SA5 := Lib.hid (SA.out.kept hO (by simp))
        clear hO CM BW SA hvr
        have CT := K.key w5 p F l q (K.kept HH.out (Only.of B5.out []) (by simp)) hq
        rw [hat] at CT
        clear hat
        go_wp2_with fail
        refine CT.mono ?_
        rintro e w6 ⟨he, hO⟩
        replace he : e = .returned (.tuple #[.int .u64 0, .bool false]) := he
        subst he
        have B6 := Lib.hid (B5.out.trans (hO.below B5.out.size (by simp)))
        have SA6 := Lib.hid (SA5.out.kept hO (by simp))
        clear hO CT B5 SA5
        have CI := index_any r H l q w6 (by omega) (HR.out.kept (Only.of B6.out []) (by simp))
        rw [hix] at CI
        clear hix
        go_wp2_with fail
        refine CI.mono ?_
        rintro e w7 ⟨rfl, rfl⟩
        clear CI
        have hvr := ((Only.of B6.out []).cell hlt (by simp) 0).trans HV.out
        have dL : (((l.length : Nat) : Int) == ((l.length : Nat) : Int)) = true := by simp
        have dpos : decide ((0 : Int) < (l.length : Int)) = false := decide_eq_false (by omega)
        have dposn : decide (0 < l.length) = false := decide_eq_false (by omega)
        go_wp2_with fail
        refine (K.len w6 p F l (K.kept HH.out (Only.of B6.out []) (by simp))).mono ?_
        rintro e w8 ⟨rfl, hw⟩
        subst hw
        have CL := K.list w6 p F l (K.kept HH.out (Only.of B6.out []) (by simp))
        rw [HL.out] at CL
        clear dpos dposn hvr
        go_wp2_with fail
        refine CL.mono ?_
        rintro e w9 ⟨v1, rfl, hS1, hO⟩
        obtain ⟨a1, c1, rfl⟩ := hS1.form
        have B9 := Lib.hid (B6.out.trans (hO.below B6.out.size (by simp)))
        have CS := same_any w6.heap.size w.heap.size (.slice a1 L.length c1) (.slice a l.length c') L L w9 (by have := HLl.out; omega) (by have := HLl.out; omega) hS1 (SA6.out.kept hO (by simp))
        rw [decide_eq_true (rfl : L = L)] at CS
        clear hO hS1 CL SA6
        go_wp2_with fail
        refine CS.mono ?_
        rintro e w10 ⟨rfl, hB⟩
        clear CS
        go_wp2_with fail
        go_ret
        exact ⟨rfl, (Only.of B9.out []).trans (Only.of hB [])⟩
      | false =>
        obtain ⟨⟨xd, xt⟩, hl1⟩ : ∃ x, l[0]? = some x := by
          cases l with
          | nil => cases hem
          | cons x r' => exact ⟨x, rfl⟩
        have hlz : 0 < l.length := (List.getElem?_eq_some_iff.1 hl1).1
        obtain rfl : ti = (xd : Nat) := by
          rw [← ht1]
          cases l with
          | nil => cases hem
          | cons x r' => cases hl1; rfl
        obtain rfl : xt = tk := by
          rw [← ht2]
          cases l with
          | nil => cases hem
          | cons x r' => cases hl1; rfl
        rcases ixN_low q 0 l with hix | hge
        · have hat := keyP_none hix
          have CM := K.min wr p F l (K.kept HH.out (Only.of BW.out []) (by simp))
          rw [ht1, ht2, hem] at CM
          clear ht1 ht2 hem
          go_wp2_with fail
          refine CM.mono ?_
          rintro e w5 ⟨he, hO⟩
          replace he : e = .returned (.tuple #[.int .i64 (xd : Nat), .int .u64 (xt : Nat), .bool true]) := he
          subst he
          have B5 := Lib.hid (BW.out.trans (hO.below BW.out.size (by simp)))
          have SA5 := Lib.hid (SA.out.kept hO (by simp))
          clear hO CM BW SA hvr
          have CT := K.key w5 p F l q (K.kept HH.out (Only.of B5.out []) (by simp)) hq
          rw [hat] at CT
          clear hat
          go_wp2_with fail
          refine CT.mono ?_
          rintro e w6 ⟨he, hO⟩
          replace he : e = .returned (.tuple #[.int .u64 0, .bool false]) := he
          subst he
          have B6 := Lib.hid (B5.out.trans (hO.below B5.out.size (by simp)))
          have SA6 := Lib.hid (SA5.out.kept hO (by simp))
          clear hO CT B5 SA5
          have CI := index_any r H l q w6 (by omega) (HR.out.kept (Only.of B6.out []) (by simp))
          rw [hix] at CI
          clear hix
          go_wp2_with fail
          refine CI.mono ?_
          rintro e w7 ⟨rfl, rfl⟩
          clear CI
          have hvr := ((Only.of B6.out []).cell hlt (by simp) 0).trans HV.out
          have dL : (((l.length : Nat) : Int) == ((l.length : Nat) : Int)) = true := by simp
          have dpos : decide ((0 : Int) < (l.length : Int)) = true := decide_eq_true (by omega)
          have dposn : decide (0 < l.length) = true := decide_eq_true hlz
          have hlI : (0 : Int) < (l.length : Int) := by omega
          have dI : (((xd : Nat) : Int) != ((xd : Nat) : Int)) = false := by simp
          have dA : (((xt : Nat) : Int) != ((xt : Nat) : Int)) = false := by simp
          obtain ⟨rb, ro, rfl, rl, -, -, -, y1⟩ := HS.out.at hl1
          have y1 := ((Only.of B6.out []).cell rl (by simp) _).trans y1
          have hL0 : L[0]? = some xd := by rw [← HL.out, List.getElem?_map, hl1]; rfl
          have hsa := SA6.out
          rw [show (Value.slice a l.length c') = Value.slice a L.length c' from by rw [HLl.out]] at hsa
          obtain ⟨ab, ao, rfl, al, -, a0⟩ := hsa.at hL0
          simp only [Nat.zero_mul, Nat.add_zero] at y1 a0
          clear hsa hL0 hl1
          go_wp2_with fail
          refine (K.len w6 p F l (K.kept HH.out (Only.of B6.out []) (by simp))).mono ?_
          rintro e w8 ⟨rfl, hw⟩
          subst hw
          have CL := K.list w6 p F l (K.kept HH.out (Only.of B6.out []) (by simp))
          rw [HL.out] at CL
          clear dpos dposn hvr dI dA y1 a0 rl
          go_wp2_with fail
          refine CL.mono ?_
          rintro e w9 ⟨v1, rfl, hS1, hO⟩
          obtain ⟨a1, c1, rfl⟩ := hS1.form
          have B9 := Lib.hid (B6.out.trans (hO.below B6.out.size (by simp)))
          have CS := same_any w6.heap.size w.heap.size (.slice a1 L.length c1) (.slice (some ⟨ab, ao, none⟩) l.length c') L L w9 (by have := HLl.out; omega) (by have := HLl.out; omega) hS1 (SA6.out.kept hO (by simp))
          rw [decide_eq_true (rfl : L = L)] at CS
          clear hO hS1 CL SA6
          go_wp2_with fail
          refine CS.mono ?_
          rintro e w10 ⟨rfl, hB⟩
          clear CS
          go_wp2_with fail
          go_ret
          exact ⟨rfl, (Only.of B9.out []).trans (Only.of hB [])⟩
        · obtain ⟨k, hix⟩ : ∃ k : Nat, ixN q 0 l = (k : Int) := ⟨(ixN q 0 l).toNat, by omega⟩
          obtain ⟨⟨kd, kt⟩, hk, hat⟩ := keyP_some hix
          simp only at hat
          have CM := K.min wr p F l (K.kept HH.out (Only.of BW.out []) (by simp))
          rw [ht1, ht2, hem] at CM
          clear ht1 ht2 hem
          go_wp2_with fail
          refine CM.mono ?_
          rintro e w5 ⟨he, hO⟩
          replace he : e = .returned (.tuple #[.int .i64 (xd : Nat), .int .u64 (xt : Nat), .bool true]) := he
          subst he
          have B5 := Lib.hid (BW.out.trans (hO.below BW.out.size (by simp)))
          have SA5 := Lib.hid (SA.out.kept hO (by simp))
          clear hO CM BW SA hvr
          have CT := K.key w5 p F l q (K.kept HH.out (Only.of B5.out []) (by simp)) hq
          rw [hat] at CT
          clear hat
          go_wp2_with fail
          refine CT.mono ?_
          rintro e w6 ⟨he, hO⟩
          replace he : e = .returned (.tuple #[.int .u64 (kt : Nat), .bool true]) := he
          subst he
          have B6 := Lib.hid (B5.out.trans (hO.below B5.out.size (by simp)))
          have SA6 := Lib.hid (SA5.out.kept hO (by simp))
          clear hO CT B5 SA5
          have CI := index_any r H l q w6 (by omega) (HR.out.kept (Only.of B6.out []) (by simp))
          rw [hix] at CI
          clear hix
          go_wp2_with fail
          refine CI.mono ?_
          rintro e w7 ⟨rfl, rfl⟩
          clear CI
          have hvr := ((Only.of B6.out []).cell hlt (by simp) 0).trans HV.out
          have dL : (((l.length : Nat) : Int) == ((l.length : Nat) : Int)) = true := by simp
          have dpos : decide ((0 : Int) < (l.length : Int)) = true := decide_eq_true (by omega)
          have dposn : decide (0 < l.length) = true := decide_eq_true hlz
          have hlI : (0 : Int) < (l.length : Int) := by omega
          have dI : (((xd : Nat) : Int) != ((xd : Nat) : Int)) = false := by simp
          have dA : (((xt : Nat) : Int) != ((xt : Nat) : Int)) = false := by simp
          obtain ⟨rb, ro, rfl, rl, -, -, -, y1⟩ := HS.out.at hl1
          have y1 := ((Only.of B6.out []).cell rl (by simp) _).trans y1
          have hL0 : L[0]? = some xd := by rw [← HL.out, List.getElem?_map, hl1]; rfl
          have hsa := SA6.out
          rw [show (Value.slice a l.length c') = Value.slice a L.length c' from by rw [HLl.out]] at hsa
          obtain ⟨ab, ao, rfl, al, -, a0⟩ := hsa.at hL0
          simp only [Nat.zero_mul, Nat.add_zero] at y1 a0
          clear hsa hL0 hl1
          have hkl := (List.getElem?_eq_some_iff.1 hk).1
          obtain ⟨rb', ro', e', rl', -, -, -, s1⟩ := HS.out.at hk
          cases e'
          have s1 := ((Only.of B6.out []).cell rl' (by simp) _).trans s1
          simp only at s1
          have dK : (((kt : Nat) : Int) != ((kt : Nat) : Int)) = false := by simp
          have hk0 : (0 : Int) ≤ (k : Int) := by omega
          have hkI : (k : Int) < (l.length : Int) := by omega
          clear hk
          go_wp2_with fail
          refine (K.len w6 p F l (K.kept HH.out (Only.of B6.out []) (by simp))).mono ?_
          rintro e w8 ⟨rfl, hw⟩
          subst hw
          have CL := K.list w6 p F l (K.kept HH.out (Only.of B6.out []) (by simp))
          rw [HL.out] at CL
          clear dpos dposn hvr dI dA y1 a0 rl s1 dK
          go_wp2_with fail
          refine CL.mono ?_
          rintro e w9 ⟨v1, rfl, hS1, hO⟩
          obtain ⟨a1, c1, rfl⟩ := hS1.form
          have B9 := Lib.hid (B6.out.trans (hO.below B6.out.size (by simp)))
          have CS := same_any w6.heap.size w.heap.size (.slice a1 L.length c1) (.slice (some ⟨ab, ao, none⟩) l.length c') L L w9 (by have := HLl.out; omega) (by have := HLl.out; omega) hS1 (SA6.out.kept hO (by simp))
          rw [decide_eq_true (rfl : L = L)] at CS
          clear hO hS1 CL SA6
          go_wp2_with fail
          refine CS.mono ?_
          rintro e w10 ⟨rfl, hB⟩
          clear CS
          go_wp2_with fail
          go_ret
          exact ⟨rfl, (Only.of B9.out []).trans (Only.of hB [])⟩
end Hq
end Go.Proofs.Ytmeadkllbjkjbaa
