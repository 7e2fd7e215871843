/-
  What the laws' do answers: true, and both tables stay alike. Conditions: that both lie there.
-/
import Derived.Test.YtgeagnpgcjjifaaFrRef
import Derived.Test.YtgeagnpgcjjifaaFrOpen
import Derived.Deep.RegionHeld3
namespace Go.Proofs.Ytgeagnpgcjjifaa
open Go.RowKit
namespace Fr
open Ph (Only)

/-- What a call leaves. -/
def doP (c : CallT) (os : List Nat) : List Nat :=
  if c.1 = 0 then (takeP 1 c.2.1 os).2.2
  else if c.1 = 1 then (takeP 64 c.2.1 os).2.2
  else if c.1 = 2 then (mvP c.2.2.2 c.2.1 0 os).2
  else if c.1 = 3 then gaO c.2.1 os
  else if c.1 = 4 then (moveP c.2.2.2 c.2.1 c.2.2.1 os).2
  else os
theorem doP_len (c : CallT) (os : List Nat) : (doP c os).length = os.length := by
  unfold doP
  split
  · exact takeP_len _ _ _
  split
  · exact takeP_len _ _ _
  split
  · exact mvP_len _ _ _ _
  split
  · exact gaO_len _ _
  split
  · exact moveP_len _ _ _ _
  · rfl
section
variable {ops : Array Oper} {S : World → Prop} {o : Oper} {a : Act} {v : Value} {x : Operand}
theorem y_run (hw : Region.wanted o (yielded ops a.tmps) = true) (h : ∀ w, (execOp a.eval o).run Try.prog w = .ok (.value v) w) : YieldsIf Try.prog ops S o v a := .inl ⟨hw, fun w _ => h w⟩
theorem load_int (w : World) (b i : Nat) (z : Int) (h : w.cell? ⟨b, i, none⟩ = some (.int .i64 z)) (hx : a.eval x = .pointer (some ⟨b, i, none⟩)) (ho : o.op = .load 3 x) : (execOp a.eval o).run Try.prog w = .ok (.value (.int .i64 z)) w := by
  unfold execOp
  simp only [ho, hx]
  go_simp
theorem y_int (b i : Nat) (z : Int) (hw : Region.wanted o (yielded ops a.tmps) = true) (hS : ∀ w, S w → w.cell? ⟨b, i, none⟩ = some (.int .i64 z)) (x : Operand) (hx : a.eval x = .pointer (some ⟨b, i, none⟩)) (ho : o.op = .load 3 x) : YieldsIf Try.prog ops S o (.int .i64 z) a := .inl ⟨hw, fun w h => load_int w b i z (hS w h) hx ho⟩
theorem y_eqE (z : Int) (hw : Region.wanted o (yielded ops a.tmps) = true) (x y : Operand) (hx : a.eval x = .int .i64 z) (hy : a.eval y = .int .i64 z) (ho : o.op = .binOp .eql 25 x y 25) : YieldsIf Try.prog ops S o (.bool true) a := .inl ⟨hw, fun w _ => by
  unfold execOp
  simp only [ho, hx, hy]
  go_simp⟩
end
/-- The two tables' blocks, apart. -/
structure Away (B t F r G : Nat) : Prop where
  tr : t ≠ r
  tG : t ≠ G
  Fr : F ≠ r
  FG : F ≠ G
  bt : B ≤ t
  bF : B ≤ F
  br : B ≤ r
  bG : B ≤ G
/-- Both tables lie there, and tell the same. -/
structure Both (w : World) (t F r G : Nat) (os : List Nat) : Prop where
  tab : Tab w t F os
  rtab : RTab w r G os
theorem Both.lt {w : World} {t F r G : Nat} {os : List Nat} (h : Both w t F r G os) : t < w.heap.size ∧ F < w.heap.size ∧ r < w.heap.size ∧ G < w.heap.size := ⟨h.tab.tb.lt, h.tab.tb.row.lt, h.rtab.lt, h.rtab.row.lt⟩
theorem Both.kept {w w' : World} {t F r G : Nat} {os : List Nat} {S : List Nat} (h : Both w t F r G os) (ho : Only S w w') (h1 : t ∉ S) (h2 : F ∉ S) (h3 : r ∉ S) (h4 : G ∉ S) : Both w' t F r G os := ⟨h.tab.kept ho h1 h2, h.rtab.kept ho h3 h4⟩
set_option maxRecDepth 100000 in
set_option maxHeartbeats 4000000 in
theorem do0_any (B t F r G : Nat) (o p f : Int) (os : List Nat) (w : World) (hT : Both w t F r G os) (hA : Away B t F r G) :
    Calls Try.prog 11 #[.pointer (some ⟨t, 0, none⟩), .pointer (some ⟨r, 0, none⟩), .agg #[.int .i64 0, .int .i64 o, .int .i64 p, .int .i64 f]] w fun e w' => e = .returned (.bool true) ∧ Both w' t F r G ((takeP 1 o os).2.2) ∧ Only [t, F, r, G] w w' := by
  have hlen := hT.tab.len
  have HA := Lib.hid hA
  obtain ⟨z1, z2, z3, z4⟩ := hT.lt
  have hL := Lay.new w 32 [.int .i64 0, .int .i64 o, .int .i64 p, .int .i64 f]
  have hO := Only.alloc [] w (.cells #[.int .i64 0, .int .i64 o, .int .i64 p, .int .i64 f] 32)
  have HT := Lib.hid (hT.kept hO (by simp) (by simp) (by simp) (by simp))
  have HL := Lib.hid hL
  have HO := Lib.hid hO
  have hbl := hL.lt
  clear hT hA hL hO
  obtain ⟨tp, htp⟩ : ∃ tp, tp = takeP 1 o os := ⟨_, rfl⟩
  rw [← htp]
  have HP := Lib.hid htp
  clear htp
  go_enter Try.func11, Try.ntmps11
  go_wp2_with fail
  have C1 := take_any t F o os _ HT.out.tab
  rw [← HP.out] at C1
  refine C1.mono ?_
  clear C1
  rintro e w3 ⟨rfl, hT3, hO3⟩
  have L3 := Lib.hid (HL.out.kept hO3 (by simp; omega))
  have a1 := HA.out.tr
  have a2 := HA.out.tG
  have a3 := HA.out.Fr
  have a4 := HA.out.FG
  have T3 := Lib.hid hT3
  have R3 := Lib.hid (HT.out.rtab.kept hO3 (by simp; exact ⟨a1.symm, a3.symm⟩) (by simp; exact ⟨a2.symm, a4.symm⟩))
  have O3 := Lib.hid ((HO.out.mono (S' := [t, F, r, G]) (by simp)).trans (hO3.mono (S' := [t, F, r, G]) (by simp)))
  have ez := L3.out.lt
  clear hT3 hO3 HT HL HO
  have e0 := L3.out.cell 0
  have e1 := L3.out.cell 1
  have e2 := L3.out.cell 2
  have e3 := L3.out.cell 3
  simp only [List.getElem?_cons_zero, List.getElem?_cons_succ] at e0 e1 e2 e3
  go_wp2_with fail
  have C2 := rtake_any r G 1 o os _ R3.out hlen (by omega) (by omega)
  rw [← HP.out] at C2
  refine C2.mono ?_
  clear C2
  rintro e w4 ⟨rfl, hR4, hO4⟩
  have T4 := Lib.hid (T3.out.kept hO4 (by simp; exact a2) (by simp; exact a4))
  have R4 := Lib.hid hR4
  have O4 := Lib.hid (O3.out.trans (hO4.mono (S' := [t, F, r, G]) (by simp)))
  clear hR4 hO4 T3 R3 O3
  clear L3 e0 e1 e2 e3 ez
  go_wp2_with fail
  go_ret
  exact ⟨rfl, ⟨T4.out, R4.out⟩, O4.out⟩
set_option maxRecDepth 100000 in
set_option maxHeartbeats 4000000 in
theorem do1_any (B t F r G : Nat) (o p f : Int) (os : List Nat) (w : World) (hT : Both w t F r G os) (hA : Away B t F r G) :
    Calls Try.prog 11 #[.pointer (some ⟨t, 0, none⟩), .pointer (some ⟨r, 0, none⟩), .agg #[.int .i64 1, .int .i64 o, .int .i64 p, .int .i64 f]] w fun e w' => e = .returned (.bool true) ∧ Both w' t F r G ((takeP 64 o os).2.2) ∧ Only [t, F, r, G] w w' := by
  have hlen := hT.tab.len
  have HA := Lib.hid hA
  obtain ⟨z1, z2, z3, z4⟩ := hT.lt
  have hL := Lay.new w 32 [.int .i64 1, .int .i64 o, .int .i64 p, .int .i64 f]
  have hO := Only.alloc [] w (.cells #[.int .i64 1, .int .i64 o, .int .i64 p, .int .i64 f] 32)
  have HT := Lib.hid (hT.kept hO (by simp) (by simp) (by simp) (by simp))
  have HL := Lib.hid hL
  have HO := Lib.hid hO
  have hbl := hL.lt
  clear hT hA hL hO
  obtain ⟨tp, htp⟩ : ∃ tp, tp = takeP 64 o os := ⟨_, rfl⟩
  rw [← htp]
  have HP := Lib.hid htp
  clear htp
  go_enter Try.func11, Try.ntmps11
  go_wp2_with fail
  have C1 := takeRun_any t F o os _ HT.out.tab
  rw [← HP.out] at C1
  refine C1.mono ?_
  clear C1
  rintro e w3 ⟨rfl, hT3, hO3⟩
  have L3 := Lib.hid (HL.out.kept hO3 (by simp; omega))
  have a1 := HA.out.tr
  have a2 := HA.out.tG
  have a3 := HA.out.Fr
  have a4 := HA.out.FG
  have T3 := Lib.hid hT3
  have R3 := Lib.hid (HT.out.rtab.kept hO3 (by simp; exact ⟨a1.symm, a3.symm⟩) (by simp; exact ⟨a2.symm, a4.symm⟩))
  have O3 := Lib.hid ((HO.out.mono (S' := [t, F, r, G]) (by simp)).trans (hO3.mono (S' := [t, F, r, G]) (by simp)))
  have ez := L3.out.lt
  clear hT3 hO3 HT HL HO
  have e0 := L3.out.cell 0
  have e1 := L3.out.cell 1
  have e2 := L3.out.cell 2
  have e3 := L3.out.cell 3
  simp only [List.getElem?_cons_zero, List.getElem?_cons_succ] at e0 e1 e2 e3
  go_wp2_with fail
  have C2 := rtake_any r G 64 o os _ R3.out hlen (by omega) (by omega)
  rw [← HP.out] at C2
  refine C2.mono ?_
  clear C2
  rintro e w4 ⟨rfl, hR4, hO4⟩
  have T4 := Lib.hid (T3.out.kept hO4 (by simp; exact a2) (by simp; exact a4))
  have R4 := Lib.hid hR4
  have O4 := Lib.hid (O3.out.trans (hO4.mono (S' := [t, F, r, G]) (by simp)))
  clear hR4 hO4 T3 R3 O3
  clear L3 e0 e1 e2 e3 ez
  go_wp2_with fail
  go_ret
  exact ⟨rfl, ⟨T4.out, R4.out⟩, O4.out⟩
set_option maxRecDepth 100000 in
set_option maxHeartbeats 4000000 in
theorem do4_any (B t F r G : Nat) (o p f : Int) (os : List Nat) (w : World) (hT : Both w t F r G os) (hA : Away B t F r G) :
    Calls Try.prog 11 #[.pointer (some ⟨t, 0, none⟩), .pointer (some ⟨r, 0, none⟩), .agg #[.int .i64 4, .int .i64 o, .int .i64 p, .int .i64 f]] w fun e w' => e = .returned (.bool true) ∧ Both w' t F r G ((moveP f o p os).2) ∧ Only [t, F, r, G] w w' := by
  have hlen := hT.tab.len
  have HA := Lib.hid hA
  obtain ⟨z1, z2, z3, z4⟩ := hT.lt
  have hL := Lay.new w 32 [.int .i64 4, .int .i64 o, .int .i64 p, .int .i64 f]
  have hO := Only.alloc [] w (.cells #[.int .i64 4, .int .i64 o, .int .i64 p, .int .i64 f] 32)
  have HT := Lib.hid (hT.kept hO (by simp) (by simp) (by simp) (by simp))
  have HL := Lib.hid hL
  have HO := Lib.hid hO
  have hbl := hL.lt
  clear hT hA hL hO
  by_cases hp : p = 0
  · subst hp
    have e : moveP f o 0 os = (11, os) := by unfold moveP; rw [if_pos rfl]
    rw [e]
    clear e
    have e0 := HL.out.cell 0
    have e1 := HL.out.cell 1
    have e2 := HL.out.cell 2
    have e3 := HL.out.cell 3
    simp only [List.getElem?_cons_zero, List.getElem?_cons_succ] at e0 e1 e2 e3
    go_enter Try.func11, Try.ntmps11
    go_wp2_with fail
    have C1 := move_any t F f o 0 os _ HT.out.tab
    rw [show moveP f o 0 os = (11, os) by unfold moveP; rw [if_pos rfl]] at C1
    refine C1.mono ?_
    clear C1
    rintro e w3 ⟨rfl, hT3, hO3⟩
    have L3 := Lib.hid (HL.out.kept hO3 (by simp; omega))
    have a1 := HA.out.tr
    have a2 := HA.out.tG
    have a3 := HA.out.Fr
    have a4 := HA.out.FG
    have T3 := Lib.hid hT3
    have R3 := Lib.hid (HT.out.rtab.kept hO3 (by simp; exact ⟨a1.symm, a3.symm⟩) (by simp; exact ⟨a2.symm, a4.symm⟩))
    have O3 := Lib.hid ((HO.out.mono (S' := [t, F, r, G]) (by simp)).trans (hO3.mono (S' := [t, F, r, G]) (by simp)))
    have ez := L3.out.lt
    clear hT3 hO3 HT HL HO
    go_wp2_with fail
    go_ret
    exact ⟨rfl, ⟨T3.out, R3.out⟩, O3.out⟩
  · have hpe : moveP f o p os = mvP f o p os := by unfold moveP; rw [if_neg hp]
    rw [hpe]
    have HE := Lib.hid hpe
    have dp : (p != 0) = true := by simp; exact hp
    obtain ⟨tp, htp⟩ : ∃ tp, tp = mvP f o p os := ⟨_, rfl⟩
    rw [← htp]
    have HP := Lib.hid htp
    clear htp hpe hp
    have e0 := HL.out.cell 0
    have e1 := HL.out.cell 1
    have e2 := HL.out.cell 2
    have e3 := HL.out.cell 3
    simp only [List.getElem?_cons_zero, List.getElem?_cons_succ] at e0 e1 e2 e3
    go_enter Try.func11, Try.ntmps11
    go_wp2_with fail
    have C1 := rmove_any r G f o p os _ HT.out.rtab
    rw [← HP.out] at C1
    refine C1.mono ?_
    clear C1
    rintro e w3 ⟨rfl, hR3, hO3⟩
    have L3 := Lib.hid (HL.out.kept hO3 (by simp; omega))
    have a1 := HA.out.tr
    have a2 := HA.out.tG
    have a3 := HA.out.Fr
    have a4 := HA.out.FG
    have R3 := Lib.hid hR3
    have T3 := Lib.hid (HT.out.tab.kept hO3 (by simp; exact a2) (by simp; exact a4))
    have O3 := Lib.hid ((HO.out.mono (S' := [t, F, r, G]) (by simp)).trans (hO3.mono (S' := [t, F, r, G]) (by simp)))
    have ez := L3.out.lt
    clear hR3 hO3 HT HL HO e0 e1 e2 e3
    have e0 := L3.out.cell 0
    have e1 := L3.out.cell 1
    have e2 := L3.out.cell 2
    have e3 := L3.out.cell 3
    simp only [List.getElem?_cons_zero, List.getElem?_cons_succ] at e0 e1 e2 e3
    go_wp2_with fail
    have C2 := move_any t F f o p os _ T3.out
    rw [HE.out, ← HP.out] at C2
    refine C2.mono ?_
    clear C2
    rintro e w4 ⟨rfl, hT4, hO4⟩
    have T4 := Lib.hid hT4
    have R4 := Lib.hid (R3.out.kept hO4 (by simp; exact ⟨a1.symm, a3.symm⟩) (by simp; exact ⟨a2.symm, a4.symm⟩))
    have O4 := Lib.hid (O3.out.trans (hO4.mono (S' := [t, F, r, G]) (by simp)))
    clear hT4 hO4 T3 R3 O3 L3 e0 e1 e2 e3 ez
    go_wp2_with fail
    go_ret
    exact ⟨rfl, ⟨T4.out, R4.out⟩, O4.out⟩
set_option maxRecDepth 100000 in
set_option maxHeartbeats 4000000 in
theorem do5_any (B t F r G : Nat) (k o p f : Int) (os : List Nat) (w : World) (hT : Both w t F r G os) (hA : Away B t F r G) (n0 : k ≠ 0) (n1 : k ≠ 1) (n2 : k ≠ 2) (n3 : k ≠ 3) (n4 : k ≠ 4) :
    Calls Try.prog 11 #[.pointer (some ⟨t, 0, none⟩), .pointer (some ⟨r, 0, none⟩), .agg #[.int .i64 k, .int .i64 o, .int .i64 p, .int .i64 f]] w fun e w' => e = .returned (.bool true) ∧ Both w' t F r G (os) ∧ Only [t, F, r, G] w w' := by
  have hlen := hT.tab.len
  have HA := Lib.hid hA
  obtain ⟨z1, z2, z3, z4⟩ := hT.lt
  have hL := Lay.new w 32 [.int .i64 k, .int .i64 o, .int .i64 p, .int .i64 f]
  have hO := Only.alloc [] w (.cells #[.int .i64 k, .int .i64 o, .int .i64 p, .int .i64 f] 32)
  have HT := Lib.hid (hT.kept hO (by simp) (by simp) (by simp) (by simp))
  have HL := Lib.hid hL
  have HO := Lib.hid hO
  have hbl := hL.lt
  clear hT hA hL hO
  go_enter Try.func11, Try.ntmps11
  have d0 : (k == 0) = false := by simp; exact n0
  have d1 : (k == 1) = false := by simp; exact n1
  have d2 : (k == 2) = false := by simp; exact n2
  have d3 : (k == 3) = false := by simp; exact n3
  have d4 : (k == 4) = false := by simp; exact n4
  clear n0 n1 n2 n3 n4
  go_wp2_with fail
  go_ret
  exact ⟨rfl, HT.out, HO.out.mono (by simp)⟩
theorem ga_far {o : Int} {os : List Nat} (h : ∀ x ∈ os, x ≤ 9) (h0 : o ≠ 0) : gaL o os = which o os ∧ gaO o os = giveL os (which o os) := by
  unfold gaL gaO goneP
  cases htk : tk o with
  | true => exact ⟨rfl, rfl⟩
  | false =>
    have hw : which o os = [] := which_far h (by
      unfold tk at htk
      rw [Bool.and_eq_false_iff, decide_eq_false_iff_not, decide_eq_false_iff_not] at htk
      omega)
    rw [hw]
    exact ⟨rfl, rfl⟩
set_option maxRecDepth 100000 in
set_option maxHeartbeats 4000000 in
theorem do3_any (B t F r G : Nat) (o p f : Int) (os : List Nat) (w : World) (hT : Both w t F r G os) (hA : Away B t F r G) :
    Calls Try.prog 11 #[.pointer (some ⟨t, 0, none⟩), .pointer (some ⟨r, 0, none⟩), .agg #[.int .i64 3, .int .i64 o, .int .i64 p, .int .i64 f]] w fun e w' => e = .returned (.bool true) ∧ Both w' t F r G (gaO o os) ∧ Only [t, F, r, G] w w' := by
  have hlen := hT.tab.len
  have HA := Lib.hid hA
  obtain ⟨z1, z2, z3, z4⟩ := hT.lt
  have hL := Lay.new w 32 [.int .i64 3, .int .i64 o, .int .i64 p, .int .i64 f]
  have hO := Only.alloc [] w (.cells #[.int .i64 3, .int .i64 o, .int .i64 p, .int .i64 f] 32)
  have HT := Lib.hid (hT.kept hO (by simp) (by simp) (by simp) (by simp))
  have HL := Lib.hid hL
  have HO := Lib.hid hO
  have hbl := hL.lt
  clear hT hA hL hO
  by_cases h0 : o = 0
  · subst h0
    have e0 := HL.out.cell 0
    have e1 := HL.out.cell 1
    have e2 := HL.out.cell 2
    have e3 := HL.out.cell 3
    simp only [List.getElem?_cons_zero, List.getElem?_cons_succ] at e0 e1 e2 e3
    go_enter Try.func11, Try.ntmps11
    go_wp2_with fail
    refine (giveAll_any t F 0 os _ HT.out.tab (by simp; omega) (by simp; omega)).mono ?_
    rintro e w3 ⟨v, rfl, hS3, hT3, hO3⟩
    rw [show gaL 0 os = [] from rfl] at hS3
    obtain ⟨va, vc, rfl⟩ := hS3.form
    have L3 := Lib.hid (HL.out.kept hO3 (by simp; omega))
    have a1 := HA.out.tr
    have a2 := HA.out.tG
    have a3 := HA.out.Fr
    have a4 := HA.out.FG
    have T3 := Lib.hid hT3
    have R3 := Lib.hid (HT.out.rtab.kept hO3 (by simp; exact ⟨a1.symm, a3.symm⟩) (by simp; exact ⟨a2.symm, a4.symm⟩))
    have O3 := Lib.hid ((HO.out.mono (S' := [t, F, r, G]) (by simp)).trans (hO3.mono (S' := [t, F, r, G]) (by simp)))
    have ez := L3.out.lt
    clear hT3 hO3 HT HL HO
    have i0 := L3.out.cell 0
    have i1 := L3.out.cell 1
    have i2 := L3.out.cell 2
    have i3 := L3.out.cell 3
    simp only [List.getElem?_cons_zero, List.getElem?_cons_succ] at i0 i1 i2 i3
    clear hS3 e0 e1 e2 e3
    go_wp2_with fail
    go_ret
    exact ⟨rfl, ⟨T3.out, R3.out⟩, O3.out⟩
  · obtain ⟨g1, g2⟩ := ga_far HT.out.tab.few h0
    have d0 : (o == 0) = false := by simp; exact h0
    have few := HT.out.tab.few
    rw [g2]
    have G1 := Lib.hid g1
    have G2 := Lib.hid g2
    have HM := Lib.hid (fun j (h : j ∈ which o os) => (mem_which.1 h))
    have hll := which_len o os
    obtain ⟨l, hl⟩ : ∃ l, l = which o os := ⟨_, rfl⟩
    rw [← hl] at G1 G2 HM hll ⊢
    have HLW := Lib.hid hl
    clear g1 g2 h0 hl few
    have e0 := HL.out.cell 0
    have e1 := HL.out.cell 1
    have e2 := HL.out.cell 2
    have e3 := HL.out.cell 3
    simp only [List.getElem?_cons_zero, List.getElem?_cons_succ] at e0 e1 e2 e3
    go_enter Try.func11, Try.ntmps11
    go_wp2_with fail
    refine (giveAll_any t F o os _ HT.out.tab (by simp; omega) (by simp; omega)).mono ?_
    rintro e w3 ⟨v, rfl, hS3, hT3, hO3⟩
    rw [G1.out] at hS3
    rw [G2.out] at hT3
    obtain ⟨va, vc, rfl⟩ := hS3.form
    have HS3 := Lib.hid hS3
    clear hS3
    have L3 := Lib.hid (HL.out.kept hO3 (by simp; omega))
    have a1 := HA.out.tr
    have a2 := HA.out.tG
    have a3 := HA.out.Fr
    have a4 := HA.out.FG
    have T3 := Lib.hid hT3
    have R3 := Lib.hid (HT.out.rtab.kept hO3 (by simp; exact ⟨a1.symm, a3.symm⟩) (by simp; exact ⟨a2.symm, a4.symm⟩))
    have O3 := Lib.hid ((HO.out.mono (S' := [t, F, r, G]) (by simp)).trans (hO3.mono (S' := [t, F, r, G]) (by simp)))
    have ez := L3.out.lt
    clear hT3 hO3 HT HL HO
    have i0 := L3.out.cell 0
    have i1 := L3.out.cell 1
    have i2 := L3.out.cell 2
    have i3 := L3.out.cell 3
    simp only [List.getElem?_cons_zero, List.getElem?_cons_succ] at i0 i1 i2 i3
    clear e0 e1 e2 e3
    have q3 := R3.out.lt
    have q4 := R3.out.row.lt
    go_wp2_with fail
    refine (rlist_any r G o os _ R3.out hlen q3 q4).mono ?_
    rintro e w4 ⟨u, rfl, hS4, hb4⟩
    rw [← HLW.out] at hS4
    obtain ⟨ua, uc, rfl⟩ := hS4.form
    have hO4 := Only.of hb4 []
    have S3 := Lib.hid (HS3.out.kept hO4 (by simp))
    have S4 := Lib.hid hS4
    have T4 := Lib.hid (T3.out.kept hO4 (by simp) (by simp))
    have R4 := Lib.hid (R3.out.kept hO4 (by simp) (by simp))
    have O4 := Lib.hid (O3.out.trans (hO4.mono (S' := [t, F, r, G]) (by simp)))
    clear hS4 hb4 hO4 HS3 T3 R3 O3 L3 i0 i1 i2 i3 ez
    go_wp2_with fail
    go_loopw [17] (fun c wr => ∃ i : Nat, c = .int .i64 i ∧ i ≤ l.length ∧ Tab wr t F (giveL os l) ∧ RTab wr r G (giveL os (l.take i)) ∧ Seen (w.heap.size + 1) wr (.slice va l.length vc) l ∧ Seen w3.heap.size wr (.slice ua l.length uc) l ∧ Only [t, F, r, G] w wr) (fun c _ => l.length - (intOf c).toNat)
    case atStart => exact ⟨0, rfl, Nat.zero_le _, T4.out, R4.out, by simpa using S3.out, S4.out, O4.out⟩
    case round =>
      obtain ⟨i, rfl, hi, hTi, hRi, hS1, hS2, hOi⟩ := hrel
      have TI := Lib.hid hTi
      have RI := Lib.hid hRi
      have S1 := Lib.hid hS1
      have OI := Lib.hid hOi
      have hh := hRi.head
      rw [giveL_len] at hh
      clear hTi hRi hS1 hOi S3 S4 T4 R4 O4
      by_cases hil : i < l.length
      · obtain ⟨j, hj⟩ : ∃ j, l[i]? = some j := ⟨l[i], List.getElem?_eq_getElem hil⟩
        obtain ⟨b, cap, hv, hblt, hc⟩ := hS2.at hj
        injection hv with hv1 _ hv2
        subst hv1 hv2
        have HJ := Lib.hid hj
        obtain ⟨x, hx, _⟩ := HM.out j (List.mem_of_getElem? hj)
        have hjo : j < os.length := (List.getElem?_eq_some_iff.1 hx).1
        have hjl : j < (giveL os (l.take i)).length := by rw [giveL_len]; exact hjo
        obtain ⟨y, hy⟩ : ∃ y, (giveL os (l.take i))[j]? = some y := ⟨_, List.getElem?_eq_getElem hjl⟩
        have hcy := RI.out.row.cell j y hy
        have hfy := RI.out.row.free j hjl
        obtain ⟨R2, O2⟩ := RI.out.set j 0 hjl
        have D2 := Only.drewN [] (wr.setCell ⟨G, j, none⟩ (.int .i64 ((0 : Nat) : Int))) 1
        have R2' := Lib.hid (R2.kept D2 (by simp) (by simp))
        have O2' := Lib.hid (O2.trans (D2.mono (by simp)))
        have S2 := Lib.hid hS2
        clear hj hx hy hjl R2 O2 D2 hS2
        go_wp2_with fail
        go_region
        change Hid (RTab (wr.setCell ⟨G, j, none⟩ (.int .i64 0)).drew r G ((giveL os (l.take i)).set j 0)) at R2'
        change Hid (Only [G] wr (wr.setCell ⟨G, j, none⟩ (.int .i64 0)).drew) at O2'
        have T5 := Lib.hid (TI.out.kept O2'.out (by simp; exact a2) (by simp; exact a4))
        have S5 := Lib.hid (S1.out.kept O2'.out (by simp; omega))
        have S6 := Lib.hid (S2.out.kept O2'.out (by simp; omega))
        have O5 := Lib.hid (OI.out.trans (O2'.out.mono (S' := [t, F, r, G]) (by simp)))
        clear hcy hfy hc hh S1 S2 TI RI OI O2'
        generalize (wr.setCell ⟨G, j, none⟩ (.int .i64 0)).drew = wq at *
        go_wp2_with fail
        go_roundw
        case rel =>
          have st := R2'.out
          rw [← giveL_next HJ.out] at st
          first | exact ⟨i + 1, rfl, by omega, T5.out, st, S5.out, S6.out, O5.out⟩ | ((repeat apply Exists.intro); exact ⟨⟨i + 1, rfl, by omega, T5.out, st, S5.out, S6.out, O5.out⟩, rfl⟩)
        case measure => simp only [intOf, Int.toNat_natCast]; omega
      · obtain rfl : i = l.length := by omega
        have st := RI.out
        rw [List.take_length] at st
        have R5 := Lib.hid st
        have S2 := Lib.hid hS2
        have hl1 : l.length ≤ 1024 := by omega
        clear st hS2 RI hh
        go_wp2_with fail
        refine (same_any _ _ _ _ l l _ hl1 hl1 S1.out S2.out).mono ?_
        rintro e wq ⟨rfl, hb⟩
        rw [decide_eq_true rfl]
        have hO := Only.of hb []
        have T6 := Lib.hid (TI.out.kept hO (by simp) (by simp))
        have R6 := Lib.hid (R5.out.kept hO (by simp) (by simp))
        have O6 := Lib.hid (OI.out.trans (hO.mono (S' := [t, F, r, G]) (by simp)))
        clear hO hb TI R5 OI S1 S2
        go_wp2_with fail
        go_ret
        exact ⟨rfl, ⟨T6.out, R6.out⟩, O6.out⟩
set_option maxRecDepth 100000 in
set_option maxHeartbeats 4000000 in
theorem do2_any (B t F r G : Nat) (o p f : Int) (os : List Nat) (w : World) (hT : Both w t F r G os) (hA : Away B t F r G) :
    Calls Try.prog 11 #[.pointer (some ⟨t, 0, none⟩), .pointer (some ⟨r, 0, none⟩), .agg #[.int .i64 2, .int .i64 o, .int .i64 p, .int .i64 f]] w fun e w' => e = .returned (.bool true) ∧ Both w' t F r G ((mvP f o 0 os).2) ∧ Only [t, F, r, G] w w' := by
  have hlen := hT.tab.len
  have HA := Lib.hid hA
  obtain ⟨z1, z2, z3, z4⟩ := hT.lt
  have hL := Lay.new w 32 [.int .i64 2, .int .i64 o, .int .i64 p, .int .i64 f]
  have hO := Only.alloc [] w (.cells #[.int .i64 2, .int .i64 o, .int .i64 p, .int .i64 f] 32)
  have HT := Lib.hid (hT.kept hO (by simp) (by simp) (by simp) (by simp))
  have HL := Lib.hid hL
  have HO := Lib.hid hO
  have hbl := hL.lt
  clear hT hA hL hO
  obtain ⟨tp, htp⟩ : ∃ tp, tp = mvP f o 0 os := ⟨_, rfl⟩
  rw [← htp]
  have HP := Lib.hid htp
  clear htp
  go_enter Try.func11, Try.ntmps11
  go_wp2_with fail
  have hd := Only.drewN [] (w.alloc (.cells #[.int .i64 2, .int .i64 o, .int .i64 p, .int .i64 f] 32)) 1
  have a1 := HA.out.tr
  have a2 := HA.out.tG
  have a3 := HA.out.Fr
  have a4 := HA.out.FG
  have TA : Hid (Tab (w.alloc (.cells #[.int .i64 2, .int .i64 o, .int .i64 p, .int .i64 f] 32)).drew t F os) := Lib.hid (HT.out.tab.kept hd (by simp) (by simp))
  have RA : Hid (RTab (w.alloc (.cells #[.int .i64 2, .int .i64 o, .int .i64 p, .int .i64 f] 32)).drew r G os) := Lib.hid (HT.out.rtab.kept hd (by simp) (by simp))
  have OA : Hid (Only [] w (w.alloc (.cells #[.int .i64 2, .int .i64 o, .int .i64 p, .int .i64 f] 32)).drew) := Lib.hid (HO.out.trans hd)
  have LA : Hid (Lay (w.alloc (.cells #[.int .i64 2, .int .i64 o, .int .i64 p, .int .i64 f] 32)).drew w.heap.size 32 [.int .i64 2, .int .i64 o, .int .i64 p, .int .i64 f]) := Lib.hid (HL.out.kept hd (by simp))
  clear HT HO HL hd
  refine wp_region_noPanic ?_
  refine wp_region_held_drew (S := fun w' => Lay w' w.heap.size 32 [.int .i64 2, .int .i64 o, .int .i64 p, .int .i64 f]) (by kernel_rfl) LA.out (fun _ => ?_)
  generalize (w.alloc (.cells #[.int .i64 2, .int .i64 o, .int .i64 p, .int .i64 f] 32)).drew = wa at *
  refine wpAnyH_take (i := 0) (oi := ⟨some 71, _, _, _, _, _⟩) rfl (by kernel_rfl) (by kernel_rfl) (by kernel_rfl) (fun _ _ _ h => h) (y_run (v := .pointer (some ⟨t, 0, none⟩)) (by kernel_rfl) (fun _ => by kernel_rfl)) LA.out ?_
  refine wpAnyH_take (i := 1) (oi := ⟨some 72, _, _, _, _, _⟩) rfl (by kernel_rfl) (by kernel_rfl) (by kernel_rfl) (fun _ _ _ h => h) (y_run (v := .pointer (some ⟨w.heap.size, 1, none⟩)) (by kernel_rfl) (fun _ => by kernel_rfl)) LA.out ?_
  refine wpAnyH_take (i := 2) (oi := ⟨some 73, _, _, _, _, _⟩) rfl (by kernel_rfl) (by kernel_rfl) (by kernel_rfl) (fun _ _ _ h => h) (y_int w.heap.size 1 o (by kernel_rfl) (fun _ h => h.cell 1) (.tmp 72) (by kernel_rfl) rfl) LA.out ?_
  refine wpAnyH_take (i := 3) (oi := ⟨some 74, _, _, _, _, _⟩) rfl (by kernel_rfl) (by kernel_rfl) (by kernel_rfl) (fun _ _ _ h => h) (y_run (v := .pointer (some ⟨w.heap.size, 3, none⟩)) (by kernel_rfl) (fun _ => by kernel_rfl)) LA.out ?_
  refine wpAnyH_take (i := 4) (oi := ⟨some 75, _, _, _, _, _⟩) rfl (by kernel_rfl) (by kernel_rfl) (by kernel_rfl) (fun _ _ _ h => h) (y_int w.heap.size 3 f (by kernel_rfl) (fun _ h => h.cell 3) (.tmp 74) (by kernel_rfl) rfl) LA.out ?_
  refine wpAnyH_take (i := 6) (oi := ⟨some 77, _, _, _, _, _⟩) rfl (by kernel_rfl) (by kernel_rfl) (by kernel_rfl) (fun _ _ _ h => h) (y_run (v := .pointer (some ⟨r, 0, none⟩)) (by kernel_rfl) (fun _ => by kernel_rfl)) LA.out ?_
  refine wpAnyH_take (i := 7) (oi := ⟨some 78, _, _, _, _, _⟩) rfl (by kernel_rfl) (by kernel_rfl) (by kernel_rfl) (fun _ _ _ h => h) (y_run (v := .pointer (some ⟨w.heap.size, 3, none⟩)) (by kernel_rfl) (fun _ => by kernel_rfl)) LA.out ?_
  refine wpAnyH_take (i := 8) (oi := ⟨some 79, _, _, _, _, _⟩) rfl (by kernel_rfl) (by kernel_rfl) (by kernel_rfl) (fun _ _ _ h => h) (y_int w.heap.size 3 f (by kernel_rfl) (fun _ h => h.cell 3) (.tmp 78) (by kernel_rfl) rfl) LA.out ?_
  refine wpAnyH_take (i := 9) (oi := ⟨some 80, _, _, _, _, _⟩) rfl (by kernel_rfl) (by kernel_rfl) (by kernel_rfl) (fun _ _ _ h => h) (y_run (v := .pointer (some ⟨w.heap.size, 1, none⟩)) (by kernel_rfl) (fun _ => by kernel_rfl)) LA.out ?_
  refine wpAnyH_take (i := 10) (oi := ⟨some 81, _, _, _, _, _⟩) rfl (by kernel_rfl) (by kernel_rfl) (by kernel_rfl) (fun _ _ _ h => h) (y_int w.heap.size 1 o (by kernel_rfl) (fun _ h => h.cell 1) (.tmp 80) (by kernel_rfl) rfl) LA.out ?_
  simp only [Act.put, List.setIfInBounds_toArray, List.set_cons_zero, List.set_cons_succ]
  refine wpAnyH_ready (rs := [5]) (by kernel_rfl) (by simp) ?_
  refine AllReadyH.cons (o := ⟨some 76, .call _, _, _, _, _⟩) rfl (fun K hK => ?_) AllReadyH.nil
  go_simp
  have C1 := give_any t F o f os _ TA.out
  rw [← HP.out] at C1
  refine C1.mono ?_
  clear C1
  rintro _ w3 ⟨rfl, hT3, hO3⟩
  have L3 := Lib.hid (LA.out.kept hO3 (by simp; omega))
  have R3 := Lib.hid (RA.out.kept hO3 (by simp; exact ⟨a1.symm, a3.symm⟩) (by simp; exact ⟨a2.symm, a4.symm⟩))
  have O3 := Lib.hid ((OA.out.mono (S' := [t, F, r, G]) (by simp)).trans (hO3.mono (S' := [t, F, r, G]) (by simp)))
  have T3 := Lib.hid hT3
  refine hK.out _ _ L3.out (fun _ => ?_)
  clear hK K hT3 hO3 TA RA OA LA
  refine wpAnyH_ready (rs := [11]) (by kernel_rfl) (by simp) ?_
  refine AllReadyH.cons (o := ⟨some 82, .call _, _, _, _, _⟩) rfl (fun K hK => ?_) AllReadyH.nil
  go_simp
  have C2 := rmove_any r G f o 0 os _ R3.out
  rw [← HP.out] at C2
  refine C2.mono ?_
  clear C2
  rintro _ w4 ⟨rfl, hR4, hO4⟩
  have LX := Lib.hid (L3.out.kept hO4 (by simp; omega))
  have T4 := Lib.hid (T3.out.kept hO4 (by simp; exact a2) (by simp; exact a4))
  have O4 := Lib.hid (O3.out.trans (hO4.mono (S' := [t, F, r, G]) (by simp)))
  have R4 := Lib.hid hR4
  refine hK.out _ _ LX.out (fun _ => ?_)
  clear hK K hR4 hO4 T3 R3 O3 L3
  refine wpAnyH_take (i := 12) (oi := ⟨some 83, _, _, _, _, _⟩) rfl (by kernel_rfl) (by kernel_rfl) (by kernel_rfl) (fun _ _ _ h => h) (y_eqE tp.1 (by kernel_rfl) (.tmp 76) (.tmp 82) (by kernel_rfl) (by kernel_rfl) rfl) LX.out ?_
  refine wpAnyH_take (i := 13) (oi := ⟨some 6, _, _, _, _, _⟩) rfl (by kernel_rfl) (by kernel_rfl) (by kernel_rfl) (fun _ _ _ h => h) (y_run (v := .bool true) (by kernel_rfl) (fun _ => by kernel_rfl)) LX.out ?_
  refine wpAnyH_done (by kernel_rfl) ?_ _
  simp only [Act.put, List.setIfInBounds_toArray, List.set_cons_zero, List.set_cons_succ]
  refine NoPanic.normal ?_
  clear LX
  go_wp2_with fail
  go_ret
  exact ⟨rfl, ⟨T4.out, R4.out⟩, O4.out⟩
theorem do_any (B t F r G : Nat) (c : CallT) (os : List Nat) (w : World) (hT : Both w t F r G os) (hA : Away B t F r G) :
    Calls Try.prog 11 #[.pointer (some ⟨t, 0, none⟩), .pointer (some ⟨r, 0, none⟩), callV c] w fun e w' => e = .returned (.bool true) ∧ Both w' t F r G (doP c os) ∧ Only [t, F, r, G] w w' := by
  obtain ⟨k, o, p, f⟩ := c
  unfold doP
  by_cases h0 : k = 0
  · subst h0; exact do0_any B t F r G o p f os w hT hA
  by_cases h1 : k = 1
  · subst h1; exact do1_any B t F r G o p f os w hT hA
  by_cases h2 : k = 2
  · subst h2; exact do2_any B t F r G o p f os w hT hA
  by_cases h3 : k = 3
  · subst h3; exact do3_any B t F r G o p f os w hT hA
  by_cases h4 : k = 4
  · subst h4; exact do4_any B t F r G o p f os w hT hA
  simp only [h0, h1, h2, h3, h4, if_false]
  exact do5_any B t F r G k o p f os w hT hA h0 h1 h2 h3 h4
end Fr
end Go.Proofs.Ytgeagnpgcjjifaa
