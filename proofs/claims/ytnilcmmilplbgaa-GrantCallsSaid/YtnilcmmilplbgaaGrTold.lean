/-
  What the laws' told answers, and leaves: both sides answer the same. Conditions: that both lie there, apart, and their grants are ones.
-/
import Derived.Test.YtnilcmmilplbgaaGrTel
import Derived.Deep.RegionWith
import Derived.Deep.RegionHeld3
namespace Go.Proofs.Ytnilcmmilplbgaa
open Go.RowKit
namespace Gr
open Ph (Only)
set_option maxRecDepth 100000 in
set_option maxHeartbeats 4000000 in
theorem told0_any (b r G : Nat) (o n f t : Int) (v : Bool) (g : Nat → GtT) (w : World) (hT : Both w b r G g) :
    Calls Try.prog 11 #[.pointer (some ⟨b, 0, none⟩), .pointer (some ⟨r, 0, none⟩), .agg #[.int .i64 0, .int .i64 o, .int .i64 n, .int .i64 f, .int .i64 t, .bool v]] w fun e w' => e = .returned (.bool true) ∧ Both w' b r G ((offP g o f t v).2.2) ∧ Only [b, G] w w' := by
  have hL := Lay.new w 30 [.int .i64 0, .int .i64 o, .int .i64 n, .int .i64 f, .int .i64 t, .bool v]
  have hO := Only.alloc [] w (.cells #[.int .i64 0, .int .i64 o, .int .i64 n, .int .i64 f, .int .i64 t, .bool v] 30)
  have HT := Lib.hid (hT.kept hO (by simp) (by simp) (by simp))
  have HL := Lib.hid hL
  have HO := Lib.hid hO
  have a1 := hT.br
  have a2 := hT.bG
  have a3 := hT.q.ne
  have z1 := hT.p.lt
  have z2 := hT.q.lt
  have z3 := hT.q.row.lt
  have hbl := hL.lt
  have HG := Lib.hid hT.gv
  clear hT hL hO
  obtain ⟨tp, htp⟩ : ∃ tp, tp = offP g o f t v := ⟨_, rfl⟩
  rw [← htp]
  have HP := Lib.hid htp
  clear htp
  go_enter Try.func11, Try.ntmps11
  go_wp2_with fail
  have C1 := offer_any b o f t v g _ HT.out.p
  rw [← HP.out] at C1
  refine C1.mono ?_
  clear C1
  rintro e w3 ⟨rfl, hR3, hO3⟩
  have L3 := Lib.hid (HL.out.kept hO3 (by simp; omega))
  have R3 := Lib.hid hR3
  have Q3 := Lib.hid (HT.out.q.kept hO3 (by simp; exact a1.symm) (by simp; exact a2.symm))
  have O3 := Lib.hid ((HO.out.mono (S' := [b, G]) (by simp)).trans (hO3.mono (S' := [b, G]) (by simp)))
  have ez := L3.out.lt
  clear hR3 hO3 HT HL HO
  have e0 := L3.out.cell 0
  have e1 := L3.out.cell 1
  have e2 := L3.out.cell 2
  have e3 := L3.out.cell 3
  have e4 := L3.out.cell 4
  have e5 := L3.out.cell 5
  simp only [List.getElem?_cons_zero, List.getElem?_cons_succ] at e0 e1 e2 e3 e4 e5
  go_wp2_with fail
  have C2 := roffer_any r G o f t v g _ Q3.out HG.out
  rw [← HP.out] at C2
  refine C2.mono ?_
  clear C2
  rintro e w4 ⟨rfl, hQ4, hO4⟩
  have R4 := Lib.hid (R3.out.kept hO4 (by simp; exact a2))
  have O4 := Lib.hid (O3.out.trans (hO4.mono (S' := [b, G]) (by simp)))
  have Q4 := Lib.hid hQ4
  have V4 := Lib.hid (show Gv tp.2.2 by rw [HP.out]; exact gv_off HG.out o f t v)
  clear hQ4 hO4 R3 Q3 O3 L3 e0 e1 e2 e3 e4 e5 ez
  go_wp2_with fail
  go_ret
  exact ⟨rfl, ⟨R4.out, Q4.out, a1, a2, V4.out⟩, O4.out⟩
set_option maxRecDepth 100000 in
set_option maxHeartbeats 4000000 in
theorem told1_any (b r G : Nat) (o n f t : Int) (v : Bool) (g : Nat → GtT) (w : World) (hT : Both w b r G g) :
    Calls Try.prog 11 #[.pointer (some ⟨b, 0, none⟩), .pointer (some ⟨r, 0, none⟩), .agg #[.int .i64 1, .int .i64 o, .int .i64 n, .int .i64 f, .int .i64 t, .bool v]] w fun e w' => e = .returned (.bool true) ∧ Both w' b r G ((accP g n o f).2.2) ∧ Only [b, G] w w' := by
  have hL := Lay.new w 30 [.int .i64 1, .int .i64 o, .int .i64 n, .int .i64 f, .int .i64 t, .bool v]
  have hO := Only.alloc [] w (.cells #[.int .i64 1, .int .i64 o, .int .i64 n, .int .i64 f, .int .i64 t, .bool v] 30)
  have HT := Lib.hid (hT.kept hO (by simp) (by simp) (by simp))
  have HL := Lib.hid hL
  have HO := Lib.hid hO
  have a1 := hT.br
  have a2 := hT.bG
  have a3 := hT.q.ne
  have z1 := hT.p.lt
  have z2 := hT.q.lt
  have z3 := hT.q.row.lt
  have hbl := hL.lt
  have HG := Lib.hid hT.gv
  clear hT hL hO
  have hz : ∀ w, (zeroValue 37).run Try.prog w = .ok (gV gz) w := fun _ => by kernel_rfl
  have hzr : ∀ w, (zeroValue 32).run Try.prog w = .ok (gV gz) w := fun _ => by kernel_rfl
  obtain ⟨tp, htp⟩ : ∃ tp, tp = accP g n o f := ⟨_, rfl⟩
  rw [← htp]
  have HP := Lib.hid htp
  clear htp
  go_enter Try.func11, Try.ntmps11
  go_wp2_with fail
  have C1 := accept_any b n o f g _ HT.out.p HG.out
  rw [← HP.out] at C1
  refine C1.mono ?_
  clear C1
  rintro e w3 ⟨rfl, hR3, hO3⟩
  obtain ⟨⟨xs, xo, xf, xt, xp, xw⟩, code, ng⟩ := tp
  have L3 := Lib.hid (HL.out.kept hO3 (by simp; omega))
  have R3 := Lib.hid hR3
  have Q3 := Lib.hid (HT.out.q.kept hO3 (by simp; exact a1.symm) (by simp; exact a2.symm))
  have O3 := Lib.hid ((HO.out.mono (S' := [b, G]) (by simp)).trans (hO3.mono (S' := [b, G]) (by simp)))
  have ez := L3.out.lt
  have hO3G := hO3.size
  have hAl := HO.out.size
  clear hR3 hO3 HT HL HO
  have e0 := L3.out.cell 0
  have e1 := L3.out.cell 1
  have e2 := L3.out.cell 2
  have e3 := L3.out.cell 3
  have e4 := L3.out.cell 4
  have e5 := L3.out.cell 5
  simp only [List.getElem?_cons_zero, List.getElem?_cons_succ] at e0 e1 e2 e3 e4 e5
  have oA := Only.alloc [] w3 (.cells #[.int .i64 xs, .int .i64 xo, .int .i64 xf, .int .i64 xt, .int .i64 xp, .bool xw] 37)
  have R5 := Lib.hid (R3.out.kept oA (by simp))
  have Q5 := Lib.hid (Q3.out.kept oA (by simp) (by simp))
  have O5 := Lib.hid (O3.out.trans (oA.mono (by simp)))
  have B5 := Lib.hid (Lay.new w3 37 [.int .i64 xs, .int .i64 xo, .int .i64 xf, .int .i64 xt, .int .i64 xp, .bool xw])
  clear oA R3 Q3 O3
  go_wp2_with fail
  clear e0 e1 e2 e3 e4 e5 L3 ez
  change Hid (Row6 _ _ _) at R5
  generalize w3.alloc (.cells #[.int .i64 xs, .int .i64 xo, .int .i64 xf, .int .i64 xt, .int .i64 xp, .bool xw] 37) = u at *
  have C2 := raccept_any r G n o f g _ Q5.out
  rw [← HP.out] at C2
  refine C2.mono ?_
  clear C2
  rintro e w4 ⟨rfl, hQ4, hO4⟩
  have R4 := Lib.hid (R5.out.kept hO4 (by simp; exact a2))
  have O4 := Lib.hid (O5.out.trans (hO4.mono (S' := [b, G]) (by simp)))
  have Q4 := Lib.hid hQ4
  have B4 := Lib.hid (B5.out.kept hO4 (by simp; have := R5.out.lt; have := Q5.out.row.lt; have := B5.out.lt; have := hO3G; omega))
  have V4 := Lib.hid (show Gv ng by have h := gv_acc HG.out n o f; rw [← HP.out] at h; exact h)
  clear hQ4 hO4 R5 Q5 O5 B5 HP
  have oA := Only.alloc [] w4 (.cells #[.int .i64 xs, .int .i64 xo, .int .i64 xf, .int .i64 xt, .int .i64 xp, .bool xw] 32)
  have D5 := Lib.hid (show Both _ b r G ng from ⟨R4.out.kept oA (by simp), Q4.out.kept oA (by simp) (by simp), a1, a2, V4.out⟩)
  have O5 := Lib.hid (O4.out.trans (oA.mono (by simp)))
  have B5 := Lib.hid (B4.out.kept oA (by simp))
  have C5 := Lib.hid (Lay.new w4 32 [.int .i64 xs, .int .i64 xo, .int .i64 xf, .int .i64 xt, .int .i64 xp, .bool xw])
  clear oA R4 Q4 O4 B4 V4
  go_wp2_with fail
  generalize w4.alloc (.cells #[.int .i64 xs, .int .i64 xo, .int .i64 xf, .int .i64 xt, .int .i64 xp, .bool xw] 32) = y at *
  have l1 := B5.out.lt
  have l2 := C5.out.lt
  have p0 := B5.out.cell 0
  have p1 := B5.out.cell 1
  have p2 := B5.out.cell 2
  have p3 := B5.out.cell 3
  have p4 := B5.out.cell 4
  have p5 := B5.out.cell 5
  simp only [List.getElem?_cons_zero, List.getElem?_cons_succ] at p0 p1 p2 p3 p4 p5
  have q0 := C5.out.cell 0
  have q1 := C5.out.cell 1
  have q2 := C5.out.cell 2
  have q3 := C5.out.cell 3
  have q4 := C5.out.cell 4
  have q5 := C5.out.cell 5
  simp only [List.getElem?_cons_zero, List.getElem?_cons_succ] at q0 q1 q2 q3 q4 q5
  have CD : Hid (Lay y.drew w4.heap.size 32 [.int .i64 xs, .int .i64 xo, .int .i64 xf, .int .i64 xt, .int .i64 xp, .bool xw]) := Lib.hid (C5.out.kept (Only.drewN [] y 1) (by simp))
  have DD : Hid (Both y.drew b r G ng) := Lib.hid (D5.out.kept (Only.drewN [] y 1) (by simp) (by simp) (by simp))
  have OD : Hid (Only [b, G] w y.drew) := Lib.hid (O5.out.trans (Only.drewN _ y 1))
  clear D5 O5 B5
  have eE := eqlR (xs, xo, xf, xt, xp, xw) (xs, xo, xf, xt, xp, xw)
  rw [decide_eq_true rfl] at eE
  go_region_with (go_at_call 12; refine (of_any (xs, xo, xf, xt, xp, xw) _).mono ?_; rintro e w6 ⟨rfl, hO6⟩; have Y6 := CD.out.kept hO6 (by simp); have q0 := Y6.cell 0; have q1 := Y6.cell 1; have q2 := Y6.cell 2; have q3 := Y6.cell 3; have q4 := Y6.cell 4; have q5 := Y6.cell 5; simp only [List.getElem?_cons_zero, List.getElem?_cons_succ] at q0 q1 q2 q3 q4 q5; have l2 := Y6.lt)
  all_goals (go_wp2; go_ret; exact ⟨rfl, DD.out.kept hO6 (by simp) (by simp) (by simp), OD.out.trans (hO6.mono (by simp))⟩)
set_option maxRecDepth 100000 in
set_option maxHeartbeats 4000000 in
theorem told2_any (b r G : Nat) (o n f t : Int) (v : Bool) (g : Nat → GtT) (w : World) (hT : Both w b r G g) :
    Calls Try.prog 11 #[.pointer (some ⟨b, 0, none⟩), .pointer (some ⟨r, 0, none⟩), .agg #[.int .i64 2, .int .i64 o, .int .i64 n, .int .i64 f, .int .i64 t, .bool v]] w fun e w' => e = .returned (.bool true) ∧ Both w' b r G ((lveP g n o).2.2) ∧ Only [b, G] w w' := by
  have hL := Lay.new w 30 [.int .i64 2, .int .i64 o, .int .i64 n, .int .i64 f, .int .i64 t, .bool v]
  have hO := Only.alloc [] w (.cells #[.int .i64 2, .int .i64 o, .int .i64 n, .int .i64 f, .int .i64 t, .bool v] 30)
  have HT := Lib.hid (hT.kept hO (by simp) (by simp) (by simp))
  have HL := Lib.hid hL
  have HO := Lib.hid hO
  have a1 := hT.br
  have a2 := hT.bG
  have a3 := hT.q.ne
  have z1 := hT.p.lt
  have z2 := hT.q.lt
  have z3 := hT.q.row.lt
  have hbl := hL.lt
  have HG := Lib.hid hT.gv
  clear hT hL hO
  have hz : ∀ w, (zeroValue 37).run Try.prog w = .ok (gV gz) w := fun _ => by kernel_rfl
  have hzr : ∀ w, (zeroValue 32).run Try.prog w = .ok (gV gz) w := fun _ => by kernel_rfl
  obtain ⟨tp, htp⟩ : ∃ tp, tp = lveP g n o := ⟨_, rfl⟩
  rw [← htp]
  have HP := Lib.hid htp
  clear htp
  go_enter Try.func11, Try.ntmps11
  go_wp2_with fail
  have C1 := leave_any b n o g _ HT.out.p HG.out
  rw [← HP.out] at C1
  refine C1.mono ?_
  clear C1
  rintro e w3 ⟨rfl, hR3, hO3⟩
  obtain ⟨⟨xs, xo, xf, xt, xp, xw⟩, code, ng⟩ := tp
  have L3 := Lib.hid (HL.out.kept hO3 (by simp; omega))
  have R3 := Lib.hid hR3
  have Q3 := Lib.hid (HT.out.q.kept hO3 (by simp; exact a1.symm) (by simp; exact a2.symm))
  have O3 := Lib.hid ((HO.out.mono (S' := [b, G]) (by simp)).trans (hO3.mono (S' := [b, G]) (by simp)))
  have ez := L3.out.lt
  have hO3G := hO3.size
  have hAl := HO.out.size
  clear hR3 hO3 HT HL HO
  have e0 := L3.out.cell 0
  have e1 := L3.out.cell 1
  have e2 := L3.out.cell 2
  have e3 := L3.out.cell 3
  have e4 := L3.out.cell 4
  have e5 := L3.out.cell 5
  simp only [List.getElem?_cons_zero, List.getElem?_cons_succ] at e0 e1 e2 e3 e4 e5
  have oA := Only.alloc [] w3 (.cells #[.int .i64 xs, .int .i64 xo, .int .i64 xf, .int .i64 xt, .int .i64 xp, .bool xw] 37)
  have R5 := Lib.hid (R3.out.kept oA (by simp))
  have Q5 := Lib.hid (Q3.out.kept oA (by simp) (by simp))
  have O5 := Lib.hid (O3.out.trans (oA.mono (by simp)))
  have B5 := Lib.hid (Lay.new w3 37 [.int .i64 xs, .int .i64 xo, .int .i64 xf, .int .i64 xt, .int .i64 xp, .bool xw])
  clear oA R3 Q3 O3
  go_wp2_with fail
  clear e0 e1 e2 e3 e4 e5 L3 ez
  change Hid (Row6 _ _ _) at R5
  generalize w3.alloc (.cells #[.int .i64 xs, .int .i64 xo, .int .i64 xf, .int .i64 xt, .int .i64 xp, .bool xw] 37) = u at *
  have C2 := rleave_any r G n o g _ Q5.out
  rw [← HP.out] at C2
  refine C2.mono ?_
  clear C2
  rintro e w4 ⟨rfl, hQ4, hO4⟩
  have R4 := Lib.hid (R5.out.kept hO4 (by simp; exact a2))
  have O4 := Lib.hid (O5.out.trans (hO4.mono (S' := [b, G]) (by simp)))
  have Q4 := Lib.hid hQ4
  have B4 := Lib.hid (B5.out.kept hO4 (by simp; have := R5.out.lt; have := Q5.out.row.lt; have := B5.out.lt; have := hO3G; omega))
  have V4 := Lib.hid (show Gv ng by have h := gv_lve HG.out n o; rw [← HP.out] at h; exact h)
  clear hQ4 hO4 R5 Q5 O5 B5 HP
  have oA := Only.alloc [] w4 (.cells #[.int .i64 xs, .int .i64 xo, .int .i64 xf, .int .i64 xt, .int .i64 xp, .bool xw] 32)
  have D5 := Lib.hid (show Both _ b r G ng from ⟨R4.out.kept oA (by simp), Q4.out.kept oA (by simp) (by simp), a1, a2, V4.out⟩)
  have O5 := Lib.hid (O4.out.trans (oA.mono (by simp)))
  have B5 := Lib.hid (B4.out.kept oA (by simp))
  have C5 := Lib.hid (Lay.new w4 32 [.int .i64 xs, .int .i64 xo, .int .i64 xf, .int .i64 xt, .int .i64 xp, .bool xw])
  clear oA R4 Q4 O4 B4 V4
  go_wp2_with fail
  generalize w4.alloc (.cells #[.int .i64 xs, .int .i64 xo, .int .i64 xf, .int .i64 xt, .int .i64 xp, .bool xw] 32) = y at *
  have l1 := B5.out.lt
  have l2 := C5.out.lt
  have p0 := B5.out.cell 0
  have p1 := B5.out.cell 1
  have p2 := B5.out.cell 2
  have p3 := B5.out.cell 3
  have p4 := B5.out.cell 4
  have p5 := B5.out.cell 5
  simp only [List.getElem?_cons_zero, List.getElem?_cons_succ] at p0 p1 p2 p3 p4 p5
  have q0 := C5.out.cell 0
  have q1 := C5.out.cell 1
  have q2 := C5.out.cell 2
  have q3 := C5.out.cell 3
  have q4 := C5.out.cell 4
  have q5 := C5.out.cell 5
  simp only [List.getElem?_cons_zero, List.getElem?_cons_succ] at q0 q1 q2 q3 q4 q5
  have CD : Hid (Lay y.drew w4.heap.size 32 [.int .i64 xs, .int .i64 xo, .int .i64 xf, .int .i64 xt, .int .i64 xp, .bool xw]) := Lib.hid (C5.out.kept (Only.drewN [] y 1) (by simp))
  have DD : Hid (Both y.drew b r G ng) := Lib.hid (D5.out.kept (Only.drewN [] y 1) (by simp) (by simp) (by simp))
  have OD : Hid (Only [b, G] w y.drew) := Lib.hid (O5.out.trans (Only.drewN _ y 1))
  clear D5 O5 B5
  have eE := eqlR (xs, xo, xf, xt, xp, xw) (xs, xo, xf, xt, xp, xw)
  rw [decide_eq_true rfl] at eE
  go_region_with (go_at_call 12; refine (of_any (xs, xo, xf, xt, xp, xw) _).mono ?_; rintro e w6 ⟨rfl, hO6⟩; have Y6 := CD.out.kept hO6 (by simp); have q0 := Y6.cell 0; have q1 := Y6.cell 1; have q2 := Y6.cell 2; have q3 := Y6.cell 3; have q4 := Y6.cell 4; have q5 := Y6.cell 5; simp only [List.getElem?_cons_zero, List.getElem?_cons_succ] at q0 q1 q2 q3 q4 q5; have l2 := Y6.lt)
  all_goals (go_wp2; go_ret; exact ⟨rfl, DD.out.kept hO6 (by simp) (by simp) (by simp), OD.out.trans (hO6.mono (by simp))⟩)
set_option maxRecDepth 100000 in
set_option maxHeartbeats 4000000 in
theorem told3_any (b r G : Nat) (o n f t : Int) (v : Bool) (g : Nat → GtT) (w : World) (hT : Both w b r G g) :
    Calls Try.prog 11 #[.pointer (some ⟨b, 0, none⟩), .pointer (some ⟨r, 0, none⟩), .agg #[.int .i64 3, .int .i64 o, .int .i64 n, .int .i64 f, .int .i64 t, .bool v]] w fun e w' => e = .returned (.bool true) ∧ Both w' b r G ((revP g n o).2.2) ∧ Only [b, G] w w' := by
  have hL := Lay.new w 30 [.int .i64 3, .int .i64 o, .int .i64 n, .int .i64 f, .int .i64 t, .bool v]
  have hO := Only.alloc [] w (.cells #[.int .i64 3, .int .i64 o, .int .i64 n, .int .i64 f, .int .i64 t, .bool v] 30)
  have HT := Lib.hid (hT.kept hO (by simp) (by simp) (by simp))
  have HL := Lib.hid hL
  have HO := Lib.hid hO
  have a1 := hT.br
  have a2 := hT.bG
  have a3 := hT.q.ne
  have z1 := hT.p.lt
  have z2 := hT.q.lt
  have z3 := hT.q.row.lt
  have hbl := hL.lt
  have HG := Lib.hid hT.gv
  clear hT hL hO
  have hz : ∀ w, (zeroValue 37).run Try.prog w = .ok (gV gz) w := fun _ => by kernel_rfl
  have hzr : ∀ w, (zeroValue 32).run Try.prog w = .ok (gV gz) w := fun _ => by kernel_rfl
  obtain ⟨tp, htp⟩ : ∃ tp, tp = revP g n o := ⟨_, rfl⟩
  rw [← htp]
  have HP := Lib.hid htp
  clear htp
  go_enter Try.func11, Try.ntmps11
  go_wp2_with fail
  have C1 := revoke_any b n o g _ HT.out.p
  rw [← HP.out] at C1
  refine C1.mono ?_
  clear C1
  rintro e w3 ⟨rfl, hR3, hO3⟩
  obtain ⟨⟨xs, xo, xf, xt, xp, xw⟩, code, ng⟩ := tp
  have L3 := Lib.hid (HL.out.kept hO3 (by simp; omega))
  have R3 := Lib.hid hR3
  have Q3 := Lib.hid (HT.out.q.kept hO3 (by simp; exact a1.symm) (by simp; exact a2.symm))
  have O3 := Lib.hid ((HO.out.mono (S' := [b, G]) (by simp)).trans (hO3.mono (S' := [b, G]) (by simp)))
  have ez := L3.out.lt
  have hO3G := hO3.size
  have hAl := HO.out.size
  clear hR3 hO3 HT HL HO
  have e0 := L3.out.cell 0
  have e1 := L3.out.cell 1
  have e2 := L3.out.cell 2
  have e3 := L3.out.cell 3
  have e4 := L3.out.cell 4
  have e5 := L3.out.cell 5
  simp only [List.getElem?_cons_zero, List.getElem?_cons_succ] at e0 e1 e2 e3 e4 e5
  have oA := Only.alloc [] w3 (.cells #[.int .i64 xs, .int .i64 xo, .int .i64 xf, .int .i64 xt, .int .i64 xp, .bool xw] 37)
  have R5 := Lib.hid (R3.out.kept oA (by simp))
  have Q5 := Lib.hid (Q3.out.kept oA (by simp) (by simp))
  have O5 := Lib.hid (O3.out.trans (oA.mono (by simp)))
  have B5 := Lib.hid (Lay.new w3 37 [.int .i64 xs, .int .i64 xo, .int .i64 xf, .int .i64 xt, .int .i64 xp, .bool xw])
  clear oA R3 Q3 O3
  go_wp2_with fail
  clear e0 e1 e2 e3 e4 e5 L3 ez
  change Hid (Row6 _ _ _) at R5
  generalize w3.alloc (.cells #[.int .i64 xs, .int .i64 xo, .int .i64 xf, .int .i64 xt, .int .i64 xp, .bool xw] 37) = u at *
  have C2 := rrevoke_any r G n o g _ Q5.out
  rw [← HP.out] at C2
  refine C2.mono ?_
  clear C2
  rintro e w4 ⟨rfl, hQ4, hO4⟩
  have R4 := Lib.hid (R5.out.kept hO4 (by simp; exact a2))
  have O4 := Lib.hid (O5.out.trans (hO4.mono (S' := [b, G]) (by simp)))
  have Q4 := Lib.hid hQ4
  have B4 := Lib.hid (B5.out.kept hO4 (by simp; have := R5.out.lt; have := Q5.out.row.lt; have := B5.out.lt; have := hO3G; omega))
  have V4 := Lib.hid (show Gv ng by have h := gv_rev HG.out n o; rw [← HP.out] at h; exact h)
  clear hQ4 hO4 R5 Q5 O5 B5 HP
  have oA := Only.alloc [] w4 (.cells #[.int .i64 xs, .int .i64 xo, .int .i64 xf, .int .i64 xt, .int .i64 xp, .bool xw] 32)
  have D5 := Lib.hid (show Both _ b r G ng from ⟨R4.out.kept oA (by simp), Q4.out.kept oA (by simp) (by simp), a1, a2, V4.out⟩)
  have O5 := Lib.hid (O4.out.trans (oA.mono (by simp)))
  have B5 := Lib.hid (B4.out.kept oA (by simp))
  have C5 := Lib.hid (Lay.new w4 32 [.int .i64 xs, .int .i64 xo, .int .i64 xf, .int .i64 xt, .int .i64 xp, .bool xw])
  clear oA R4 Q4 O4 B4 V4
  go_wp2_with fail
  generalize w4.alloc (.cells #[.int .i64 xs, .int .i64 xo, .int .i64 xf, .int .i64 xt, .int .i64 xp, .bool xw] 32) = y at *
  have l1 := B5.out.lt
  have l2 := C5.out.lt
  have p0 := B5.out.cell 0
  have p1 := B5.out.cell 1
  have p2 := B5.out.cell 2
  have p3 := B5.out.cell 3
  have p4 := B5.out.cell 4
  have p5 := B5.out.cell 5
  simp only [List.getElem?_cons_zero, List.getElem?_cons_succ] at p0 p1 p2 p3 p4 p5
  have q0 := C5.out.cell 0
  have q1 := C5.out.cell 1
  have q2 := C5.out.cell 2
  have q3 := C5.out.cell 3
  have q4 := C5.out.cell 4
  have q5 := C5.out.cell 5
  simp only [List.getElem?_cons_zero, List.getElem?_cons_succ] at q0 q1 q2 q3 q4 q5
  have CD : Hid (Lay y.drew w4.heap.size 32 [.int .i64 xs, .int .i64 xo, .int .i64 xf, .int .i64 xt, .int .i64 xp, .bool xw]) := Lib.hid (C5.out.kept (Only.drewN [] y 1) (by simp))
  have DD : Hid (Both y.drew b r G ng) := Lib.hid (D5.out.kept (Only.drewN [] y 1) (by simp) (by simp) (by simp))
  have OD : Hid (Only [b, G] w y.drew) := Lib.hid (O5.out.trans (Only.drewN _ y 1))
  clear D5 O5 B5
  have eE := eqlR (xs, xo, xf, xt, xp, xw) (xs, xo, xf, xt, xp, xw)
  rw [decide_eq_true rfl] at eE
  go_region_with (go_at_call 12; refine (of_any (xs, xo, xf, xt, xp, xw) _).mono ?_; rintro e w6 ⟨rfl, hO6⟩; have Y6 := CD.out.kept hO6 (by simp); have q0 := Y6.cell 0; have q1 := Y6.cell 1; have q2 := Y6.cell 2; have q3 := Y6.cell 3; have q4 := Y6.cell 4; have q5 := Y6.cell 5; simp only [List.getElem?_cons_zero, List.getElem?_cons_succ] at q0 q1 q2 q3 q4 q5; have l2 := Y6.lt)
  all_goals (go_wp2; go_ret; exact ⟨rfl, DD.out.kept hO6 (by simp) (by simp) (by simp), OD.out.trans (hO6.mono (by simp))⟩)
set_option maxRecDepth 100000 in
set_option maxHeartbeats 4000000 in
theorem told5_any (b r G : Nat) (k o n f t : Int) (v : Bool) (g : Nat → GtT) (w : World) (hT : Both w b r G g) (n0 : k ≠ 0) (n1 : k ≠ 1) (n2 : k ≠ 2) (n3 : k ≠ 3) (n4 : k ≠ 4) :
    Calls Try.prog 11 #[.pointer (some ⟨b, 0, none⟩), .pointer (some ⟨r, 0, none⟩), .agg #[.int .i64 k, .int .i64 o, .int .i64 n, .int .i64 f, .int .i64 t, .bool v]] w fun e w' => e = .returned (.bool true) ∧ Both w' b r G (g) ∧ Only [b, G] w w' := by
  have hL := Lay.new w 30 [.int .i64 k, .int .i64 o, .int .i64 n, .int .i64 f, .int .i64 t, .bool v]
  have hO := Only.alloc [] w (.cells #[.int .i64 k, .int .i64 o, .int .i64 n, .int .i64 f, .int .i64 t, .bool v] 30)
  have HT := Lib.hid (hT.kept hO (by simp) (by simp) (by simp))
  have HL := Lib.hid hL
  have HO := Lib.hid hO
  have a1 := hT.br
  have a2 := hT.bG
  have a3 := hT.q.ne
  have z1 := hT.p.lt
  have z2 := hT.q.lt
  have z3 := hT.q.row.lt
  have hbl := hL.lt
  have HG := Lib.hid hT.gv
  clear hT hL hO
  have d0 : (k == 0) = false := by simp; exact n0
  have d1 : (k == 1) = false := by simp; exact n1
  have d2 : (k == 2) = false := by simp; exact n2
  have d3 : (k == 3) = false := by simp; exact n3
  have d4 : (k == 4) = false := by simp; exact n4
  clear n0 n1 n2 n3 n4
  go_enter Try.func11, Try.ntmps11
  go_wp2_with fail
  go_ret
  exact ⟨rfl, HT.out, HO.out.mono (by simp)⟩
theorem gonL_pre (t : Int) (g : Nat → GtT) (i : Nat) : ∀ n, i ≤ n → ∃ s, gonL t g n = gonL t g i ++ s
  | 0, h => by obtain rfl : i = 0 := by omega
               exact ⟨[], by simp⟩
  | n + 1, h => by
    by_cases e : i = n + 1
    · subst e; exact ⟨[], by simp⟩
    · obtain ⟨s, hs⟩ := gonL_pre t g i n (by omega)
      rw [gonL_next, hs]
      exact ⟨_, List.append_assoc _ _ _⟩
theorem gonL_get {t : Int} {g : Nat → GtT} {i : Nat} (hi : i < 32) (h : isOf t (g i) = true) : (gonL t g 32)[(gonL t g i).length]? = some (g i) := by
  obtain ⟨s, hs⟩ := gonL_pre t g (i + 1) 32 (by omega)
  rw [hs, gonL_next, if_pos h, List.append_assoc, List.getElem?_append_right (Nat.le_refl _), Nat.sub_self]
  rfl
theorem gonL_le (t : Int) (g : Nat → GtT) {i : Nat} (hi : i ≤ 32) : (gonL t g i).length ≤ (gonL t g 32).length := by
  obtain ⟨s, hs⟩ := gonL_pre t g i 32 hi
  rw [hs, List.length_append]
  omega
set_option maxRecDepth 100000 in
set_option maxHeartbeats 4000000 in
theorem told4_any (b r G : Nat) (o n f t : Int) (v : Bool) (g : Nat → GtT) (w : World) (hT : Both w b r G g) :
    Calls Try.prog 11 #[.pointer (some ⟨b, 0, none⟩), .pointer (some ⟨r, 0, none⟩), .agg #[.int .i64 4, .int .i64 o, .int .i64 n, .int .i64 f, .int .i64 t, .bool v]] w fun e w' => e = .returned (.bool true) ∧ Both w' b r G (gonP g o) ∧ Only [b, G] w w' := by
  have hL := Lay.new w 30 [.int .i64 4, .int .i64 o, .int .i64 n, .int .i64 f, .int .i64 t, .bool v]
  have hO := Only.alloc [] w (.cells #[.int .i64 4, .int .i64 o, .int .i64 n, .int .i64 f, .int .i64 t, .bool v] 30)
  have HT := Lib.hid (hT.kept hO (by simp) (by simp) (by simp))
  have HL := Lib.hid hL
  have HO := Lib.hid hO
  have a1 := hT.br
  have a2 := hT.bG
  have a3 := hT.q.ne
  have z1 := hT.p.lt
  have z2 := hT.q.lt
  have z3 := hT.q.row.lt
  have hbl := hL.lt
  have HG := Lib.hid hT.gv
  clear hT hL hO
  have hz : ∀ w, (zeroValue 37).run Try.prog w = .ok (gV gz) w := fun _ => by kernel_rfl
  have hzr : ∀ w, (zeroValue 32).run Try.prog w = .ok (gV gz) w := fun _ => by kernel_rfl
  go_enter Try.func11, Try.ntmps11
  go_wp2_with fail
  refine (gone_any b o g _ HT.out.p).mono ?_
  rintro e w3 ⟨vv, rfl, hS3, hR3, hO3⟩
  obtain ⟨va, vc, rfl⟩ := hS3.form
  have L3 := Lib.hid (HL.out.kept hO3 (by simp; omega))
  have D3 := Lib.hid (HT.out.q.kept hO3 (by simp; exact a1.symm) (by simp; exact a2.symm))
  have P3 := Lib.hid hR3
  have S3 := Lib.hid hS3
  have O3 := Lib.hid ((HO.out.mono (S' := [b, G]) (by simp)).trans (hO3.mono (S' := [b, G]) (by simp)))
  have GL := Lib.hid (gonL_len o g 32)
  clear hR3 hO3 hS3 HT HL HO
  go_wp2_with fail
  go_loopw [24, 25] (fun kk c wr => ∃ i : Nat, c = .int .i64 i ∧ i ≤ 32 ∧ kk = .int .i64 ((gonL o g i).length : Nat) ∧ Row6 wr b (gonP g o) ∧ RGr wr r G (gonN o g i) ∧ Seen (w.heap.size + 1) wr (.slice va (gonL o g 32).length vc) (gonL o g 32) ∧ Lay wr w.heap.size 30 [.int .i64 4, .int .i64 o, .int .i64 n, .int .i64 f, .int .i64 t, .bool v] ∧ Only [b, G] w wr) (fun _ c _ => 32 - (intOf c).toNat)
  case atStart => exact ⟨0, rfl, Nat.zero_le _, rfl, P3.out, by rw [gonN_zero]; exact D3.out, by simpa using S3.out, L3.out, O3.out⟩
  case round =>
    obtain ⟨i, rfl, hi, rfl, hP, hQ, hS, hLr, hOr⟩ := hrel
    have PR := Lib.hid hP
    have QR := Lib.hid hQ
    have SR := Lib.hid hS
    have LR := Lib.hid hLr
    have OR := Lib.hid hOr
    clear hP hQ hS hLr hOr P3 D3 S3 L3 O3
    by_cases hil : i < 32
    · have hh := QR.out.head
      have y1 := QR.out.lt
      have y2 := QR.out.row.lt
      have y3 := LR.out.lt
      have k0 := QR.out.row.c0 hil
      have k1 := QR.out.row.c1 hil
      have k2 := QR.out.row.c2 hil
      have k3 := QR.out.row.c3 hil
      have k4 := QR.out.row.c4 hil
      have k5 := QR.out.row.c5 hil
      have hpast := gonN_past o g (Nat.le_refl i)
      rw [hpast] at k0 k1 k2 k3 k4 k5
      have HNX := Lib.hid (gonN_next o g i)
      have HLX := Lib.hid (gonL_next o g i)
      have HGT := Lib.hid (fun h => gonL_get (t := o) (g := g) hil h)
      have HLE := Lib.hid (gonL_le o g (show i + 1 ≤ 32 by omega))
      have hof : isOf o (g i) = (sta (g i) != 0 && (own (g i) == o || too (g i) == o)) := rfl
      have HOF := Lib.hid hof
      clear hpast hof
      obtain ⟨x, hx⟩ : ∃ x, x = g i := ⟨_, rfl⟩
      rw [← hx] at k0 k1 k2 k3 k4 k5 HNX HLX HGT HOF
      clear hx
      obtain ⟨xs, xo, xf, xt, xp, xw⟩ := x
      have e0 := LR.out.cell 0
      have e1 := LR.out.cell 1
      have e2 := LR.out.cell 2
      have e3 := LR.out.cell 3
      have e4 := LR.out.cell 4
      have e5 := LR.out.cell 5
      simp only [List.getElem?_cons_zero, List.getElem?_cons_succ] at e0 e1 e2 e3 e4 e5
      have oA := Only.alloc [] wr (.cells #[.int .i64 xs, .int .i64 xo, .int .i64 xf, .int .i64 xt, .int .i64 xp, .bool xw] 32)
      have P5 := Lib.hid (PR.out.kept oA (by simp))
      have Q5 := Lib.hid (QR.out.kept oA (by simp) (by simp))
      have S5 := Lib.hid (SR.out.kept oA (by simp))
      have L5 := Lib.hid (LR.out.kept oA (by simp))
      have O5 := Lib.hid (OR.out.trans (oA.mono (by simp)))
      have B5 := Lib.hid (Lay.new wr 32 [.int .i64 xs, .int .i64 xo, .int .i64 xf, .int .i64 xt, .int .i64 xp, .bool xw])
      clear oA PR QR SR LR OR
      have KN := Lib.hid (show (gonL o g i).length = (gonL o g i).length from rfl)
      obtain ⟨K, hK⟩ : ∃ K, K = (gonL o g i).length := ⟨_, rfl⟩
      rw [← hK] at HGT ⊢
      have HK := Lib.hid hK
      clear hK KN
      have NOT := Lib.hid (fun (h : isOf o (xs, xo, xf, xt, xp, xw) = false) => (show gonL o g (i + 1) = gonL o g i ∧ gonN o g (i + 1) = gonN o g i from by rw [HLX.out, HNX.out, h]; simp))
      have YES := Lib.hid (fun (h : isOf o (xs, xo, xf, xt, xp, xw) = true) => (show (gonL o g (i + 1)).length = (gonL o g i).length + 1 ∧ gonN o g (i + 1) = upd (gonN o g i) i gz from by rw [HLX.out, HNX.out, h]; simp))
      clear HLX HNX
      cases d0 : xs == 0 with
      | true =>
        have hno : isOf o (xs, xo, xf, xt, xp, xw) = false := by rw [HOF.out]; simp only [sta, bne]; rw [d0]; rfl
        obtain ⟨n1, n2⟩ := NOT.out hno
        have N1 := Lib.hid n1
        have N2 := Lib.hid n2
        clear hno n1 n2 YES NOT HGT
        go_wp2_with fail
        go_roundw
        case rel => exact ⟨i + 1, by simp, by omega, by rw [N1.out, HK.out], P5.out, by rw [N2.out]; exact Q5.out, S5.out, L5.out, O5.out⟩
        case measure => simp only [intOf, Int.toNat_natCast]; omega
      | false =>
        cases d1 : xo != o with
        | false =>
          have hyes : isOf o (xs, xo, xf, xt, xp, xw) = true := by rw [HOF.out]; simp only [sta, own, too, bne] at d1 ⊢; rw [d0]; simp at d1 ⊢; exact Or.inl d1
          obtain ⟨n1, n2⟩ := YES.out hyes
          have hge := HGT.out hyes
          obtain ⟨bb, cc, hv, hbl2, hbB, hcc⟩ := S5.out.at hge
          injection hv with hv1 _ hv2
          subst hv1 hv2
          have hkl : K < (gonL o g 32).length := by have := HLE.out; have := HK.out; omega
          have hK32 : K < 32 := by have := GL.out; omega
          have hge' : ¬ (gonL o g 32).length ≤ K := by omega
          have hkI : (K : Int) < ((gonL o g 32).length : Nat) := by omega
          have hgd : decide (((gonL o g 32).length : Int) ≤ (K : Int)) = false := decide_eq_false (by omega)
          have g0 := hcc 0 (by omega)
          have g1 := hcc 1 (by omega)
          have g2 := hcc 2 (by omega)
          have g3 := hcc 3 (by omega)
          have g4 := hcc 4 (by omega)
          have g5 := hcc 5 (by omega)
          simp only [gC, Nat.add_zero] at g0 g1 g2 g3 g4 g5
          have N1 := Lib.hid n1
          have N2 := Lib.hid n2
          have eE := neqR (xs, xo, xf, xt, xp, xw) (xs, xo, xf, xt, xp, xw)
          rw [decide_eq_true rfl] at eE
          clear hyes n1 n2 YES NOT HGT hcc hge
          go_wp2_with fail
          generalize wr.alloc (.cells #[.int .i64 xs, .int .i64 xo, .int .i64 xf, .int .i64 xt, .int .i64 xp, .bool xw] 32) = u at *
          have hd := Only.drewN [] u 1
          have PD : Hid (Row6 u.drew b (gonP g o)) := Lib.hid (P5.out.kept hd (by simp))
          have QD : Hid (RGr u.drew r G (gonN o g i)) := Lib.hid (Q5.out.kept hd (by simp) (by simp))
          have SD : Hid (Seen (w.heap.size + 1) u.drew (.slice (some ⟨bb, 0, none⟩) (gonL o g 32).length vc) (gonL o g 32)) := Lib.hid (S5.out.kept hd (by simp))
          have LD : Hid (Lay u.drew w.heap.size 30 [.int .i64 4, .int .i64 o, .int .i64 n, .int .i64 f, .int .i64 t, .bool v]) := Lib.hid (L5.out.kept hd (by simp))
          have OD : Hid (Only [b, G] w u.drew) := Lib.hid (O5.out.trans (hd.mono (by simp)))
          have BD : Hid (Lay u.drew wr.heap.size 32 [.int .i64 xs, .int .i64 xo, .int .i64 xf, .int .i64 xt, .int .i64 xp, .bool xw]) := Lib.hid (B5.out.kept hd (by simp))
          have l2 := B5.out.lt
          have q0 := B5.out.cell 0
          have q1 := B5.out.cell 1
          have q2 := B5.out.cell 2
          have q3 := B5.out.cell 3
          have q4 := B5.out.cell 4
          have q5 := B5.out.cell 5
          simp only [List.getElem?_cons_zero, List.getElem?_cons_succ] at q0 q1 q2 q3 q4 q5
          have hbd : bb < u.drew.heap.size := hbl2
          change wr.heap.size < u.drew.heap.size at l2
          have hS : ∀ w', Only [] u.drew w' → (w'.cell? ⟨bb, K * 6, none⟩ = some (.int .i64 xs) ∧ w'.cell? ⟨bb, K * 6 + 1, none⟩ = some (.int .i64 xo) ∧ w'.cell? ⟨bb, K * 6 + 2, none⟩ = some (.int .i64 xf) ∧ w'.cell? ⟨bb, K * 6 + 3, none⟩ = some (.int .i64 xt) ∧ w'.cell? ⟨bb, K * 6 + 4, none⟩ = some (.int .i64 xp) ∧ w'.cell? ⟨bb, K * 6 + 5, none⟩ = some (.bool xw) ∧ w'.cell? ⟨wr.heap.size, 0, none⟩ = some (.int .i64 xs) ∧ w'.cell? ⟨wr.heap.size, 1, none⟩ = some (.int .i64 xo) ∧ w'.cell? ⟨wr.heap.size, 2, none⟩ = some (.int .i64 xf) ∧ w'.cell? ⟨wr.heap.size, 3, none⟩ = some (.int .i64 xt) ∧ w'.cell? ⟨wr.heap.size, 4, none⟩ = some (.int .i64 xp) ∧ w'.cell? ⟨wr.heap.size, 5, none⟩ = some (.bool xw)) := fun w' h => ⟨(h.cell hbd (by simp) _).trans g0, (h.cell hbd (by simp) _).trans g1, (h.cell hbd (by simp) _).trans g2, (h.cell hbd (by simp) _).trans g3, (h.cell hbd (by simp) _).trans g4, (h.cell hbd (by simp) _).trans g5, (h.cell l2 (by simp) _).trans q0, (h.cell l2 (by simp) _).trans q1, (h.cell l2 (by simp) _).trans q2, (h.cell l2 (by simp) _).trans q3, (h.cell l2 (by simp) _).trans q4, (h.cell l2 (by simp) _).trans q5⟩
          have HS := Lib.hid hS
          have DQ := Lib.hid (And.intro (And.intro g0 (And.intro g1 (And.intro g2 (And.intro g3 (And.intro g4 g5))))) (And.intro q0 (And.intro q1 (And.intro q2 (And.intro q3 (And.intro q4 q5))))))
          clear hS hd P5 Q5 S5 L5 O5 k0 k1 k2 k3 k4 k5 e0 e1 e2 e3 e4 e5
          go_region_held3 (fun w' => w'.cell? ⟨bb, K * 6, none⟩ = some (.int .i64 xs) ∧ w'.cell? ⟨bb, K * 6 + 1, none⟩ = some (.int .i64 xo) ∧ w'.cell? ⟨bb, K * 6 + 2, none⟩ = some (.int .i64 xf) ∧ w'.cell? ⟨bb, K * 6 + 3, none⟩ = some (.int .i64 xt) ∧ w'.cell? ⟨bb, K * 6 + 4, none⟩ = some (.int .i64 xp) ∧ w'.cell? ⟨bb, K * 6 + 5, none⟩ = some (.bool xw) ∧ w'.cell? ⟨wr.heap.size, 0, none⟩ = some (.int .i64 xs) ∧ w'.cell? ⟨wr.heap.size, 1, none⟩ = some (.int .i64 xo) ∧ w'.cell? ⟨wr.heap.size, 2, none⟩ = some (.int .i64 xf) ∧ w'.cell? ⟨wr.heap.size, 3, none⟩ = some (.int .i64 xt) ∧ w'.cell? ⟨wr.heap.size, 4, none⟩ = some (.int .i64 xp) ∧ w'.cell? ⟨wr.heap.size, 5, none⟩ = some (.bool xw)) (first | exact HS.out _ (Only.refl _ _) | exact HS.out _ hO6) (first | (go_at_call 12; refine (of_any (xs, xo, xf, xt, xp, xw) _).mono ?_; rintro e w6 ⟨rfl, hO6⟩))
          all_goals
            have P7 := Lib.hid (PD.out.kept hO6 (by simp))
            have Q7 := Lib.hid (QD.out.kept hO6 (by simp) (by simp))
            have S7 := Lib.hid (SD.out.kept hO6 (by simp))
            have L7 := Lib.hid (LD.out.kept hO6 (by simp))
            have O7 := Lib.hid (OD.out.trans (hO6.mono (by simp)))
            have hh := Q7.out.head
            have y1 := Q7.out.lt
            have y2 := Q7.out.row.lt
            have k0 := Q7.out.row.c0 hil
            have k1 := Q7.out.row.c1 hil
            have k2 := Q7.out.row.c2 hil
            have k3 := Q7.out.row.c3 hil
            have k4 := Q7.out.row.c4 hil
            have k5 := Q7.out.row.c5 hil
            have f0 : w6.frozen? ⟨G, i * 6, none⟩ = false := Q7.out.row.fz _ (by omega)
            have f1 : w6.frozen? ⟨G, i * 6 + 1, none⟩ = false := Q7.out.row.fz _ (by omega)
            have f2 : w6.frozen? ⟨G, i * 6 + 2, none⟩ = false := Q7.out.row.fz _ (by omega)
            have f3 : w6.frozen? ⟨G, i * 6 + 3, none⟩ = false := Q7.out.row.fz _ (by omega)
            have f4 : w6.frozen? ⟨G, i * 6 + 4, none⟩ = false := Q7.out.row.fz _ (by omega)
            have f5 : w6.frozen? ⟨G, i * 6 + 5, none⟩ = false := Q7.out.row.fz _ (by omega)
            clear hO6 PD QD SD LD OD BD q0 q1 q2 q3 q4 q5 g0 g1 g2 g3 g4 g5
            have oS := Lib.hid (only_set6 w6 G i gz)
            have Q8 := Lib.hid (Q7.out.with oS.out (by simp; exact a3) (Q7.out.row.set hil gz))
            have P8 := Lib.hid (P7.out.kept oS.out (by simp; exact a2))
            have L8 := Lib.hid (L7.out.kept oS.out (by simp; omega))
            have S8 := Lib.hid (S7.out.kept oS.out (by simp; omega))
            have O8 := Lib.hid (O7.out.trans (oS.out.mono (by simp)))
            clear P7 S7 L7 O7 oS
            unfold set6 at Q8 P8 L8 S8 O8
            go_wp2_with fail
            go_roundw
            case rel => exact ⟨i + 1, by simp, by omega, by rw [N1.out, HK.out]; simp, P8.out, by rw [N2.out]; exact Q8.out, S8.out, L8.out, O8.out⟩
            case measure => simp only [intOf, Int.toNat_natCast]; omega
        | true =>
          cases d2 : xt != o with
          | true =>
            have hno : isOf o (xs, xo, xf, xt, xp, xw) = false := by rw [HOF.out]; simp at d1 d2 ⊢; exact fun _ => ⟨d1, d2⟩
            obtain ⟨n1, n2⟩ := NOT.out hno
            have N1 := Lib.hid n1
            have N2 := Lib.hid n2
            clear hno n1 n2 YES NOT HGT
            go_wp2_with fail
            go_roundw
            case rel => exact ⟨i + 1, by simp, by omega, by rw [N1.out, HK.out], P5.out, by rw [N2.out]; exact Q5.out, S5.out, L5.out, O5.out⟩
            case measure => simp only [intOf, Int.toNat_natCast]; omega
          | false =>
            have hyes : isOf o (xs, xo, xf, xt, xp, xw) = true := by rw [HOF.out]; simp at d0 d2 ⊢; exact ⟨d0, Or.inr d2⟩
            obtain ⟨n1, n2⟩ := YES.out hyes
            have hge := HGT.out hyes
            obtain ⟨bb, cc, hv, hbl2, hbB, hcc⟩ := S5.out.at hge
            injection hv with hv1 _ hv2
            subst hv1 hv2
            have hkl : K < (gonL o g 32).length := by have := HLE.out; have := HK.out; omega
            have hK32 : K < 32 := by have := GL.out; omega
            have hge' : ¬ (gonL o g 32).length ≤ K := by omega
            have hkI : (K : Int) < ((gonL o g 32).length : Nat) := by omega
            have hgd : decide (((gonL o g 32).length : Int) ≤ (K : Int)) = false := decide_eq_false (by omega)
            have g0 := hcc 0 (by omega)
            have g1 := hcc 1 (by omega)
            have g2 := hcc 2 (by omega)
            have g3 := hcc 3 (by omega)
            have g4 := hcc 4 (by omega)
            have g5 := hcc 5 (by omega)
            simp only [gC, Nat.add_zero] at g0 g1 g2 g3 g4 g5
            have N1 := Lib.hid n1
            have N2 := Lib.hid n2
            have eE := neqR (xs, xo, xf, xt, xp, xw) (xs, xo, xf, xt, xp, xw)
            rw [decide_eq_true rfl] at eE
            clear hyes n1 n2 YES NOT HGT hcc hge
            go_wp2_with fail
            generalize wr.alloc (.cells #[.int .i64 xs, .int .i64 xo, .int .i64 xf, .int .i64 xt, .int .i64 xp, .bool xw] 32) = u at *
            have hd := Only.drewN [] u 1
            have PD : Hid (Row6 u.drew b (gonP g o)) := Lib.hid (P5.out.kept hd (by simp))
            have QD : Hid (RGr u.drew r G (gonN o g i)) := Lib.hid (Q5.out.kept hd (by simp) (by simp))
            have SD : Hid (Seen (w.heap.size + 1) u.drew (.slice (some ⟨bb, 0, none⟩) (gonL o g 32).length vc) (gonL o g 32)) := Lib.hid (S5.out.kept hd (by simp))
            have LD : Hid (Lay u.drew w.heap.size 30 [.int .i64 4, .int .i64 o, .int .i64 n, .int .i64 f, .int .i64 t, .bool v]) := Lib.hid (L5.out.kept hd (by simp))
            have OD : Hid (Only [b, G] w u.drew) := Lib.hid (O5.out.trans (hd.mono (by simp)))
            have BD : Hid (Lay u.drew wr.heap.size 32 [.int .i64 xs, .int .i64 xo, .int .i64 xf, .int .i64 xt, .int .i64 xp, .bool xw]) := Lib.hid (B5.out.kept hd (by simp))
            have l2 := B5.out.lt
            have q0 := B5.out.cell 0
            have q1 := B5.out.cell 1
            have q2 := B5.out.cell 2
            have q3 := B5.out.cell 3
            have q4 := B5.out.cell 4
            have q5 := B5.out.cell 5
            simp only [List.getElem?_cons_zero, List.getElem?_cons_succ] at q0 q1 q2 q3 q4 q5
            have hbd : bb < u.drew.heap.size := hbl2
            change wr.heap.size < u.drew.heap.size at l2
            have hS : ∀ w', Only [] u.drew w' → (w'.cell? ⟨bb, K * 6, none⟩ = some (.int .i64 xs) ∧ w'.cell? ⟨bb, K * 6 + 1, none⟩ = some (.int .i64 xo) ∧ w'.cell? ⟨bb, K * 6 + 2, none⟩ = some (.int .i64 xf) ∧ w'.cell? ⟨bb, K * 6 + 3, none⟩ = some (.int .i64 xt) ∧ w'.cell? ⟨bb, K * 6 + 4, none⟩ = some (.int .i64 xp) ∧ w'.cell? ⟨bb, K * 6 + 5, none⟩ = some (.bool xw) ∧ w'.cell? ⟨wr.heap.size, 0, none⟩ = some (.int .i64 xs) ∧ w'.cell? ⟨wr.heap.size, 1, none⟩ = some (.int .i64 xo) ∧ w'.cell? ⟨wr.heap.size, 2, none⟩ = some (.int .i64 xf) ∧ w'.cell? ⟨wr.heap.size, 3, none⟩ = some (.int .i64 xt) ∧ w'.cell? ⟨wr.heap.size, 4, none⟩ = some (.int .i64 xp) ∧ w'.cell? ⟨wr.heap.size, 5, none⟩ = some (.bool xw)) := fun w' h => ⟨(h.cell hbd (by simp) _).trans g0, (h.cell hbd (by simp) _).trans g1, (h.cell hbd (by simp) _).trans g2, (h.cell hbd (by simp) _).trans g3, (h.cell hbd (by simp) _).trans g4, (h.cell hbd (by simp) _).trans g5, (h.cell l2 (by simp) _).trans q0, (h.cell l2 (by simp) _).trans q1, (h.cell l2 (by simp) _).trans q2, (h.cell l2 (by simp) _).trans q3, (h.cell l2 (by simp) _).trans q4, (h.cell l2 (by simp) _).trans q5⟩
            have HS := Lib.hid hS
            have DQ := Lib.hid (And.intro (And.intro g0 (And.intro g1 (And.intro g2 (And.intro g3 (And.intro g4 g5))))) (And.intro q0 (And.intro q1 (And.intro q2 (And.intro q3 (And.intro q4 q5))))))
            clear hS hd P5 Q5 S5 L5 O5 k0 k1 k2 k3 k4 k5 e0 e1 e2 e3 e4 e5
            go_region_held3 (fun w' => w'.cell? ⟨bb, K * 6, none⟩ = some (.int .i64 xs) ∧ w'.cell? ⟨bb, K * 6 + 1, none⟩ = some (.int .i64 xo) ∧ w'.cell? ⟨bb, K * 6 + 2, none⟩ = some (.int .i64 xf) ∧ w'.cell? ⟨bb, K * 6 + 3, none⟩ = some (.int .i64 xt) ∧ w'.cell? ⟨bb, K * 6 + 4, none⟩ = some (.int .i64 xp) ∧ w'.cell? ⟨bb, K * 6 + 5, none⟩ = some (.bool xw) ∧ w'.cell? ⟨wr.heap.size, 0, none⟩ = some (.int .i64 xs) ∧ w'.cell? ⟨wr.heap.size, 1, none⟩ = some (.int .i64 xo) ∧ w'.cell? ⟨wr.heap.size, 2, none⟩ = some (.int .i64 xf) ∧ w'.cell? ⟨wr.heap.size, 3, none⟩ = some (.int .i64 xt) ∧ w'.cell? ⟨wr.heap.size, 4, none⟩ = some (.int .i64 xp) ∧ w'.cell? ⟨wr.heap.size, 5, none⟩ = some (.bool xw)) (first | exact HS.out _ (Only.refl _ _) | exact HS.out _ hO6) (first | (go_at_call 12; refine (of_any (xs, xo, xf, xt, xp, xw) _).mono ?_; rintro e w6 ⟨rfl, hO6⟩))
            all_goals
              have P7 := Lib.hid (PD.out.kept hO6 (by simp))
              have Q7 := Lib.hid (QD.out.kept hO6 (by simp) (by simp))
              have S7 := Lib.hid (SD.out.kept hO6 (by simp))
              have L7 := Lib.hid (LD.out.kept hO6 (by simp))
              have O7 := Lib.hid (OD.out.trans (hO6.mono (by simp)))
              have hh := Q7.out.head
              have y1 := Q7.out.lt
              have y2 := Q7.out.row.lt
              have k0 := Q7.out.row.c0 hil
              have k1 := Q7.out.row.c1 hil
              have k2 := Q7.out.row.c2 hil
              have k3 := Q7.out.row.c3 hil
              have k4 := Q7.out.row.c4 hil
              have k5 := Q7.out.row.c5 hil
              have f0 : w6.frozen? ⟨G, i * 6, none⟩ = false := Q7.out.row.fz _ (by omega)
              have f1 : w6.frozen? ⟨G, i * 6 + 1, none⟩ = false := Q7.out.row.fz _ (by omega)
              have f2 : w6.frozen? ⟨G, i * 6 + 2, none⟩ = false := Q7.out.row.fz _ (by omega)
              have f3 : w6.frozen? ⟨G, i * 6 + 3, none⟩ = false := Q7.out.row.fz _ (by omega)
              have f4 : w6.frozen? ⟨G, i * 6 + 4, none⟩ = false := Q7.out.row.fz _ (by omega)
              have f5 : w6.frozen? ⟨G, i * 6 + 5, none⟩ = false := Q7.out.row.fz _ (by omega)
              clear hO6 PD QD SD LD OD BD q0 q1 q2 q3 q4 q5 g0 g1 g2 g3 g4 g5
              have oS := Lib.hid (only_set6 w6 G i gz)
              have Q8 := Lib.hid (Q7.out.with oS.out (by simp; exact a3) (Q7.out.row.set hil gz))
              have P8 := Lib.hid (P7.out.kept oS.out (by simp; exact a2))
              have L8 := Lib.hid (L7.out.kept oS.out (by simp; omega))
              have S8 := Lib.hid (S7.out.kept oS.out (by simp; omega))
              have O8 := Lib.hid (O7.out.trans (oS.out.mono (by simp)))
              clear P7 S7 L7 O7 oS
              unfold set6 at Q8 P8 L8 S8 O8
              go_wp2_with fail
              go_roundw
              case rel => exact ⟨i + 1, by simp, by omega, by rw [N1.out, HK.out]; simp, P8.out, by rw [N2.out]; exact Q8.out, S8.out, L8.out, O8.out⟩
              case measure => simp only [intOf, Int.toNat_natCast]; omega
    · obtain rfl : i = 32 := by omega
      clear hi
      go_wp2_with fail
      go_ret
      have V := gv_gon HG.out o
      exact ⟨rfl, ⟨PR.out, QR.out, a1, a2, V⟩, OR.out⟩
theorem told_any (b r G : Nat) (c : GCallsT) (g : Nat → GtT) (w : World) (hT : Both w b r G g) :
    Calls Try.prog 11 #[.pointer (some ⟨b, 0, none⟩), .pointer (some ⟨r, 0, none⟩), GCallsV c] w fun e w' => e = .returned (.bool true) ∧ Both w' b r G (toldP c g) ∧ Only [b, G] w w' := by
  obtain ⟨k, o, n, f, t, v⟩ := c
  unfold toldP
  by_cases h0 : k = 0
  · subst h0; exact told0_any b r G o n f t v g w hT
  by_cases h1 : k = 1
  · subst h1; exact told1_any b r G o n f t v g w hT
  by_cases h2 : k = 2
  · subst h2; exact told2_any b r G o n f t v g w hT
  by_cases h3 : k = 3
  · subst h3; exact told3_any b r G o n f t v g w hT
  by_cases h4 : k = 4
  · subst h4; exact told4_any b r G o n f t v g w hT
  simp only [h0, h1, h2, h3, h4, if_false]
  exact told5_any b r G k o n f t v g w hT h0 h1 h2 h3 h4
end Gr
end Go.Proofs.Ytnilcmmilplbgaa
