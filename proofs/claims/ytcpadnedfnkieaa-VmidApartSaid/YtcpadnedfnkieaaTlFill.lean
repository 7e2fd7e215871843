/-
  What tlb's Drop and Fill answer. Conditions: that a TLB lies there; the numbers are in their kind's range.
-/
import Derived.Test.YtcpadnedfnkieaaTlOps
namespace Go.Proofs.Ytcpadnedfnkieaa
open Go.RowKit Go.Maps Go.Shelf
namespace Tl
open Ph (Only)

/-- What a builtin delete gives. -/
theorem del_run {w : World} {p m room next : Nat} {ps : List (Option SlotT)} (hT : Tlb w p m room next ps) {a b : Int} (ha : W64 a) (hb : W64 b) :
    ∃ w', (Builtin.delete_ #[59, 70] 0 #[.map (some m), nameV a b]).run Try.prog w = .ok (.tuple #[]) w' ∧ Tlb w' p m room next (delP a b ps) ∧ Only [m] w w' := by
  obtain ⟨es, hown, hperm⟩ := hT.map.own
  obtain ⟨w', hrun, hown', hturn⟩ := hown.drop keyed Try.underlying59 (key_at ha hb) 0
  obtain ⟨es', e, hperm'⟩ := del_perm hperm hT.good ha hb
  rw [e] at hown'
  have hl : (delP a b ps).length = ps.length := by unfold delP; simp
  exact ⟨w', hrun, hT.turned (only_grown hturn.grown) (by simp; exact hT.ne) (Holds.of hown' hperm' (by rw [hl, hT.len]; exact hT.high)) hl (hT.good.del a b), only_grown hturn.grown⟩
/-- What a store into the map gives. -/
theorem put_run {w : World} {p m room next : Nat} {ps : List (Option SlotT)} (hT : Tlb w p m room next ps) {s : SlotT} {i : Nat} (ha : W64 s.1) (hb : W64 s.2.1) (hi : i < room) (ho : delP s.1 s.2.1 ps = ps.set i none) :
    ∃ w', (Instr.mapUpdate 59 (.map (some m)) (nameV s.1 s.2.1) (heldV ((i : Int), s))).run Try.prog w = .ok () w' ∧ Tlb w' p m room next (ps.set i (some s)) ∧ Only [m] w w' := by
  obtain ⟨es, hown, hperm⟩ := hT.map.own
  obtain ⟨w', hrun, hown', hturn⟩ := hown.store keyed Try.underlying59 (by unfold maxLen; omega) (key_at ha hb) (heldR_mk ((i : Int), s))
  obtain ⟨es', e, hperm'⟩ := put_perm hperm hT.good ha hb (by rw [hT.len]; exact hi) ho
  rw [e] at hown'
  exact ⟨w', hrun, hT.turned (only_grown hturn.grown) (by simp; exact hT.ne) (Holds.of hown' hperm' (by simp; rw [hT.len]; exact hT.high)) (by simp) (hT.good.put ha hb ho), only_grown hturn.grown⟩
theorem six_stored {w : World} {B : Nat} {t : TypeId} {c0 c1 c2 c3 c4 c5 : Value} (h : Lay w B t [c0, c1, c2, c3, c4, c5]) (v0 v1 v2 v3 v4 v5 : Value) :
    Lay ((((((w.setCell ⟨B, 0, none⟩ v0).setCell ⟨B, 1, none⟩ v1).setCell ⟨B, 2, none⟩ v2).setCell ⟨B, 3, none⟩ v3).setCell ⟨B, 4, none⟩ v4).setCell ⟨B, 5, none⟩ v5) B t [v0, v1, v2, v3, v4, v5] ∧
    Only [B] w ((((((w.setCell ⟨B, 0, none⟩ v0).setCell ⟨B, 1, none⟩ v1).setCell ⟨B, 2, none⟩ v2).setCell ⟨B, 3, none⟩ v3).setCell ⟨B, 4, none⟩ v4).setCell ⟨B, 5, none⟩ v5) :=
  ⟨(((((h.set 0 v0).set 1 v1).set 2 v2).set 3 v3).set 4 v4).set 5 v5, (((((Only.setCell w (by simp) 0 v0).trans (Only.setCell _ (by simp) 1 v1)).trans (Only.setCell _ (by simp) 2 v2)).trans (Only.setCell _ (by simp) 3 v3)).trans (Only.setCell _ (by simp) 4 v4)).trans (Only.setCell _ (by simp) 5 v5)⟩
/-- The boxes of a Fill: the slot, the name, and (behind the look-up) the element. -/
theorem fill_boxes (w : World) (s : SlotT) : Lay ((w.alloc (.cells #[.int .i64 s.1, .int .i64 s.2.1, .int .i64 s.2.2.1, .bool s.2.2.2.1, .bool s.2.2.2.2] 49)).alloc (.cells #[.int .i64 s.1, .int .i64 s.2.1] 70)) w.heap.size 49 [.int .i64 s.1, .int .i64 s.2.1, .int .i64 s.2.2.1, .bool s.2.2.2.1, .bool s.2.2.2.2] ∧ Lay ((w.alloc (.cells #[.int .i64 s.1, .int .i64 s.2.1, .int .i64 s.2.2.1, .bool s.2.2.2.1, .bool s.2.2.2.2] 49)).alloc (.cells #[.int .i64 s.1, .int .i64 s.2.1] 70)) (w.heap.size + 1) 70 [.int .i64 s.1, .int .i64 s.2.1] ∧ Only [] w ((w.alloc (.cells #[.int .i64 s.1, .int .i64 s.2.1, .int .i64 s.2.2.1, .bool s.2.2.2.1, .bool s.2.2.2.2] 49)).alloc (.cells #[.int .i64 s.1, .int .i64 s.2.1] 70)) ∧ ((w.alloc (.cells #[.int .i64 s.1, .int .i64 s.2.1, .int .i64 s.2.2.1, .bool s.2.2.2.1, .bool s.2.2.2.2] 49)).alloc (.cells #[.int .i64 s.1, .int .i64 s.2.1] 70)).heap.size = w.heap.size + 1 + 1 := by
  have hz1 : (w.alloc (.cells #[.int .i64 s.1, .int .i64 s.2.1, .int .i64 s.2.2.1, .bool s.2.2.2.1, .bool s.2.2.2.2] 49)).heap.size = w.heap.size + 1 := World.size_alloc _ _
  refine ⟨(Lay.new w 49 [.int .i64 s.1, .int .i64 s.2.1, .int .i64 s.2.2.1, .bool s.2.2.2.1, .bool s.2.2.2.2]).alloc _, ?_, (Only.alloc _ _ _).trans (Only.alloc _ _ _), by rw [World.size_alloc, hz1]⟩
  rw [← hz1]
  exact Lay.new _ 70 [.int .i64 s.1, .int .i64 s.2.1]
set_option maxRecDepth 100000 in
theorem fill_new (p m room next : Nat) (ps : List (Option SlotT)) (s : SlotT) (w : World) (hT : Tlb w p m room next ps) (ha : W64 s.1) (hb : W64 s.2.1) (hf : findP s.1 s.2.1 0 ps = none) :
    Calls Try.prog 21 #[.pointer (some ⟨p, 0, none⟩), slotV s] w fun e w' => e = .returned (.tuple #[]) ∧ Tlb w' p m room ((next + 1) % room) (ps.set next (some s)) ∧ Only [p, m] w w' := by
  have hnr := Lib.hid hT.nlt
  obtain ⟨L0, L1, hO, hsz⟩ := fill_boxes w s
  have HT := Lib.hid (hT.kept hO (by simp) (by simp))
  have HO := Lib.hid hO
  have hlt0 := hT.lt
  have hml0 := hT.map.lt
  have H0 := Lib.hid L0
  have H1 := Lib.hid L1
  have HZ := Lib.hid hsz
  clear hT L0 L1 hO hsz
  go_enter Try.func21, Try.ntmps21
  go_wp2
  generalize ((w.alloc (.cells #[.int .i64 s.1, .int .i64 s.2.1, .int .i64 s.2.2.1, .bool s.2.2.2.1, .bool s.2.2.2.2] 49)).alloc (.cells #[.int .i64 s.1, .int .i64 s.2.1] 70)) = w1 at *
  have k2 := HT.out.c2
  have hlt := HT.out.lt
  have n0 := H1.out.cell 0
  have n1 := H1.out.cell 1
  simp only [List.getElem?_cons_zero, List.getElem?_cons_succ] at n0 n1
  have nlt := H1.out.lt
  have hr := look_run (HT.out.kept (Only.drewN [] _ 1) (by simp) (by simp)) ha hb
  have hr' := look_run ((HT.out.kept (Only.alloc [] _ (.cells #[.int .i64 0, .int .i64 0, .int .i64 0, .int .i64 0, .bool false, .bool false] 65)) (by simp) (by simp)).kept (Only.drewN [] _ 1) (by simp) (by simp)) ha hb
  rw [hf] at hr hr'
  replace hr : (Instr.lookup 59 (.map (some m)) (nameV s.1 s.2.1) true).run Try.prog w1.drew = .ok (.tuple #[.agg #[.int .i64 0, .int .i64 0, .int .i64 0, .int .i64 0, .bool false, .bool false], .bool false]) w1.drew := hr
  replace hr' : (Instr.lookup 59 (.map (some m)) (nameV s.1 s.2.1) true).run Try.prog (w1.alloc (.cells #[.int .i64 0, .int .i64 0, .int .i64 0, .int .i64 0, .bool false, .bool false] 65)).drew = .ok (.tuple #[.agg #[.int .i64 0, .int .i64 0, .int .i64 0, .int .i64 0, .bool false, .bool false], .bool false]) (w1.alloc (.cells #[.int .i64 0, .int .i64 0, .int .i64 0, .int .i64 0, .bool false, .bool false] 65)).drew := hr'
  go_region
  all_goals
    have hT2 : Tlb (w1.alloc (.cells #[.int .i64 0, .int .i64 0, .int .i64 0, .int .i64 0, .bool false, .bool false] 65)).drew p m room next ps := (HT.out.kept (Only.alloc [] _ _) (by simp) (by simp)).kept (Only.drewN [] _ 1) (by simp) (by simp)
    have L0 := (H0.out.alloc (.cells #[.int .i64 0, .int .i64 0, .int .i64 0, .int .i64 0, .bool false, .bool false] 65)).kept (Only.drewN [] _ 1) (by simp)
    have L1 := (H1.out.alloc (.cells #[.int .i64 0, .int .i64 0, .int .i64 0, .int .i64 0, .bool false, .bool false] 65)).kept (Only.drewN [] _ 1) (by simp)
    have L2 := (Lay.new w1 65 [.int .i64 0, .int .i64 0, .int .i64 0, .int .i64 0, .bool false, .bool false]).kept (Only.drewN [] _ 1) (by simp)
    have O2 := (HO.out.trans (Only.alloc [] _ (.cells #[.int .i64 0, .int .i64 0, .int .i64 0, .int .i64 0, .bool false, .bool false] 65))).trans (Only.drewN [] _ 1)
    change Lay (w1.alloc (.cells #[.int .i64 0, .int .i64 0, .int .i64 0, .int .i64 0, .bool false, .bool false] 65)).drew _ _ _ at L0 L1 L2
    change Only [] w (w1.alloc (.cells #[.int .i64 0, .int .i64 0, .int .i64 0, .int .i64 0, .bool false, .bool false] 65)).drew at O2
    clear hr hr' n0 n1 k2 HT H0 H1 HO nlt hlt
    have hsz := HZ.out
    rw [hsz] at L2
    rw [hsz]
    generalize (w1.alloc (.cells #[.int .i64 0, .int .i64 0, .int .i64 0, .int .i64 0, .bool false, .bool false] 65)).drew = w2 at *
    have HL0 := Lib.hid L0
    have HL1 := Lib.hid L1
    have HL2 := Lib.hid L2
    have HTT := Lib.hid hT2
    have HOO := Lib.hid O2
    clear L0 L1 L2 hT2 O2
    go_wp2_with fail
    refine (take_any p m room next ps _ HTT.out).mono ?_
    rintro e w3 ⟨rfl, hT3, hO3⟩
    have A0 := HL0.out.kept hO3 (by simp; omega)
    have A1 := HL1.out.kept hO3 (by simp; omega)
    have A2 := HL2.out.kept hO3 (by simp; omega)
    have f0 := A2.free 0
    have f1 := A2.free 1
    have f2 := A2.free 2
    have f3 := A2.free 3
    have f4 := A2.free 4
    have f5 := A2.free 5
    have z0 := A2.cell 0
    have z1 := A2.cell 1
    have z2 := A2.cell 2
    have z3 := A2.cell 3
    have z4 := A2.cell 4
    have z5 := A2.cell 5
    have s0 := A0.cell 0
    have s1 := A0.cell 1
    have s2 := A0.cell 2
    have s3 := A0.cell 3
    have s4 := A0.cell 4
    simp only [List.getElem?_cons_zero, List.getElem?_cons_succ] at z0 z1 z2 z3 z4 z5 s0 s1 s2 s3 s4
    have H1 := Lib.hid A1
    have H2 := Lib.hid A2
    have HT3 := Lib.hid hT3
    have HO3 := Lib.hid ((HOO.out.mono (by simp)).trans hO3)
    clear A0 A1 A2 hT3 hO3 HL0 HL1 HL2 HTT HOO
    go_wp2_with fail
    obtain ⟨B2, OB⟩ := six_stored H2.out (.int .i64 (next : Int)) (.int .i64 s.1) (.int .i64 s.2.1) (.int .i64 s.2.2.1) (.bool s.2.2.2.1) (.bool s.2.2.2.2)
    have B1 := H1.out.kept OB (by simp)
    have T4 := HT3.out.kept OB (by simp; omega) (by simp; omega)
    have OO := ((HO3.out.mono (S' := [p, m, w.heap.size + 1 + 1]) (by simp)).trans (OB.mono (by simp))).back (S' := [p, m]) (n := w.heap.size) (fun x hx => by simp at hx; rcases hx with rfl | rfl | rfl <;> simp; omega) (Nat.le_refl _)
    clear H1 H2 HT3 HO3 f0 f1 f2 f3 f4 f5 z0 z1 z2 z3 z4 z5 s0 s1 s2 s3 s4
    generalize ((((((w3.setCell ⟨w.heap.size + 1 + 1, 0, none⟩ (.int .i64 (next : Int))).setCell ⟨w.heap.size + 1 + 1, 1, none⟩ (.int .i64 s.1)).setCell ⟨w.heap.size + 1 + 1, 2, none⟩ (.int .i64 s.2.1)).setCell ⟨w.heap.size + 1 + 1, 3, none⟩ (.int .i64 s.2.2.1)).setCell ⟨w.heap.size + 1 + 1, 4, none⟩ (.bool s.2.2.2.1)).setCell ⟨w.heap.size + 1 + 1, 5, none⟩ (.bool s.2.2.2.2)) = w4 at *
    have hd : delP s.1 s.2.1 (ps.set next none) = (ps.set next none).set next none := del_taken hf
    obtain ⟨w5, hput, hT5, hO5⟩ := put_run (T4.kept (Only.drewN [] _ 1) (by simp) (by simp)) ha hb hnr.out hd
    rw [List.set_set] at hT5
    have k2 := T4.c2
    have n0 := B1.cell 0
    have n1 := B1.cell 1
    have z0 := B2.cell 0
    have z1 := B2.cell 1
    have z2 := B2.cell 2
    have z3 := B2.cell 3
    have z4 := B2.cell 4
    have z5 := B2.cell 5
    simp only [List.getElem?_cons_zero, List.getElem?_cons_succ] at z0 z1 z2 z3 z4 z5 n0 n1
    have HT5 := Lib.hid hT5
    have HO5 := Lib.hid ((OO.trans (Only.drewN _ _ 1)).trans (hO5.mono (by simp)))
    clear T4 B1 B2 OO hT5 hO5 OB hd hf
    change Sem.run Try.prog _ w4.drew = .ok () w5 at hput
    go_region
    go_wp2
    go_end0
    exact ⟨rfl, HT5.out, HO5.out⟩
theorem five_stored {w : World} {B : Nat} {t : TypeId} {c0 c1 c2 c3 c4 c5 : Value} (h : Lay w B t [c0, c1, c2, c3, c4, c5]) (v1 v2 v3 v4 v5 : Value) :
    Lay (((((w.setCell ⟨B, 1, none⟩ v1).setCell ⟨B, 2, none⟩ v2).setCell ⟨B, 3, none⟩ v3).setCell ⟨B, 4, none⟩ v4).setCell ⟨B, 5, none⟩ v5) B t [c0, v1, v2, v3, v4, v5] ∧
    Only [B] w (((((w.setCell ⟨B, 1, none⟩ v1).setCell ⟨B, 2, none⟩ v2).setCell ⟨B, 3, none⟩ v3).setCell ⟨B, 4, none⟩ v4).setCell ⟨B, 5, none⟩ v5) :=
  ⟨((((h.set 1 v1).set 2 v2).set 3 v3).set 4 v4).set 5 v5, ((((Only.setCell w (by simp) 1 v1).trans (Only.setCell _ (by simp) 2 v2)).trans (Only.setCell _ (by simp) 3 v3)).trans (Only.setCell _ (by simp) 4 v4)).trans (Only.setCell _ (by simp) 5 v5)⟩
set_option maxRecDepth 100000 in
theorem fill_old (p m room next : Nat) (ps : List (Option SlotT)) (s : SlotT) (w : World) (hT : Tlb w p m room next ps) (ha : W64 s.1) (hb : W64 s.2.1) {k : Nat} {o : SlotT} (hf : findP s.1 s.2.1 0 ps = some ((k : Int), o)) (hk : ps[k]? = some (some o)) (hn : named s.1 s.2.1 o = true) :
    Calls Try.prog 21 #[.pointer (some ⟨p, 0, none⟩), slotV s] w fun e w' => e = .returned (.tuple #[]) ∧ Tlb w' p m room next (ps.set k (some s)) ∧ Only [p, m] w w' := by
  have hnr := Lib.hid (show k < room by rw [← hT.len]; exact (List.getElem?_eq_some_iff.1 hk).1)
  have hd0 := Lib.hid (del_found hT.good hk hn)
  clear hk hn
  obtain ⟨L0, L1, hO, hsz⟩ := fill_boxes w s
  have HT := Lib.hid (hT.kept hO (by simp) (by simp))
  have HO := Lib.hid hO
  have hlt0 := hT.lt
  have hml0 := hT.map.lt
  have H0 := Lib.hid L0
  have H1 := Lib.hid L1
  have HZ := Lib.hid hsz
  clear hT L0 L1 hO hsz
  go_enter Try.func21, Try.ntmps21
  go_wp2
  generalize ((w.alloc (.cells #[.int .i64 s.1, .int .i64 s.2.1, .int .i64 s.2.2.1, .bool s.2.2.2.1, .bool s.2.2.2.2] 49)).alloc (.cells #[.int .i64 s.1, .int .i64 s.2.1] 70)) = w1 at *
  have k2 := HT.out.c2
  have hlt := HT.out.lt
  have n0 := H1.out.cell 0
  have n1 := H1.out.cell 1
  simp only [List.getElem?_cons_zero, List.getElem?_cons_succ] at n0 n1
  have nlt := H1.out.lt
  have hr := look_run (HT.out.kept (Only.drewN [] _ 1) (by simp) (by simp)) ha hb
  have hr' := look_run ((HT.out.kept (Only.alloc [] _ (.cells #[.int .i64 0, .int .i64 0, .int .i64 0, .int .i64 0, .bool false, .bool false] 65)) (by simp) (by simp)).kept (Only.drewN [] _ 1) (by simp) (by simp)) ha hb
  rw [hf] at hr hr'
  replace hr : (Instr.lookup 59 (.map (some m)) (nameV s.1 s.2.1) true).run Try.prog w1.drew = .ok (.tuple #[.agg #[.int .i64 (k : Int), .int .i64 o.1, .int .i64 o.2.1, .int .i64 o.2.2.1, .bool o.2.2.2.1, .bool o.2.2.2.2], .bool true]) w1.drew := hr
  replace hr' : (Instr.lookup 59 (.map (some m)) (nameV s.1 s.2.1) true).run Try.prog (w1.alloc (.cells #[.int .i64 0, .int .i64 0, .int .i64 0, .int .i64 0, .bool false, .bool false] 65)).drew = .ok (.tuple #[.agg #[.int .i64 (k : Int), .int .i64 o.1, .int .i64 o.2.1, .int .i64 o.2.2.1, .bool o.2.2.2.1, .bool o.2.2.2.2], .bool true]) (w1.alloc (.cells #[.int .i64 0, .int .i64 0, .int .i64 0, .int .i64 0, .bool false, .bool false] 65)).drew := hr'
  go_region
  all_goals
    have hT2 : Tlb (w1.alloc (.cells #[.int .i64 (k : Int), .int .i64 o.1, .int .i64 o.2.1, .int .i64 o.2.2.1, .bool o.2.2.2.1, .bool o.2.2.2.2] 65)).drew p m room next ps := (HT.out.kept (Only.alloc [] _ _) (by simp) (by simp)).kept (Only.drewN [] _ 1) (by simp) (by simp)
    have L0 := (H0.out.alloc (.cells #[.int .i64 (k : Int), .int .i64 o.1, .int .i64 o.2.1, .int .i64 o.2.2.1, .bool o.2.2.2.1, .bool o.2.2.2.2] 65)).kept (Only.drewN [] _ 1) (by simp)
    have L1 := (H1.out.alloc (.cells #[.int .i64 (k : Int), .int .i64 o.1, .int .i64 o.2.1, .int .i64 o.2.2.1, .bool o.2.2.2.1, .bool o.2.2.2.2] 65)).kept (Only.drewN [] _ 1) (by simp)
    have L2 := (Lay.new w1 65 [.int .i64 (k : Int), .int .i64 o.1, .int .i64 o.2.1, .int .i64 o.2.2.1, .bool o.2.2.2.1, .bool o.2.2.2.2]).kept (Only.drewN [] _ 1) (by simp)
    have O2 := (HO.out.trans (Only.alloc [] _ (.cells #[.int .i64 (k : Int), .int .i64 o.1, .int .i64 o.2.1, .int .i64 o.2.2.1, .bool o.2.2.2.1, .bool o.2.2.2.2] 65))).trans (Only.drewN [] _ 1)
    change Lay (w1.alloc (.cells #[.int .i64 (k : Int), .int .i64 o.1, .int .i64 o.2.1, .int .i64 o.2.2.1, .bool o.2.2.2.1, .bool o.2.2.2.2] 65)).drew _ _ _ at L0 L1 L2
    change Only [] w (w1.alloc (.cells #[.int .i64 (k : Int), .int .i64 o.1, .int .i64 o.2.1, .int .i64 o.2.2.1, .bool o.2.2.2.1, .bool o.2.2.2.2] 65)).drew at O2
    clear hr hr' n0 n1 k2 HT H0 H1 HO nlt hlt
    have hsz := HZ.out
    rw [hsz] at L2
    rw [hsz]
    generalize (w1.alloc (.cells #[.int .i64 (k : Int), .int .i64 o.1, .int .i64 o.2.1, .int .i64 o.2.2.1, .bool o.2.2.2.1, .bool o.2.2.2.2] 65)).drew = w2 at *
    have HL0 := Lib.hid L0
    have HL1 := Lib.hid L1
    have HL2 := Lib.hid L2
    have HTT := Lib.hid hT2
    have HOO := Lib.hid O2
    clear L0 L1 L2 hT2 O2
    have A0 := HL0.out
    have A1 := HL1.out
    have A2 := HL2.out
    have f0 := A2.free 0
    have f1 := A2.free 1
    have f2 := A2.free 2
    have f3 := A2.free 3
    have f4 := A2.free 4
    have f5 := A2.free 5
    have z0 := A2.cell 0
    have z1 := A2.cell 1
    have z2 := A2.cell 2
    have z3 := A2.cell 3
    have z4 := A2.cell 4
    have z5 := A2.cell 5
    have s0 := A0.cell 0
    have s1 := A0.cell 1
    have s2 := A0.cell 2
    have s3 := A0.cell 3
    have s4 := A0.cell 4
    simp only [List.getElem?_cons_zero, List.getElem?_cons_succ] at z0 z1 z2 z3 z4 z5 s0 s1 s2 s3 s4
    have H1 := Lib.hid A1
    have H2 := Lib.hid A2
    clear A0 A1 A2 HL0 HL1 HL2
    go_wp2_with fail
    obtain ⟨B2, OB⟩ := five_stored H2.out (.int .i64 s.1) (.int .i64 s.2.1) (.int .i64 s.2.2.1) (.bool s.2.2.2.1) (.bool s.2.2.2.2)
    have B1 := H1.out.kept OB (by simp)
    have T4 := HTT.out.kept OB (by simp; omega) (by simp; omega)
    have OO := ((HOO.out.mono (S' := [p, m, w.heap.size + 1 + 1]) (by simp)).trans (OB.mono (by simp))).back (S' := [p, m]) (n := w.heap.size) (fun x hx => by simp at hx; rcases hx with rfl | rfl | rfl <;> simp; omega) (Nat.le_refl _)
    clear H1 H2 HTT HOO f0 f1 f2 f3 f4 f5 z0 z1 z2 z3 z4 z5 s0 s1 s2 s3 s4
    generalize (((((w2.setCell ⟨w.heap.size + 1 + 1, 1, none⟩ (.int .i64 s.1)).setCell ⟨w.heap.size + 1 + 1, 2, none⟩ (.int .i64 s.2.1)).setCell ⟨w.heap.size + 1 + 1, 3, none⟩ (.int .i64 s.2.2.1)).setCell ⟨w.heap.size + 1 + 1, 4, none⟩ (.bool s.2.2.2.1)).setCell ⟨w.heap.size + 1 + 1, 5, none⟩ (.bool s.2.2.2.2)) = w4 at *
    have hd : delP s.1 s.2.1 ps = ps.set k none := hd0.out
    obtain ⟨w5, hput, hT5, hO5⟩ := put_run (T4.kept (Only.drewN [] _ 1) (by simp) (by simp)) ha hb hnr.out hd
    have k2 := T4.c2
    have n0 := B1.cell 0
    have n1 := B1.cell 1
    have z0 := B2.cell 0
    have z1 := B2.cell 1
    have z2 := B2.cell 2
    have z3 := B2.cell 3
    have z4 := B2.cell 4
    have z5 := B2.cell 5
    simp only [List.getElem?_cons_zero, List.getElem?_cons_succ] at z0 z1 z2 z3 z4 z5 n0 n1
    have HT5 := Lib.hid hT5
    have HO5 := Lib.hid ((OO.trans (Only.drewN _ _ 1)).trans (hO5.mono (by simp)))
    clear T4 B1 B2 OO hT5 hO5 OB hd hf
    change Sem.run Try.prog _ w4.drew = .ok () w5 at hput
    go_region
    go_wp2
    go_end0
    exact ⟨rfl, HT5.out, HO5.out⟩
theorem fill_any (p m room next : Nat) (ps : List (Option SlotT)) (s : SlotT) (w : World) (hT : Tlb w p m room next ps) (ha : W64 s.1) (hb : W64 s.2.1) :
    Calls Try.prog 21 #[.pointer (some ⟨p, 0, none⟩), slotV s] w fun e w' => e = .returned (.tuple #[]) ∧ Tlb w' p m room (fillN room next ps s) (fillP next ps s) ∧ Only [p, m] w w' := by
  cases hf : findP s.1 s.2.1 0 ps with
  | none =>
    unfold fillN fillP
    rw [hf]
    exact fill_new p m room next ps s w hT ha hb hf
  | some h =>
    unfold fillN fillP
    rw [hf]
    obtain ⟨k, o, hk, e, hn⟩ := findP_some hf
    rw [Nat.zero_add] at e
    subst e
    exact fill_old p m room next ps s w hT ha hb hf hk hn
end Tl
end Go.Proofs.Ytcpadnedfnkieaa
