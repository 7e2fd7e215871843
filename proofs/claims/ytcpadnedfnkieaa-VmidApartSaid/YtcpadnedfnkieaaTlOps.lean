/-
  What tlb's New, Find, DropAll, DropFrame and Clear answer. Conditions: that a TLB lies there; numbers are in their kind's range.
-/
import Derived.Test.YtcpadnedfnkieaaTlDel
import Derived.Test.YtcpadnedfnkieaaTlMath
namespace Go.Proofs.Ytcpadnedfnkieaa
open Go.RowKit Go.Maps Go.Shelf
namespace Tl
open Ph (Only)

theorem new_yes (n : Nat) (w : World) (h1 : 1 ≤ n) (h2 : n ≤ 64) :
    Calls Try.prog 19 #[.int .i64 n] w fun e w' => e = .returned (.tuple #[.pointer (some ⟨w.heap.size + 1, 0, none⟩), .int .i64 0]) ∧ Tlb w' (w.heap.size + 1) w.heap.size n 0 (List.replicate n none) ∧ Only [] w w' := by
  have hmm := @run_makeMap Try.prog
  have hL := Lib.hid (Lay.new (w.alloc (.map #[] 0)) 61 [.int .i64 n, .int .i64 0, .map (some w.heap.size)])
  have hH : Holds ((w.alloc (.map #[] 0)).alloc (.cells #[.int .i64 n, .int .i64 0, .map (some w.heap.size)] 61)) w.heap.size (List.replicate n none) :=
    Holds.of ((World.ownsMap_made w Try.prog 70 heldR).alloc _) (by rw [ents_none]) (by simpa using h2)
  have HH := Lib.hid hH
  clear hH
  go_enter Try.func19, Try.ntmps19
  go_wp2
  go_ret2
  have hL := hL.out
  rw [World.size_alloc] at hL
  exact ⟨rfl, ⟨hL.lt, hL.cell 0, hL.cell 1, hL.cell 2, hL.free 1, HH.out, by omega, by simp, h1, h2, by omega, good_none n⟩, (Only.alloc _ _ _).trans (Only.alloc _ _ _)⟩
theorem new_no (n : Int) (w : World) (h : n < 1 ∨ 64 < n) :
    Calls Try.prog 19 #[.int .i64 n] w fun e w' => e = .returned (.tuple #[.pointer none, .int .i64 11]) ∧ w = w' := by
  by_cases h1 : n < 1
  · clear h
    go_enter Try.func19, Try.ntmps19
    go_wp2
    go_ret2
    exact ⟨rfl, rfl⟩
  · have h2 : 64 < n := by omega
    clear h
    go_enter Try.func19, Try.ntmps19
    go_wp2
    go_ret2
    exact ⟨rfl, rfl⟩
set_option maxRecDepth 100000 in
/-- What a look-up gives. -/
theorem look_run {w : World} {p m room next : Nat} {ps : List (Option SlotT)} (hT : Tlb w p m room next ps) {a b : Int} (ha : W64 a) (hb : W64 b) :
    (Instr.lookup 59 (.map (some m)) (nameV a b) true).run Try.prog w = .ok (.tuple #[heldV ((findP a b 0 ps).getD zeroH), .bool (findP a b 0 ps).isSome]) w := by
  obtain ⟨es, hown, hperm⟩ := hT.map.own
  have hz : (zeroValue 65).run Try.prog w = .ok (heldV zeroH) w := by kernel_rfl
  obtain ⟨es0, e0, hap, _⟩ := hown.entries keyed
  injection e0 with e0
  subst e0
  obtain ⟨v, ps', hrun, hv⟩ := hown.look_ok keyed Try.underlying59 hz (heldR_mk zeroH) (key_at ha hb)
  rw [key_look hperm hap hT.good ha hb] at hv
  obtain ⟨h, rfl, e⟩ := heldR_inv hv
  injection e with e _
  injection e with e
  rw [has_at hperm hT.good ha hb, ← e] at hrun
  exact hrun
/-! ### The closures -/
theorem take_cl (n : Int) (b : Nat) (h : HeldT) (W : World) (hb : Lay W b 3 [.int .i64 n]) :
    Calls Try.prog 38 #[heldV h, .pointer (some ⟨b, 0, none⟩)] W fun e w' => e = .returned (.bool (decide (h.1 = n))) ∧ W.grownBy w' none := by
  have hlt := hb.lt
  have k0 := hb.cell 0
  simp only [List.getElem?_cons_zero] at k0
  clear hb
  go_enter Try.func38, Try.ntmps38
  go_wp2
  go_ret
  exact ⟨rfl, World.grownBy_alloc W _ none⟩

/-! ### What goes by them -/
theorem Tlb.hop {w w' : World} {p m room next next' : Nat} {ps : List (Option SlotT)} (h : Tlb w p m room next ps) (ho : Only [p] w w') (e0 : w'.cell? ⟨p, 0, none⟩ = w.cell? ⟨p, 0, none⟩) (e1 : w'.cell? ⟨p, 1, none⟩ = some (.int .i64 (next' : Int)))
    (e2 : w'.cell? ⟨p, 2, none⟩ = w.cell? ⟨p, 2, none⟩) (ef : w'.frozen? ⟨p, 1, none⟩ = false) (hn : next' < room) : Tlb w' p m room next' ps :=
  { h with lt := Nat.lt_of_lt_of_le h.lt ho.size, c0 := e0.trans h.c0, c1 := e1, c2 := e2.trans h.c2, f1 := ef, map := h.map.kept ho (by simp; exact fun e => h.ne e.symm), nlt := hn }
theorem Tlb.set1 {w : World} {p m room next : Nat} {ps : List (Option SlotT)} (h : Tlb w p m room next ps) (next' : Nat) (hn : next' < room) : Tlb (w.setCell ⟨p, 1, none⟩ (.int .i64 (next' : Int))) p m room next' ps ∧ Only [p] w (w.setCell ⟨p, 1, none⟩ (.int .i64 (next' : Int))) := by
  have ho : Only [p] w (w.setCell ⟨p, 1, none⟩ (.int .i64 (next' : Int))) := Only.setCell w (by simp) 1 _
  refine ⟨h.hop ho ?_ ?_ ?_ ?_ hn, ho⟩
  · exact World.cell?_setCell_other _ _ _ _ (fun e => by injection e with _ e; cases e)
  · exact World.cell?_setCell_same' _ _ _ (by rw [h.c1]; rfl)
  · exact World.cell?_setCell_other _ _ _ _ (fun e => by injection e with _ e; cases e)
  · rw [World.frozen?_setCell]; exact h.f1
theorem take_any (p m room next : Nat) (ps : List (Option SlotT)) (w : World) (hT : Tlb w p m room next ps) :
    Calls Try.prog 30 #[.pointer (some ⟨p, 0, none⟩)] w fun e w' => e = .returned (.int .i64 next) ∧ Tlb w' p m room ((next + 1) % room) (ps.set next none) ∧ Only [p, m] w w' := by
  have hml := hT.map.lt
  have hlt := hT.lt
  have k1 := hT.c1
  have hlow := hT.low
  have hhigh := hT.high
  have hnlt := hT.nlt
  have HC := Lib.hid (drop_any 38 #[.pointer (some ⟨w.heap.size, 0, none⟩)] (fun h => decide (h.1 = (next : Int))) p m room next ps _ (hT.kept (Only.alloc [] w (.cells #[.int .i64 next] 3)) (by simp) (by simp)) (enters_of Try.func38 (by kernel_rfl) rfl)
    (fun W h hW => take_cl next w.heap.size h W ((Lay.new w 3 [.int .i64 next]).kept hW (by simp; omega))))
  rw [show dropH (fun h => decide (h.1 = (next : Int))) 0 ps = ps.set next none from dropH_place next 0 ps (Nat.zero_le _)] at HC
  clear hT
  go_enter Try.func30, Try.ntmps30
  go_wp2_with (go_at_call 37; refine HC.out.mono ?_; rintro e w2 ⟨rfl, hT2, hO2⟩; have j0 := hT2.c0; have j1 := hT2.c1; have jf := hT2.f1; have hB : w2.cell? ⟨w.heap.size, 0, none⟩ = some (.int .i64 next) := (((Lay.new w 3 [.int .i64 next]).kept hO2 (by simp; omega)).cell 0))
  go_region
  have hmod : ((next : Int) + 1) % (room : Int) = (((next + 1) % room : Nat) : Int) := by push_cast; rfl
  rw [hmod]
  obtain ⟨hT3, hO3⟩ := hT2.set1 ((next + 1) % room) (Nat.mod_lt _ (by omega))
  have hT4 : Tlb (w2.setCell ⟨p, 1, none⟩ (.int .i64 (((next + 1) % room : Nat) : Int))).drew p m room ((next + 1) % room) (ps.set next none) := hT3.kept (Only.drewN [] _ 1) (by simp) (by simp)
  have hO4 : Only [p] w2 (w2.setCell ⟨p, 1, none⟩ (.int .i64 (((next + 1) % room : Nat) : Int))).drew := hO3.trans (Only.drewN _ _ 1)
  have hlt2 : w.heap.size < w2.heap.size := Nat.lt_of_lt_of_le (by simp) hO2.size
  have hB4 := (hO4.cell hlt2 (by simp; omega) 0).trans hB
  have HT := Lib.hid hT4
  have HO := Lib.hid (((Only.alloc [p, m] w (.cells #[.int .i64 next] 3)).trans (hO2.mono (by simp))).trans (hO4.mono (by simp)))
  clear hT2 hT3 hT4 hO2 hO3 hO4 j0 j1 jf hB hmod
  generalize ((w2.setCell ⟨p, 1, none⟩ (.int .i64 (((next + 1) % room : Nat) : Int))).drew) = w3 at *
  go_wp2
  go_ret
  exact ⟨rfl, HT.out, HO.out⟩
theorem dropc_map (ps : List (Option SlotT)) (g : SlotT → Bool) : (ps.map (off g)).length = ps.length := by simp
theorem clear_run {w : World} {m n : Nat} {D : DataW HeldT} (hown : w.ownsMap Try.prog 70 heldR m n D) : ∃ w', (∀ ty, (Builtin.clear_ #[59] ty #[.map (some m)]).run Try.prog w = .ok (.tuple #[]) w') ∧ w'.ownsMap Try.prog 70 heldR m 0 (.map []) ∧ Only [m] w w' := by
  obtain ⟨es, clock, hb, F, hs, hD⟩ := hown
  refine ⟨ChangeMaps.setBlock w m (.map #[] clock), fun ty => ?_, ⟨#[], clock, (MapKept.heap_set hb).1, ⟨by simp, MapKept.stamped_empty clock, by simp⟩, Nat.le_refl _, rfl⟩, ?_⟩
  · simp [Builtin.clear_, run_underlying Try.underlying59, MapKept.run_getObj_map hb, MapKept.run_setObj_map _ hb, Result.andThen, ChangeMaps.setBlock]
  · exact ⟨rfl, rfl, rfl, by simp [ChangeMaps.setBlock], fun k _ hk => (MapKept.heap_set hb).2 k (by simpa using hk)⟩
set_option maxRecDepth 100000 in
theorem clear_any (p m room next : Nat) (ps : List (Option SlotT)) (w : World) (hT : Tlb w p m room next ps) :
    Calls Try.prog 22 #[.pointer (some ⟨p, 0, none⟩)] w fun e w' => e = .returned (.tuple #[]) ∧ Tlb w' p m room 0 (List.replicate room none) ∧ Only [p, m] w w' := by
  obtain ⟨es, hown, hperm⟩ := hT.map.own
  obtain ⟨w1, hrun, hown1, hO1⟩ := clear_run hown
  have hT1 := hT.turned hO1 (by simp; exact hT.ne) (Holds.of hown1 (by rw [ents_none]) (by simpa using hT.high)) (by simp; exact hT.len.symm) (good_none room)
  obtain ⟨hT2, hO2⟩ := hT1.set1 0 (by have := hT.low; omega)
  have HT := Lib.hid hT2
  have HO := Lib.hid ((hO1.mono (S' := [p, m]) (by simp)).trans (hO2.mono (by simp)))
  have k2 := hT.c2
  have j1 := hT1.c1
  have jf := hT1.f1
  clear hT hT1 hT2 hO1 hO2 hown hown1
  go_enter Try.func22, Try.ntmps22
  go_wp2
  go_end0
  exact ⟨rfl, HT.out, HO.out⟩
end Tl
end Go.Proofs.Ytcpadnedfnkieaa
