/-
  What maps.DeleteFunc does to a TLB's map, and what (*Tlb).drop answers, whatever closure tells what goes. Conditions: that the closure writes nothing that lay, and the map stands for its places.
-/
import Derived.Test.YtcpadnedfnkieaaTlBase
import Derived.Lib.SlMapFilter
import Derived.Deep.LoopGhost
import Derived.Shelf.Abstract
namespace Go.Proofs.Ytcpadnedfnkieaa
open Go.RowKit Go.Maps Go.Shelf
namespace Tl
open Ph (Only)

set_option maxRecDepth 100000 in
set_option maxHeartbeats 4000000 in
theorem delete_any (pd : Lit → DataW HeldT → Bool) (g : Nat) (cb : Array Value) (b n : Nat) (D : DataW HeldT) (w : World)
    (eg : ∀ args w, (callFunc g args).run Try.prog w = .ok (.enter g args) w) (hown : w.ownsMap Try.prog 70 heldR b n D)
    (hdel : ∀ (W : World) (x y : Int) (h : HeldT), w.grownBy W (some b) → W64 x → W64 y →
      Calls Try.prog g (#[nameV x y, heldV h] ++ cb) W fun e w' => e = .returned (.bool (pd (keyL x y) (.held h))) ∧ W.grownBy w' none) :
    Calls Try.prog 42 #[.map (some b), .func (.func g) #[] cb] w fun e w' => e = .returned (.tuple #[]) ∧ w'.ownsMap Try.prog 70 heldR b n (Lib.deleteFuncD pd D) ∧ w.grownBy w' (some b) := by
  obtain ⟨es0, rfl, hap, hkeys⟩ := hown.entries keyed
  have HD := Lib.hid hdel
  clear hdel
  go_enter Try.func42, Try.ntmps42
  go_wp2_with (first
    | (at_range; refine wpList_range_own _ rfl _ 59 rfl 70 65 keyed Try.underlying59 heldR b n _ rfl hown ?_; intro w0 hrg0 hg0 hs0)
    | go_in)
  go_frame
  go_loopw [8] (fun _ wr => ∃ (left : Lit → Bool) (cnt : Nat), wr.ranges Try.prog 70 heldR b w.heap.size n (Fk pd es0 left) left cnt ∧ w.grownBy wr (some b))
    (fun _ wr => wr.rangeLeft b w.heap.size)
  case atStart => exact ⟨_, _, by rw [Fk_start hkeys]; exact hrg0, hg0.but _⟩
  case round =>
    obtain ⟨left, cnt, hrg, hgw⟩ := hrel
    go_wp2_with (first
      | (at_next; refine wpList_next_ranges _ rfl _ rfl 70 keyed heldR id id (fun key _ _ => ⟨key, rfl⟩) (fun v _ _ => ⟨v, rfl⟩) b w.heap.size n _ _ _ rfl hrg ?_ ?_)
      | go_in)
    · intro _ hl0
      go_wp2
      go_end0
      exact ⟨rfl, by rw [← Fk_end hl0]; exact hrg.owns, hgw⟩
    · intro x c kl yd yp w1 cnt1 hkey hlx hv hat hrg1 hlt hg1 hs1 hen
      obtain ⟨kx, ky, rfl, wx, wy, rfl⟩ := key_of hkey
      obtain ⟨c, rfl, ey⟩ := heldR_inv hv
      obtain ⟨rfl, rfl⟩ := Prod.mk.inj ey
      have hgw1 := hgw.andThen hg1 (fun j hj => by cases hj; exact Or.inl (Nat.le_refl _))
      have hbl := hrg1.owns.lt
      have hrl := hrg1.lt
      have hc : ∀ W, w1.grownBy W none → Calls Try.prog g (#[nameV kx ky, heldV c] ++ cb) W fun e w' => e = .returned (.bool (pd (keyL kx ky) (.held c))) ∧ W.grownBy w' none := fun W hW => HD.out W kx ky c (hgw1.andThen hW (fun j hj => by cases hj)) wx wy
      clear hs1
      cases hp : pd (keyL kx ky) (.held c) <;> rw [hp] at hc
      · go_wp2_with fail
        refine (hc _ ((World.grownBy_alloc w1 _ none).trans (World.grownBy_alloc _ _ none))).mono ?_
        rintro e w2 ⟨rfl, hg2⟩
        have hg12 := ((World.grownBy_alloc w1 _ none).trans (World.grownBy_alloc _ _ none)).trans hg2
        have hrg2 := hrg1.kept hg12 (by simp) (by simp)
        go_wp2
        go_roundw
        case rel => exact ⟨_, cnt1, by rw [← Fk_stays hap (keyed.key hkey) hlx hp hat]; exact hrg2, hgw1.andThen hg12 (fun j hj => by cases hj)⟩
        case measure => rw [hrg2.left_eq, hrg.left_eq]; exact hlt
      · go_wp2_with fail
        refine (hc _ ((World.grownBy_alloc w1 _ none).trans (World.grownBy_alloc _ _ none))).mono ?_
        rintro e w2 ⟨rfl, hg2⟩
        have hg12 := ((World.grownBy_alloc w1 _ none).trans (World.grownBy_alloc _ _ none)).trans hg2
        have hrg2 := hrg1.kept hg12 (by simp) (by simp)
        have L2 := ((Lay.new w1 70 [.int .i64 kx, .int .i64 ky]).alloc _).kept (only_grown0 hg2) (by simp)
        have k0 := L2.cell 0
        have k1 := L2.cell 1
        simp only [List.getElem?_cons_zero, List.getElem?_cons_succ] at k0 k1
        go_wp2_with (first
          | (at_delete; refine wpList_delete_ranges _ rfl _ _ 59 70 rfl 65 keyed Try.underlying59 heldR b w.heap.size n _ _ _ rfl hrg2 _ _ rfl hkey ?_; intro w3 cnt3 hrg3 hle hturn; go_frame)
          | go_in)
        rw [strike_twice] at hrg3
        go_roundw
        case rel => exact ⟨_, cnt3, by rw [← Fk_struck hap (keyed.key hkey) hlx hp hat]; exact hrg3, (hgw1.andThen hg12 (fun j hj => by cases hj)).andThen hturn.grown (fun j hj => by cases hj; exact Or.inr rfl)⟩
        case measure => rw [hrg3.left_eq, hrg.left_eq]; omega

/-- drop's own closure: what the closure that came in says. -/
theorem dropc_any (gf : Nat) (cb : Array Value) (r : Bool) (bx : Nat) (a b : Int) (h : HeldT) (W : World) (eg : ∀ args w, (callFunc gf args).run Try.prog w = .ok (.enter gf args) w)
    (hbox : Lay W bx 78 [.func (.func gf) #[] cb])
    (hc : ∀ W', W.grownBy W' none → Calls Try.prog gf (#[heldV h] ++ cb) W' fun e w' => e = .returned (.bool r) ∧ W'.grownBy w' none) :
    Calls Try.prog 43 #[nameV a b, heldV h, .pointer (some ⟨bx, 0, none⟩)] W fun e w' => e = .returned (.bool r) ∧ W.grownBy w' none := by
  have hlt := hbox.lt
  have k0 := hbox.cell 0
  simp only [List.getElem?_cons_zero] at k0
  clear hbox
  go_enter Try.func43, Try.ntmps43
  go_wp2_with fail
  refine (hc _ ((World.grownBy_alloc W _ none).trans (World.grownBy_alloc _ _ none))).mono ?_
  rintro e w2 ⟨rfl, hg2⟩
  go_wp2
  go_ret
  exact ⟨rfl, ((World.grownBy_alloc W _ none).trans (World.grownBy_alloc _ _ none)).trans hg2⟩
set_option maxRecDepth 100000 in
theorem drop_any (gf : Nat) (cb : Array Value) (g : HeldT → Bool) (p m room next : Nat) (ps : List (Option SlotT)) (w : World) (hT : Tlb w p m room next ps) (eg : ∀ args w, (callFunc gf args).run Try.prog w = .ok (.enter gf args) w)
    (hg : ∀ (W : World) (h : HeldT), Only [m] w W → Calls Try.prog gf (#[heldV h] ++ cb) W fun e w' => e = .returned (.bool (g h)) ∧ W.grownBy w' none) :
    Calls Try.prog 37 #[.pointer (some ⟨p, 0, none⟩), .func (.func gf) #[] cb] w fun e w' => e = .returned (.int .i64 ((count ps : Int) - count (dropH g 0 ps))) ∧ Tlb w' p m room next (dropH g 0 ps) ∧ Only [m] w w' := by
  have HT := Lib.hid hT
  obtain ⟨es, hown, hperm⟩ := hT.map.own
  have hes : es.length = count ps := by rw [hperm.length_eq, ents_len]; rfl
  have hperm' : (es.filter (fun x => !onHeld g x.2)).Perm (ents 0 (dropH g 0 ps)) := by rw [ents_dropH]; exact hperm.filter _
  have hes' : (es.filter (fun x => !onHeld g x.2)).length = count (dropH g 0 ps) := by rw [hperm'.length_eq, ents_len]; rfl
  have hm64 : count ps ≤ 64 := Nat.le_trans (count_le ps) (by rw [hT.len]; exact hT.high)
  have hle := dropH_count g 0 ps
  have k2 := hT.c2
  have hlt := hT.lt
  have hml := hT.map.lt
  have hcl : ∀ (W : World) (x y : Int) (h : HeldT), (w.alloc (.cells #[.func (.func gf) #[] cb] 78)).grownBy W (some m) → W64 x → W64 y →
      Calls Try.prog 43 (#[nameV x y, heldV h] ++ #[.pointer (some ⟨w.heap.size, 0, none⟩)]) W fun e w' => e = .returned (.bool ((fun _ d => onHeld g d) (keyL x y) (.held h))) ∧ W.grownBy w' none := fun W x y h hW _ _ =>
    dropc_any gf cb (g h) w.heap.size x y h W eg ((Lay.new w 78 [.func (.func gf) #[] cb]).kept (only_grown hW) (by simp; omega)) (fun W' hW' => hg W' h ((Only.alloc [m] w _).trans ((only_grown hW).trans ((only_grown0 hW').mono (by simp)))))
  have HC := Lib.hid (delete_any (fun _ d => onHeld g d) 43 #[.pointer (some ⟨w.heap.size, 0, none⟩)] m 64 (.map es) _ (enters_of Try.func43 (by kernel_rfl) rfl) (hown.alloc _) hcl)
  clear hcl hg eg hT
  have hql := dropH_len g 0 ps
  have hqg := HT.out.good.drop g 0
  generalize dropH g 0 ps = qs at hle hes' hperm' hql hqg ⊢
  generalize hD : es.filter (fun x => !onHeld g x.2) = es' at hes' hperm'
  go_enter Try.func37, Try.ntmps37
  go_wp2_with (first
    | (at_len; refine wpList_len_own _ rfl _ 59 rfl 70 65 Try.underlying59 heldR m 64 (.map es') rfl hown2 ?_)
    | (at_len; refine wpList_len_own _ rfl _ 59 rfl 70 65 Try.underlying59 heldR m 64 (.map es) rfl (hown.alloc _) ?_)
    | fail)
  refine HC.out.mono ?_
  rintro e w2 ⟨rfl, hown2, hg2⟩
  replace hown2 : w2.ownsMap Try.prog 70 heldR m 64 (.map es') := by rw [← hD]; exact hown2
  have hO : Only [m] w w2 := (Only.alloc [m] w _).trans (only_grown hg2)
  have k2' : w2.cell? ⟨p, 2, none⟩ = some (.map (some m)) := (hO.cell hlt (by simp; exact HT.out.ne) 2).trans k2
  have hs1 : Maps.size (DataW.map es) = count ps := hes
  have hs2 : Maps.size (DataW.map es') = count qs := hes'
  go_wp2_with (first
    | (at_len; refine wpList_len_own _ rfl _ 59 rfl 70 65 Try.underlying59 heldR m 64 (.map es') rfl hown2 ?_)
    | fail)
  go_ret
  exact ⟨rfl, HT.out.turned hO (by simp; exact HT.out.ne) (Holds.of hown2 hperm' (by rw [hql, HT.out.len]; exact HT.out.high)) hql hqg, hO⟩
end Tl
end Go.Proofs.Ytcpadnedfnkieaa
