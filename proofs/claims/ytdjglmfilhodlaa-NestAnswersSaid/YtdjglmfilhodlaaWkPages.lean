/-
  What walk's Pages answers, at every argument; conditions: that a memory lies there, and that each argument is of its Go type.
-/
import Derived.Test.YtdjglmfilhodlaaWkLook
namespace Go.Proofs.Ytdjglmfilhodlaa
open Go.RowKit Nt
namespace Wk
open Ph En
theorem owns_kept {w w' : World} {B : Nat} {t : TypeId} {size : Nat} {v : Value} {n : Nat} {xs : List Value} {S : List Nat} (h : w.ownsRow B t size v n xs) (ho : Only S w w') (hs : ∀ x ∈ S, v.ownBlock ≠ some x) : w'.ownsRow B t size v n xs := by
  refine ⟨h.1, h.2.imp id ?_⟩
  rintro ⟨g, cap, cur, rfl, h2, h3, h4⟩
  refine ⟨g, cap, cur, rfl, h2, ?_, h4⟩
  rw [ho.block g (Array.getElem?_eq_some_iff.1 h3).1 (fun hx => hs g hx rfl)]
  exact h3
theorem ints_kept {w w' : World} {B : Nat} {v : Value} {l : List Nat} {S : List Nat} (h : Ints w B v l) (ho : Only S w w') (hs : ∀ x ∈ S, v.ownBlock ≠ some x) : Ints w' B v l := ⟨owns_kept h.own ho hs⟩
/-- The pages that are told, of the first k. -/
def pagesL (n : Nat) (z : Nat → Int) (root : Int) (k : Nat) : List Nat := (List.range k).filter (fun p => (lookS n z root (p : Int)).ok)
theorem pagesL_len (n : Nat) (z : Nat → Int) (root : Int) (k : Nat) : (pagesL n z root k).length ≤ k := by unfold pagesL; exact Nat.le_trans (List.length_filter_le _ _) (by simp)
theorem pagesL_succ (n : Nat) (z : Nat → Int) (root : Int) (k : Nat) : pagesL n z root (k + 1) = pagesL n z root k ++ (if (lookS n z root (k : Int)).ok = true then [k] else []) := by
  unfold pagesL
  rw [List.range_succ, List.filter_append]
  cases h : (lookS n z root (k : Int)).ok <;> simp [h]
set_option maxRecDepth 100000 in
set_option maxHeartbeats 2000000 in
theorem pages_any (m F n c : Nat) (z : Nat → Int) (root : Int) (w : World) (hM : Mem w m F n c z) :
    Calls Try.prog 41 #[.pointer (some ⟨m, 0, none⟩), .int .i64 root] w (DiffEnd (pagesL n z root 4096) w) := by
  obtain ⟨i0, hi, hz0, hz1, hz2⟩ := info_parts infoI
  have HM := Lib.hid hM
  clear hM
  go_enter Try.func41, Try.ntmps41
  go_wp2_with fail
  go_loopw [5, 9] (fun v i wr => ∃ k : Nat, k ≤ 4096 ∧ i = .int .i64 k ∧ Ints wr w.heap.size v (pagesL n z root k) ∧ Only [] w wr) (fun _ i _ => 4096 - (intOf i).toNat)
  case atStart => exact ⟨0, Nat.zero_le _, rfl, ⟨World.ownsRow_nil _ _ _ _⟩, Only.refl _ _⟩
  case round =>
    obtain ⟨k, hk, rfl, hI, hO⟩ := hrel
    have IH := Lib.hid hI
    have WO := Lib.hid hO
    clear hI hO
    by_cases hlt : k < 4096
    · have hds := pagesL_succ n z root k
      have hdn := pagesL_len n z root k
      obtain ⟨⟨⟨V, W, X, B, f⟩, ok⟩, hS⟩ : ∃ s, lookS n z root (k : Int) = s := ⟨_, rfl⟩
      have HS := Lib.hid hS
      rw [hS] at hds
      clear hS
      go_wp2_with fail
      refine (look_any m F n c z root k wr (HM.out.kept WO.out (by simp) (by simp))).mono ?_
      rintro e w2 ⟨rfl, b2⟩
      rw [HS.out]
      simp only [Ent.val]
      have bx : Only [] w2 (w2.alloc (.cells #[.bool V, .bool W, .bool X, .bool B, .int .i64 f] 50)) := Only.alloc _ _ _
      have I2 := Lib.hid ((ints_kept IH.out (Only.of b2 []) (by simp)))
      have O2 := Lib.hid (WO.out.trans (Only.of b2 []))
      have I3 := Lib.hid (ints_kept I2.out bx (by simp))
      have O3 := Lib.hid (O2.out.trans bx)
      clear IH WO b2 bx HS
      cases ok
      · rw [if_neg (by decide), List.append_nil] at hds
        have DS := Lib.hid hds
        clear hds
        go_wp2
        go_roundw
        case rel => exact ⟨k + 1, by omega, by go_num, by rw [DS.out]; exact I3.out, O3.out⟩
        case measure => simp [intOf]; omega
      · rw [if_pos rfl] at hds
        have DS := Lib.hid hds
        have cell1 := cells1 (w2.alloc (.cells #[.bool V, .bool W, .bool X, .bool B, .int .i64 f] 50)) (.int .i64 k) 3
        rw [World.size_alloc] at cell1
        have C1 := Lib.hid cell1
        have hz2' := O2.out.size
        clear hds cell1
        go_wp2_with (at_builtin; refine wpList_append_own _ rfl (.tmp 20) (.tmp 22) 46 rfl w.heap.size 3 i0 (.int .i64 0) 1 8 Try.underlying46 hi hz0 hz1 hz2 rfl (by decide) u5 (pagesL n z root k).length (ints (pagesL n z root k)) rfl (I3.out.own.alloc _) ⟨w2.heap.size + 1, 0, none⟩ 1 1 [.int .i64 k] rfl rfl C1.out (by simp [Value.oneCell']) (by unfold maxLen; omega) (by omega) (by simp; omega) ?_; intro v' w3 hown hgrow hnil; have OW := Lib.hid hown; have GR := Lib.hid hgrow; clear hown hgrow hnil)
        go_roundw
        case rel =>
          refine ⟨k + 1, by omega, by go_num, ⟨?_⟩, Only.of ?_ _⟩
          · rw [DS.out, List.length_append, ints_append]
            exact OW.out
          · exact (((O3.out.below (Nat.le_refl _) (by simp)).alloc O3.out.size _).grown GR.out (by simp; omega) (fun j hj => (I2.out.own.lt j hj).1))
        case measure => simp [intOf]; omega
    · have e : k = 4096 := by omega
      subst e
      obtain ⟨pa, cc, rfl, hR⟩ := IH.out.reads
      go_wp2
      go_ret
      exact ⟨pa, cc, rfl, hR, WO.out⟩
end Wk
end Go.Proofs.Ytdjglmfilhodlaa
