/-
  The words that the statements of layer 8 put first (Plain), as a row that the call makes; what great asks. No condition but that each argument is of its Go type.
-/
import Derived.Test.YtdjglmfilhodlaaNsMath
import Derived.Laws.OwnMore
namespace Go.Proofs.Ytdjglmfilhodlaa
open Go.RowKit Nt
namespace Ns
open Ph En Wk
/-- The words of Plain, and the three that alive puts behind them. -/
def xP : Puts := ⟨fun k => if k = 0 then 0 else if k ≤ 16 then 256 + 4 * (k - 1) else if k = 17 then 1544 else if k = 18 then 1804 else 2336,
  fun k => if k = 0 then 257 else if k ≤ 16 then (k + 3) * 256 + 7 else if k = 17 then 769 else if k = 18 then 1285 else 77⟩
/-- So many of them, cell by cell. -/
def putsV (x : Puts) : Nat → List Value
  | 0 => []
  | k + 1 => putsV x k ++ [.int .u32 (x.ad k), .int .u32 (x.vl k)]
theorem putsV_len (x : Puts) (k : Nat) : (putsV x k).length = k * 2 := by
  induction k with
  | zero => rfl
  | succ k ih => simp [putsV, ih]; omega
theorem putsV_ad (x : Puts) (n k : Nat) (h : k < n) : (putsV x n)[k * 2]? = some (.int .u32 (x.ad k)) ∧ (putsV x n)[k * 2 + 1]? = some (.int .u32 (x.vl k)) := by
  induction n with
  | zero => omega
  | succ n ih =>
    have hl := putsV_len x n
    unfold putsV
    by_cases e : k = n
    · subst e
      rw [List.getElem?_append_right (by omega), List.getElem?_append_right (by omega), hl]
      simp
    · rw [List.getElem?_append_left (by omega), List.getElem?_append_left (by omega)]
      exact ih (by omega)
/-- A row of words that the call has made. -/
def OwnPuts (w : World) (B : Nat) (v : Value) (n : Nat) (x : Puts) : Prop := w.ownsRow B 58 2 v n (putsV x n)
theorem infoP : (Try.prog.info? 58).map (fun i => (i.zero, i.size, i.bytes)) = some (some (.agg #[.int .u32 0, .int .u32 0]), 2, 8) := by kernel_rfl
theorem own_kept {w w' : World} {B : Nat} {v : Value} {n : Nat} {x : Puts} {S : List Nat} (h : OwnPuts w B v n x) (ho : Only S w w') (hs : ∀ y ∈ S, v.ownBlock ≠ some y) : OwnPuts w' B v n x := owns_kept h ho hs
/-- How Plain ends. -/
def PlainEnd (w : World) (e : Ending) (w' : World) : Prop := ∃ v, e = .returned v ∧ OwnPuts w' w.heap.size v 17 xP ∧ Only [] w w'
theorem cells2 (w : World) (u v : Value) (t : TypeId) : ∀ j y, [u, v][j]? = some y → (w.alloc (.cells #[u, v] t)).cell? ((⟨w.heap.size, 0, none⟩ : Addr).add j) = some y := by
  intro j y h
  match j, h with
  | 0, h => simp at h; subst h; simp [Addr.add]
  | 1, h => simp at h; subst h; simp [Addr.add]
set_option maxRecDepth 100000 in
set_option maxHeartbeats 2000000 in
theorem plain_any (w : World) : Calls Try.prog 24 #[] w (PlainEnd w) := by
  obtain ⟨i0, hi, hz0, hz1, hz2⟩ := info_parts infoP
  go_enter Try.func24, Try.ntmps24
  go_wp2_with fail
  go_loopw [1, 2] (fun v i wr => ∃ k : Nat, k ≤ 16 ∧ i = .int .u32 k ∧ OwnPuts wr w.heap.size v (k + 1) xP ∧ Only [] w wr) (fun _ i _ => 16 - (intOf i).toNat)
  case atStart => exact ⟨0, by omega, rfl, World.ownsRow_lit w #[.int .u32 0, .int .u32 257] 1 (Nat.le_refl _) (by decide) (by decide), Only.alloc _ _ _⟩
  case round =>
    obtain ⟨k, hk, rfl, hI, hO⟩ := hrel
    have IH := Lib.hid hI
    have WO := Lib.hid hO
    clear hI hO
    by_cases hlt : k < 16
    · have hz2' := WO.out.size
      have zb : bits .or .u32 (((k : Int) + 4) * 256) 7 = ((k : Int) + 4) * 256 + 7 := by
        have h1 := u32_or_nat ((k + 4) * 256) 7 (by omega) (by decide)
        rw [nat_join 8 ((k + 4) * 256) 7 (Nat.mul_mod_left _ _) (by decide)] at h1
        rw [show ((k : Int) + 4) * 256 = (((k + 4) * 256 : Nat) : Int) by omega, show (7 : Int) = ((7 : Nat) : Int) from rfl, h1]
        omega
      have C2 := Lib.hid (cells2 wr (.int .u32 (256 + 4 * (k : Int))) (.int .u32 (((k : Int) + 4) * 256 + 7)) 58)
      have PV := Lib.hid (show putsV xP (k + 1 + 1) = putsV xP (k + 1) ++ [.int .u32 (256 + 4 * (k : Int)), .int .u32 (((k : Int) + 4) * 256 + 7)] by
        show putsV xP (k + 1) ++ [_, _] = _
        have a1 : xP.ad (k + 1) = 256 + 4 * k := by unfold xP; simp only; rw [if_neg (by omega), if_pos (by omega)]; omega
        have a2 : xP.vl (k + 1) = ((k : Int) + 4) * 256 + 7 := by unfold xP; simp only; rw [if_neg (by omega), if_pos (by omega)]; push_cast; omega
        rw [a1, a2]
        push_cast
        rfl)
      go_wp2_with (at_builtin; refine wpList_append_own _ rfl (.tmp 9) (.tmp 18) 22 rfl w.heap.size 58 i0 (.agg #[.int .u32 0, .int .u32 0]) 2 8 Try.underlying22 hi hz0 hz1 hz2 rfl (by decide) _ (k + 1) (putsV xP (k + 1)) rfl (World.ownsRow.alloc IH.out _) ⟨wr.heap.size, 0, none⟩ 1 1 [.int .u32 (256 + 4 * (k : Int)), .int .u32 (((k : Int) + 4) * 256 + 7)] rfl rfl C2.out (by simp [Value.oneCell']) (by unfold maxLen; omega) (by omega) (by simp; omega) ?_; intro v' w3 hown hgrow hnil; have OW := Lib.hid hown; have GR := Lib.hid hgrow; clear hown hgrow hnil)
      go_roundw
      case rel =>
        refine ⟨k + 1, by omega, by go_num, ?_, Only.of ?_ _⟩
        · show World.ownsRow _ _ _ _ _ _ _
          rw [PV.out]
          exact OW.out
        · exact ((WO.out.below (Nat.le_refl _) (by simp)).alloc WO.out.size _).grown GR.out (by simp; omega) (fun j hj => (World.ownsRow.lt IH.out j hj).1)
      case measure => simp [intOf]; omega
    · have e : k = 16 := by omega
      subst e
      go_wp2
      go_ret
      exact ⟨_, rfl, IH.out, WO.out⟩
end Ns
end Go.Proofs.Ytdjglmfilhodlaa
