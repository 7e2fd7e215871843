/-
  How a slice of bytes that comes in is opened; no condition.
-/
import Derived.Test.YtebnjhecopmekaaDoorIsaShow
import Derived.Test.YtebnjhecopmekaaDoorIsaLaid
import Derived.ShutString
import Derived.ChangeOld
namespace Go.Proofs.YtebnjhecopmekaaDoor
open Go.ChangeShapes Go.WideShapes Go.ChangeAt Go.RowKit

theorem laidOut : laidOutB Tryd.prog = true := by kernel_rfl
theorem add_eq (b off j : Nat) : (⟨b, off, none⟩ : Addr).add j = ⟨b, off + j, none⟩ := by unfold Addr.add; split <;> simp_all
theorem lt_of_cell {w : World} {a : Addr} {v : Value} (h : w.cell? a = some v) : a.block < w.heap.size := World.block_lt_of_cell? _ _ h

set_option maxRecDepth 100000 in
theorem bytes_open {H : Type} {enc : TypeId × Value → H} {W : World} {base : Nat} {v : Value} {d : DataW H} {p : List MemPlace}
    (hval : Value.okWide Tryd.prog W .any base 43 v) (h : DataW.Trod enc Tryd.prog W 0 (fun _ => true) true 43 v d p) :
    ∃ a len cap, v = .slice a len cap ∧ len ≤ maxLen ∧ (∀ x ∈ p, x.block < W.heap.size) ∧ (0 < len → ∃ b off z, a = some ⟨b, off, none⟩ ∧ RowAt W b off len z) := by
  obtain ⟨a, len, cap, rfl⟩ := okWide_slice Tryd.underlying43 hval
  have lt0 : ∀ x ∈ p, x.block < W.heap.size := by obtain ⟨m, hm⟩ := h; exact DataW.trod_lt m _ _ _ hm
  obtain ⟨fuel, hf⟩ := h
  rcases open_ints Tryd.underlying43 Tryd.underlying5 (by kernel_rfl) hf with ⟨hcs, _⟩ | ⟨x, l, c, zs, hcs, _, hl, hm, hz, _, hcell, hwz⟩
  · simp [Value.cells] at hcs
    obtain ⟨rfl, rfl, rfl⟩ := hcs
    exact ⟨_, _, _, rfl, by unfold maxLen; omega, lt0, fun h => by omega⟩
  · simp [Value.cells] at hcs
    obtain ⟨rfl, rfl, rfl⟩ := hcs
    refine ⟨_, _, _, rfl, by omega, lt0, fun hn => ?_⟩
    have hzl : zs.length = cap := by simpa using hz
    obtain ⟨b, off, spot⟩ := x
    have hs : spot = none := by simpa [Addr.add] using World.cell?_spot (hcell 0 (by omega))
    subst hs
    refine ⟨b, off, fun j => zs.getD j 0, rfl, ?_, ?_, ?_⟩
    · have := lt_of_cell (hcell 0 (by omega))
      simpa [Addr.add] using this
    · intro j hj
      have hm : zs.getD j 0 ∈ zs := by
        rw [List.getD_eq_getElem?_getD, List.getElem?_eq_getElem (by omega)]
        exact List.getElem_mem _
      have := bounds_u8 (hwz _ hm)
      exact ⟨this.1, Int.lt_of_le_of_lt this.2 (by decide)⟩
    · intro j hj
      rw [← add_eq]
      exact hcell j (by omega)
end Go.Proofs.YtebnjhecopmekaaDoor
