/-
  What the laws' alive answers: true. Conditions: none.
-/
import Derived.Test.YtcajclalpmfafaaTlList
import Derived.Test.YtcajclalpmfafaaTlFill
namespace Go.Proofs.Ytcajclalpmfafaa
open Go.RowKit Go.Maps Go.Shelf
namespace Tl
open Ph (Only)

set_option maxRecDepth 100000 in
theorem alive_any (w : World) : Calls Try.prog 6 #[] w fun e w' => e = .returned (.bool true) ∧ Below w.heap.size w w' := by
  have a1 : W64 1 := rfl
  have a2 : W64 2 := rfl
  have a3 : W64 3 := rfl
  go_enter Try.func6, Try.ntmps6
  go_wp2_with fail
  refine (new_yes 2 _ (by omega) (by omega)).mono ?_
  rintro e w1 ⟨rfl, hT1, hO1⟩
  have hB1 : Below w.heap.size w w1 := hO1.below (B := w.heap.size) (Nat.le_refl _) (by simp)
  replace hT1 : Tlb w1 (w.heap.size + 1) w.heap.size 2 0 ([none, none] : List (Option SlotT)) := hT1
  clear hO1
  go_wp2_with fail
  refine (fill_any _ _ _ _ _ (1, 2, 3, false, false) _ hT1 rfl rfl).mono ?_
  rintro e w2 ⟨rfl, hT2, hO2⟩
  replace hT2 : Tlb w2 (w.heap.size + 1) w.heap.size 2 1 ([some (1, 2, 3, false, false), none] : List (Option SlotT)) := hT2
  have hB2 : Below w.heap.size w w2 := hB1.trans (hO2.below (B := w.heap.size) hB1.size (by simp))
  clear hT1 hO2 hB1
  go_wp2_with fail
  refine (fill_any _ _ _ _ _ (1, 3, 4, false, false) _ hT2 rfl rfl).mono ?_
  rintro e w3 ⟨rfl, hT3, hO3⟩
  replace hT3 : Tlb w3 (w.heap.size + 1) w.heap.size 2 0 ([some (1, 2, 3, false, false), some (1, 3, 4, false, false)] : List (Option SlotT)) := hT3
  have hB3 : Below w.heap.size w w3 := hB2.trans (hO3.below (B := w.heap.size) hB2.size (by simp))
  clear hT2 hO3 hB2
  go_wp2_with fail
  refine (fill_any _ _ _ _ _ (2, 2, 5, true, false) _ hT3 rfl rfl).mono ?_
  rintro e w4 ⟨rfl, hT4, hO4⟩
  replace hT4 : Tlb w4 (w.heap.size + 1) w.heap.size 2 1 ([some (2, 2, 5, true, false), some (1, 3, 4, false, false)] : List (Option SlotT)) := hT4
  have hB4 : Below w.heap.size w w4 := hB3.trans (hO4.below (B := w.heap.size) hB3.size (by simp))
  clear hT3 hO4 hB3
  go_wp2_with fail
  refine (find_any _ _ _ _ _ 1 2 _ hT4 rfl rfl).mono ?_
  rintro e w5 ⟨he, hb⟩
  replace he : e = .returned (.tuple #[.agg #[.int .i64 0, .int .i64 0, .int .i64 0, .bool false, .bool false], .bool false]) := he
  subst he
  have hT5 := hT4.kept (Only.of hb []) (by simp) (by simp)
  have hB5 : Below w.heap.size w w5 := hB4.trans (hb.mono hB4.size)
  clear hT4 hb hB4
  go_wp2_with fail
  have hT6 := hT5.kept (Only.alloc [] w5 (.cells #[.int .i64 0, .int .i64 0, .int .i64 0, .bool false, .bool false] 31)) (by simp) (by simp)
  have hB6 := hB5.alloc hB5.size (.cells #[.int .i64 0, .int .i64 0, .int .i64 0, .bool false, .bool false] 31)
  clear hT5 hB5
  generalize w5.alloc (.cells #[.int .i64 0, .int .i64 0, .int .i64 0, .bool false, .bool false] 31) = w6 at *
  go_wp2_with fail
  refine (find_any _ _ _ _ _ 2 2 _ hT6 rfl rfl).mono ?_
  rintro e w7 ⟨he, hb⟩
  replace he : e = .returned (.tuple #[.agg #[.int .i64 2, .int .i64 2, .int .i64 5, .bool true, .bool false], .bool true]) := he
  subst he
  have hT7 := hT6.kept (Only.of hb []) (by simp) (by simp)
  have hB7 : Below w.heap.size w w7 := hB6.trans (hb.mono hB6.size)
  clear hT6 hb hB6
  go_wp2_with fail
  have hT8 := hT7.kept (Only.alloc [] w7 (.cells #[.int .i64 2, .int .i64 2, .int .i64 5, .bool true, .bool false] 31)) (by simp) (by simp)
  have hB8 := hB7.alloc hB7.size (.cells #[.int .i64 2, .int .i64 2, .int .i64 5, .bool true, .bool false] 31)
  have L8 := Lay.new w7 31 [.int .i64 2, .int .i64 2, .int .i64 5, .bool true, .bool false]
  have hz7 : w.heap.size + 1 < w7.heap.size := hT7.lt
  clear hT7 hB7
  generalize w7.alloc (.cells #[.int .i64 2, .int .i64 2, .int .i64 5, .bool true, .bool false] 31) = w8 at *
  go_wp2_with fail
  refine (drop1_any _ _ _ _ _ 1 3 _ hT8 rfl rfl).mono ?_
  rintro e w9 ⟨he, hT9, hO9⟩
  replace he : e = .returned (.bool true) := he
  subst he
  replace hT9 : Tlb w9 (w.heap.size + 1) w.heap.size 2 1 ([some (2, 2, 5, true, false), none] : List (Option SlotT)) := hT9
  have hB9 : Below w.heap.size w w9 := hB8.trans (hO9.below (B := w.heap.size) hB8.size (by simp))
  have L9 := L8.kept hO9 (by simp; omega)
  clear hT8 hO9 hB8 L8
  go_wp2_with fail
  refine (dropAll_any _ _ _ _ _ 1 _ hT9).mono ?_
  rintro e w10 ⟨he, hT10, hO10⟩
  replace he : e = .returned (.int .i64 0) := he
  subst he
  replace hT10 : Tlb w10 (w.heap.size + 1) w.heap.size 2 1 ([some (2, 2, 5, true, false), none] : List (Option SlotT)) := hT10
  have hB10 : Below w.heap.size w w10 := hB9.trans (hO10.below (B := w.heap.size) hB9.size (by simp))
  have L10 := L9.kept hO10 (by simp; omega)
  clear hT9 hO10 hB9 L9
  have c2 := L10.cell 2
  have c3 := L10.cell 3
  simp only [List.getElem?_cons_zero, List.getElem?_cons_succ] at c2 c3
  go_wp2_with fail
  refine (list_any _ _ _ _ _ _ hT10).mono ?_
  rintro e w11 ⟨x11, he, _, _, hb⟩
  replace he : e = .returned (.slice (some ⟨x11, 0, none⟩) 1 1) := he
  subst he
  have hT11 := hT10.kept (Only.of hb []) (by simp) (by simp)
  have hB11 : Below w.heap.size w w11 := hB10.trans (hb.mono hB10.size)
  clear hT10 hb hB10
  go_wp2_with fail
  refine (dropFrame_any _ _ _ _ _ 5 _ hT11).mono ?_
  rintro e w12 ⟨he, hT12, hO12⟩
  replace he : e = .returned (.int .i64 1) := he
  subst he
  replace hT12 : Tlb w12 (w.heap.size + 1) w.heap.size 2 1 ([none, none] : List (Option SlotT)) := hT12
  have hB12 : Below w.heap.size w w12 := hB11.trans (hO12.below (B := w.heap.size) hB11.size (by simp))
  clear hT11 hO12 hB11
  go_wp2_with fail
  refine (list_any _ _ _ _ _ _ hT12).mono ?_
  rintro e w13 ⟨x13, he, _, _, hb⟩
  replace he : e = .returned (.slice (some ⟨x13, 0, none⟩) 0 0) := he
  subst he
  have hT13 := hT12.kept (Only.of hb []) (by simp) (by simp)
  have hB13 : Below w.heap.size w w13 := hB12.trans (hb.mono hB12.size)
  clear hT12 hb hB12
  go_wp2
  go_ret
  exact ⟨rfl, hB13⟩
end Tl
end Go.Proofs.Ytcajclalpmfafaa
