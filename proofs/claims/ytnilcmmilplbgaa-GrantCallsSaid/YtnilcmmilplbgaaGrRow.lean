/-
  Thirty-two grants in a block, six cells each: they stay, one is put, one part of one is put. Conditions: none.
-/
import Derived.Test.YtnilcmmilplbgaaGrMath
import Derived.Test.YtnilcmmilplbgaaPhBase
namespace Go.Proofs.Ytnilcmmilplbgaa
open Go.RowKit
namespace Gr
open Ph (Only)
abbrev gV (x : GtT) : Value := .agg #[.int .i64 (sta x), .int .i64 (own x), .int .i64 (frm x), .int .i64 (too x), .int .i64 (pag x), .bool (wri x)]
/-- The cells of a grant, by their places in it. -/
def gC (x : GtT) (k : Nat) : Value := match k with
  | 0 => .int .i64 (sta x)
  | 1 => .int .i64 (own x)
  | 2 => .int .i64 (frm x)
  | 3 => .int .i64 (too x)
  | 4 => .int .i64 (pag x)
  | _ => .bool (wri x)
structure Row6 (w : World) (b : Nat) (g : Nat → GtT) : Prop where
  lt : b < w.heap.size
  c : ∀ i k, i < 32 → k < 6 → w.cell? ⟨b, i * 6 + k, none⟩ = some (gC (g i) k)
  fz : ∀ j, j < 192 → w.frozen? ⟨b, j, none⟩ = false
section
variable {w w' : World} {b : Nat} {g : Nat → GtT}
theorem Row6.c0 (h : Row6 w b g) {i : Nat} (hi : i < 32) : w.cell? ⟨b, i * 6, none⟩ = some (.int .i64 (sta (g i))) := h.c i 0 hi (by omega)
theorem Row6.c1 (h : Row6 w b g) {i : Nat} (hi : i < 32) : w.cell? ⟨b, i * 6 + 1, none⟩ = some (.int .i64 (own (g i))) := h.c i 1 hi (by omega)
theorem Row6.c2 (h : Row6 w b g) {i : Nat} (hi : i < 32) : w.cell? ⟨b, i * 6 + 2, none⟩ = some (.int .i64 (frm (g i))) := h.c i 2 hi (by omega)
theorem Row6.c3 (h : Row6 w b g) {i : Nat} (hi : i < 32) : w.cell? ⟨b, i * 6 + 3, none⟩ = some (.int .i64 (too (g i))) := h.c i 3 hi (by omega)
theorem Row6.c4 (h : Row6 w b g) {i : Nat} (hi : i < 32) : w.cell? ⟨b, i * 6 + 4, none⟩ = some (.int .i64 (pag (g i))) := h.c i 4 hi (by omega)
theorem Row6.c5 (h : Row6 w b g) {i : Nat} (hi : i < 32) : w.cell? ⟨b, i * 6 + 5, none⟩ = some (.bool (wri (g i))) := h.c i 5 hi (by omega)
theorem Row6.fr (h : Row6 w b g) {i k : Nat} (hi : i < 32) (hk : k < 6) : w.frozen? ⟨b, i * 6 + k, none⟩ = false := h.fz _ (by omega)
theorem Row6.kept {S : List Nat} (h : Row6 w b g) (ho : Only S w w') (hb : b ∉ S) : Row6 w' b g :=
  ⟨Nat.lt_of_lt_of_le h.lt ho.size, fun i k hi hk => (ho.cell h.lt hb _).trans (h.c i k hi hk), fun j hj => (ho.frozen h.lt hb j).trans (h.fz j hj)⟩
theorem Row6.congr {g' : Nat → GtT} (h : Row6 w b g) (e : ∀ i, i < 32 → g i = g' i) : Row6 w b g' :=
  ⟨h.lt, fun i k hi hk => by rw [← e i hi]; exact h.c i k hi hk, h.fz⟩
theorem cell_put (w : World) (b i j : Nat) (v : Value) (h : (w.cell? ⟨b, i, none⟩).isSome = true) : (w.setCell ⟨b, i, none⟩ v).cell? ⟨b, j, none⟩ = if j = i then some v else w.cell? ⟨b, j, none⟩ := by
  by_cases e : j = i
  · subst e
    rw [if_pos rfl, World.cell?_setCell_same' _ _ _ h]
  · rw [if_neg e, World.cell?_setCell_other _ _ _ _ (fun x => e (by injection x with _ x; exact x.symm))]
/-- One cell of one grant is put. -/
theorem Row6.cell1 (h : Row6 w b g) {i k : Nat} (hi : i < 32) (hk : k < 6) (x : GtT) (hx : ∀ m, m < 6 → m ≠ k → gC x m = gC (g i) m) : Row6 (w.setCell ⟨b, i * 6 + k, none⟩ (gC x k)) b (upd g i x) := by
  refine ⟨by rw [World.size_setCell]; exact h.lt, fun j m hj hm => ?_, fun j hj => (World.frozen?_setCell _ _ _ _).trans (h.fz j hj)⟩
  rw [cell_put w b (i * 6 + k) _ _ (by rw [h.c i k hi hk]; rfl)]
  by_cases e : j = i
  · subst e
    rw [upd_at]
    by_cases e2 : m = k
    · subst e2; rw [if_pos rfl]
    · rw [if_neg (by omega), h.c j m hj hm, hx m hm e2]
  · rw [upd_ne _ _ e, if_neg (by omega)]
    exact h.c j m hj hm
theorem Row6.sta1 (h : Row6 w b g) {i : Nat} (hi : i < 32) (v : Int) : Row6 (w.setCell ⟨b, i * 6, none⟩ (.int .i64 v)) b (upd g i (v, (g i).2)) :=
  h.cell1 hi (k := 0) (by omega) (v, (g i).2) (fun m hm hne => by
    have : m = 1 ∨ m = 2 ∨ m = 3 ∨ m = 4 ∨ m = 5 := by omega
    rcases this with rfl | rfl | rfl | rfl | rfl <;> rfl)
theorem Row6.pag1 (h : Row6 w b g) {i : Nat} (hi : i < 32) (v : Int) : Row6 (w.setCell ⟨b, i * 6 + 4, none⟩ (.int .i64 v)) b (upd g i (sta (g i), own (g i), frm (g i), too (g i), v, wri (g i))) :=
  h.cell1 hi (k := 4) (by omega) (sta (g i), own (g i), frm (g i), too (g i), v, wri (g i)) (fun m hm hne => by
    have : m = 0 ∨ m = 1 ∨ m = 2 ∨ m = 3 ∨ m = 5 := by omega
    rcases this with rfl | rfl | rfl | rfl | rfl <;> rfl)
/-- A grant is put. -/
def set6 (w : World) (b i : Nat) (x : GtT) : World :=
  (((((w.setCell ⟨b, i * 6, none⟩ (.int .i64 (sta x))).setCell ⟨b, i * 6 + 1, none⟩ (.int .i64 (own x))).setCell ⟨b, i * 6 + 2, none⟩ (.int .i64 (frm x))).setCell ⟨b, i * 6 + 3, none⟩ (.int .i64 (too x))).setCell ⟨b, i * 6 + 4, none⟩ (.int .i64 (pag x))).setCell ⟨b, i * 6 + 5, none⟩ (.bool (wri x))
theorem only_set6 (w : World) (b i : Nat) (x : GtT) : Only [b] w (set6 w b i x) :=
  (((((Only.setCell w (by simp) _ _).trans (Only.setCell _ (by simp) _ _)).trans (Only.setCell _ (by simp) _ _)).trans (Only.setCell _ (by simp) _ _)).trans (Only.setCell _ (by simp) _ _)).trans (Only.setCell _ (by simp) _ _)
theorem upd_upd (g : Nat → GtT) (i : Nat) (x y : GtT) : upd (upd g i x) i y = upd g i y := by
  funext j
  by_cases e : j = i
  · subst e; rw [upd_at, upd_at]
  · rw [upd_ne _ _ e, upd_ne _ _ e, upd_ne _ _ e]
theorem Row6.set (h : Row6 w b g) {i : Nat} (hi : i < 32) (x : GtT) : Row6 (set6 w b i x) b (upd g i x) := by
  obtain ⟨x0, x1, x2, x3, x4, x5⟩ := x
  have st : ∀ (w : World) (g : Nat → GtT) (k : Nat) (y : GtT), Row6 w b g → k < 6 → (∀ m, m < 6 → m ≠ k → gC y m = gC (g i) m) → Row6 (w.setCell ⟨b, i * 6 + k, none⟩ (gC y k)) b (upd g i y) := fun w g k y h hk hx => h.cell1 hi hk y hx
  have h0 := st w g 0 (x0, (g i).2) h (by omega) (fun m hm hne => by
    have : m = 1 ∨ m = 2 ∨ m = 3 ∨ m = 4 ∨ m = 5 := by omega
    rcases this with rfl | rfl | rfl | rfl | rfl <;> rfl)
  have h1 := st _ _ 1 (x0, x1, (g i).2.2) h0 (by omega) (fun m hm hne => by
    rw [upd_at]
    have : m = 0 ∨ m = 2 ∨ m = 3 ∨ m = 4 ∨ m = 5 := by omega
    rcases this with rfl | rfl | rfl | rfl | rfl <;> rfl)
  rw [upd_upd] at h1
  have h2 := st _ _ 2 (x0, x1, x2, (g i).2.2.2) h1 (by omega) (fun m hm hne => by
    rw [upd_at]
    have : m = 0 ∨ m = 1 ∨ m = 3 ∨ m = 4 ∨ m = 5 := by omega
    rcases this with rfl | rfl | rfl | rfl | rfl <;> rfl)
  rw [upd_upd] at h2
  have h3 := st _ _ 3 (x0, x1, x2, x3, (g i).2.2.2.2) h2 (by omega) (fun m hm hne => by
    rw [upd_at]
    have : m = 0 ∨ m = 1 ∨ m = 2 ∨ m = 4 ∨ m = 5 := by omega
    rcases this with rfl | rfl | rfl | rfl | rfl <;> rfl)
  rw [upd_upd] at h3
  have h4 := st _ _ 4 (x0, x1, x2, x3, x4, (g i).2.2.2.2.2) h3 (by omega) (fun m hm hne => by
    rw [upd_at]
    have : m = 0 ∨ m = 1 ∨ m = 2 ∨ m = 3 ∨ m = 5 := by omega
    rcases this with rfl | rfl | rfl | rfl | rfl <;> rfl)
  rw [upd_upd] at h4
  have h5 := st _ _ 5 (x0, x1, x2, x3, x4, x5) h4 (by omega) (fun m hm hne => by
    rw [upd_at]
    have : m = 0 ∨ m = 1 ∨ m = 2 ∨ m = 3 ∨ m = 4 := by omega
    rcases this with rfl | rfl | rfl | rfl | rfl <;> rfl)
  rw [upd_upd] at h5
  exact h5
end
end Gr
end Go.Proofs.Ytnilcmmilplbgaa
