/-
  A row of deeds, read place by place. Conditions: none.
-/
import Derived.Test.YtiiggmfindfkfaaGreatStTwin
import Derived.Test.YtiiggmfindfkfaaGreatStLog
namespace Go.Proofs.YtiiggmfindfkfaaGreat
open Go.RowKit
namespace St
open Ph (Only)
def Deed.kind : Deed → Int
  | .put _ _ => 1
  | .drop => 2
def Deed.addr : Deed → Int
  | .put a _ => a
  | .drop => 0
def Deed.val : Deed → Int
  | .put _ v => v
  | .drop => 0
theorem enc_eq (d : Deed) : d.enc = [.int .i64 d.kind, .int .u32 d.addr, .int .u32 d.val] := by cases d <;> rfl
theorem flatD_get : ∀ (l : List Deed) (i : Nat) (d : Deed), l[i]? = some d → ∀ f, f < 3 → (flatD l)[i * 3 + f]? = d.enc[f]?
  | [], i, d, h, f, hf => by simp at h
  | x :: r, 0, d, h, f, hf => by
    simp at h
    subst h
    show (x.enc ++ flatD r)[0 * 3 + f]? = _
    rw [List.getElem?_append_left (by rw [enc_eq]; simp; omega)]
    congr 1
    omega
  | x :: r, i + 1, d, h, f, hf => by
    show (x.enc ++ flatD r)[(i + 1) * 3 + f]? = _
    have hx : x.enc.length = 3 := by rw [enc_eq]; rfl
    rw [List.getElem?_append_right (by omega), hx, show (i + 1) * 3 + f - 3 = i * 3 + f by omega]
    exact flatD_get r i d (by simpa using h) f hf
/-- A row of deeds, in a block from B on. -/
def DRow (B : Nat) (w : World) (u : Value) (l : List Deed) : Prop :=
  ∃ a cap, u = .slice a l.length cap ∧ (0 < l.length → ∃ g, a = some ⟨g, 0, none⟩ ∧ B ≤ g ∧ g < w.heap.size ∧ ∀ (i : Nat) (d : Deed), l[i]? = some d →
    w.cell? ⟨g, i * 3, none⟩ = some (.int .i64 d.kind) ∧ w.cell? ⟨g, i * 3 + 1, none⟩ = some (.int .u32 d.addr) ∧ w.cell? ⟨g, i * 3 + 2, none⟩ = some (.int .u32 d.val))
theorem DRow.kept {B : Nat} {w w' : World} {u : Value} {l : List Deed} {S : List Nat} (h : DRow B w u l) (ho : Only S w w') (hs : ∀ x ∈ S, x < B) : DRow B w' u l := by
  obtain ⟨a, cap, rfl, hr⟩ := h
  refine ⟨a, cap, rfl, fun hl => ?_⟩
  obtain ⟨g, rfl, hB, hlt, hc⟩ := hr hl
  have hg : g ∉ S := fun e => by have := hs g e; omega
  refine ⟨g, rfl, hB, Nat.lt_of_lt_of_le hlt ho.size, fun i d hd => ?_⟩
  obtain ⟨h1, h2, h3⟩ := hc i d hd
  exact ⟨(ho.cell hlt hg _).trans h1, (ho.cell hlt hg _).trans h2, (ho.cell hlt hg _).trans h3⟩
theorem deeds_row {B : Nat} {w : World} {u : Value} {l : List Deed} (h : Deeds B w u l) : DRow B w u l := by
  have hlt := World.ownsRow.lt h
  rcases h.2 with ⟨rfl, h0⟩ | ⟨g, cap, cur, rfl, hrest⟩
  · exact ⟨_, _, by rw [h0], fun hl => absurd hl (by omega)⟩
  · refine ⟨_, _, rfl, fun _ => ⟨g, rfl, (hlt g rfl).1, (hlt g rfl).2, fun i d hd => ?_⟩⟩
    have key : ∀ f, f < 3 → ∀ v, d.enc[f]? = some v → w.cell? ⟨g, i * 3 + f, none⟩ = some v := fun f hf v hv => by
      have := World.ownsRow.cells h (g := g) rfl (i * 3 + f) v (by rw [flatD_get l i d hd f hf]; exact hv)
      rw [Fr.add_eq] at this
      simpa using this
    exact ⟨key 0 (by decide) _ (by rw [enc_eq]; rfl), key 1 (by decide) _ (by rw [enc_eq]; rfl), key 2 (by decide) _ (by rw [enc_eq]; rfl)⟩
end St
end Go.Proofs.YtiiggmfindfkfaaGreat
