/-
  What the laws' of and told answer, and leave: both sides answer the same. Conditions: that both lie there, apart, and their grants are ones.
-/
import Derived.Test.YtnilcmmilplbgaaGrRef
import Derived.Test.YtnilcmmilplbgaaGrGone
import Derived.Test.YtnilcmmilplbgaaGrEq
import Derived.Test.YtnilcmmilplbgaaGrOpen
namespace Go.Proofs.Ytnilcmmilplbgaa
open Go.RowKit
namespace Gr
open Ph (Only)
/-- A block's cells, whole. -/
def Lay (w : World) (b : Nat) (t : TypeId) (cs : List Value) : Prop := w.heap[b]? = some (.cells cs.toArray t (0, 0))
theorem Lay.new (w : World) (t : TypeId) (cs : List Value) : Lay (w.alloc (.cells cs.toArray t)) w.heap.size t cs := heap_alloc_new w _
theorem Lay.lt {w : World} {b : Nat} {t : TypeId} {cs : List Value} (h : Lay w b t cs) : b < w.heap.size := (Array.getElem?_eq_some_iff.1 h).1
theorem Lay.kept {w w' : World} {b : Nat} {t : TypeId} {cs : List Value} {S : List Nat} (h : Lay w b t cs) (ho : Only S w w') (hb : b ∉ S) : Lay w' b t cs := (ho.block b h.lt hb).trans h
theorem Lay.cell {w : World} {b : Nat} {t : TypeId} {cs : List Value} (h : Lay w b t cs) (j : Nat) : w.cell? ⟨b, j, none⟩ = cs[j]? := by
  unfold Lay at h
  simp [World.cell?, h]
theorem Lay.free {w : World} {b : Nat} {t : TypeId} {cs : List Value} (h : Lay w b t cs) (j : Nat) : w.frozen? ⟨b, j, none⟩ = false := by
  unfold Lay at h
  simp [World.frozen?, h]
theorem of_any (x : GtT) (w : World) :
    Calls Try.prog 12 #[gV x] w fun e w' => e = .returned (gV x) ∧ Only [] w w' := by
  have hz : ∀ w, (zeroValue 32).run Try.prog w = .ok (gV gz) w := fun _ => by kernel_rfl
  obtain ⟨xs, xo, xf, xt, xp, xw⟩ := x
  go_enter Try.func12, Try.ntmps12
  go_wp2
  refine bodyPost_ret (v := gV (xs, xo, xf, xt, xp, xw)) (by simp [results, Try.results12, go_sem]) rfl ⟨rfl, ?_⟩
  exact (Only.alloc [] _ _).trans (Only.alloc [] _ _)
/-- What a call leaves. -/
def toldP (c : GCallsT) (g : Nat → GtT) : Nat → GtT :=
  if c.1 = 0 then (offP g c.2.1 c.2.2.2.1 c.2.2.2.2.1 c.2.2.2.2.2).2.2
  else if c.1 = 1 then (accP g c.2.2.1 c.2.1 c.2.2.2.1).2.2
  else if c.1 = 2 then (lveP g c.2.2.1 c.2.1).2.2
  else if c.1 = 3 then (revP g c.2.2.1 c.2.1).2.2
  else if c.1 = 4 then gonP g c.2.1
  else g
theorem gv_told {g : Nat → GtT} (h : Gv g) (c : GCallsT) : Gv (toldP c g) := by
  unfold toldP
  split
  · exact gv_off h _ _ _ _
  split
  · exact gv_acc h _ _ _
  split
  · exact gv_lve h _ _
  split
  · exact gv_rev h _ _
  split
  · exact gv_gon h _
  · exact h
/-- Both lie there, apart, and tell the same. -/
structure Both (w : World) (b r G : Nat) (g : Nat → GtT) : Prop where
  p : Row6 w b g
  q : RGr w r G g
  br : b ≠ r
  bG : b ≠ G
  gv : Gv g
theorem Both.kept {w w' : World} {b r G : Nat} {g : Nat → GtT} {S : List Nat} (h : Both w b r G g) (ho : Only S w w') (h1 : b ∉ S) (h2 : r ∉ S) (h3 : G ∉ S) : Both w' b r G g := ⟨h.p.kept ho h1, h.q.kept ho h2 h3, h.br, h.bG, h.gv⟩
end Gr
end Go.Proofs.Ytnilcmmilplbgaa
