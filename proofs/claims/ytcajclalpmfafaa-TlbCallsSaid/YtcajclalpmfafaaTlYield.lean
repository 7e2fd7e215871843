/-
  Operations that yield one value in every world that keeps a condition: for regions that draw their order; what is found and what is dropped. Conditions: none.
-/
import Derived.Test.YtcajclalpmfafaaTlSame
import Derived.Deep.RegionHeld3
namespace Go.Proofs.Ytcajclalpmfafaa
open Go.RowKit
namespace Tl
variable {ops : Array Oper} {S : World → Prop} {o : Oper} {a : Act} {v : Value} {x : Operand}
theorem y_run (hw : Region.wanted o (yielded ops a.tmps) = true) (h : ∀ w, (execOp a.eval o).run Try.prog w = .ok (.value v) w) : YieldsIf Try.prog ops S o v a := .inl ⟨hw, fun w _ => h w⟩
theorem load_int (w : World) (b i : Nat) (z : Int) (h : w.cell? ⟨b, i, none⟩ = some (.int .i64 z)) (hx : a.eval x = .pointer (some ⟨b, i, none⟩)) (ho : o.op = .load 3 x) : (execOp a.eval o).run Try.prog w = .ok (.value (.int .i64 z)) w := by
  unfold execOp
  simp only [ho, hx]
  go_simp
theorem y_int (b i : Nat) (z : Int) (hw : Region.wanted o (yielded ops a.tmps) = true) (hS : ∀ w, S w → w.cell? ⟨b, i, none⟩ = some (.int .i64 z)) (x : Operand) (hx : a.eval x = .pointer (some ⟨b, i, none⟩)) (ho : o.op = .load 3 x) : YieldsIf Try.prog ops S o (.int .i64 z) a := .inl ⟨hw, fun w h => load_int w b i z (hS w h) hx ho⟩
theorem y_neqI (z : Int) (hw : Region.wanted o (yielded ops a.tmps) = true) (x y : Operand) (hx : a.eval x = .int .i64 z) (hy : a.eval y = .int .i64 z) (ho : o.op = .binOp .neq 3 x y 3) : YieldsIf Try.prog ops S o (.bool false) a := .inl ⟨hw, fun w _ => by
  unfold execOp
  simp only [ho, hx, hy]
  go_simp⟩
theorem y_neqB (z : Bool) (hw : Region.wanted o (yielded ops a.tmps) = true) (x y : Operand) (hx : a.eval x = .bool z) (hy : a.eval y = .bool z) (ho : o.op = .binOp .neq 4 x y 4) : YieldsIf Try.prog ops S o (.bool false) a := .inl ⟨hw, fun w _ => by
  unfold execOp
  simp only [ho, hx, hy]
  cases z <;> go_simp⟩
theorem y_gtr (z : Int) (hw : Region.wanted o (yielded ops a.tmps) = true) (x : Operand) (hx : a.eval x = .int .i64 z) (ho : o.op = .binOp .gtr 3 x (.const (.int .i64 0)) 3) : YieldsIf Try.prog ops S o (.bool (decide (0 < z))) a := .inl ⟨hw, fun w _ => by
  unfold execOp
  simp only [ho, hx]
  go_simp⟩
theorem rdropn_any (r g room next : Nat) (ps : List (Option SlotT)) (a b : Int) (w : World) (hR : RTlb w r g room next ps) :
    Calls Try.prog 13 #[.pointer (some ⟨r, 0, none⟩), .int .i64 0, .int .i64 a, .int .i64 b, .int .i64 0] w fun e w' => e = .returned (.int .i64 (dn (named a b) ps ps.length : Nat)) ∧ RTlb w' r g room next (delP a b ps) ∧ Ph.Only [g] w w' :=
  rdrop0_any r g room next ps a b w hR
theorem found_dn (a b : Int) (ps : List (Option SlotT)) : decide ((0 : Int) < (dn (named a b) ps ps.length : Nat)) = (findP a b 0 ps).isSome := by
  unfold dn
  rw [List.take_length]
  cases hf : findP a b 0 ps with
  | none =>
    have : (slots ps).filter (named a b) = [] := by
      refine List.filter_eq_nil_iff.2 (fun s hs => ?_)
      obtain ⟨j, hj⟩ := List.mem_iff_getElem?.1 (mem_slots.1 hs)
      rw [findP_none hf j s hj]
      decide
    rw [this]
    rfl
  | some h =>
    obtain ⟨k, s, hk, rfl, hn⟩ := findP_some hf
    have hm : s ∈ (slots ps).filter (named a b) := List.mem_filter.2 ⟨mem_slots.2 (List.mem_of_getElem? hk), hn⟩
    have := List.length_pos_of_mem hm
    simp only [Option.isSome_some, decide_eq_true_eq]
    omega
end Tl
end Go.Proofs.Ytcajclalpmfafaa
