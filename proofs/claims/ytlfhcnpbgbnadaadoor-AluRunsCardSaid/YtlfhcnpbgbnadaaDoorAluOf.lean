/-
  What the statements' of and ofEffect, and the document's own Done, answer; a load of a whole row inside a region that draws its order.
-/
import Derived.Test.YtlfhcnpbgbnadaaDoorAluDone
import Derived.Test.YtlfhcnpbgbnadaaDoorAluEq
namespace Go.Proofs.YtlfhcnpbgbnadaaDoor
open Go.RowKit Isa
namespace Alu

/-- A load of a whole row, in a region whose callees make memory. -/
theorem quiet_load {t : TypeId} {d : TypeDesc} {w : World} {ops : Array Oper} {rest : List Oper} {op : Oper} {a : Act} {Q : Act → Prop} (x : Operand) (b : Nat) (l : List Value) (hu : Tryd.prog.underlying t = some d) (hd : d.isRow = true) (hi : (Tryd.prog.info? t).map (·.size) = some l.length)
    (hw : Region.wanted op (yielded ops a.tmps) = true) (ho : op.op = .load t x) (hx : a.eval x = .pointer (some ⟨b, 0, none⟩)) (hb : Box w b l)
    (h : wpQuiet Tryd.prog ops (fun w' => ∃ p : Regrown, w' = Go.Sort.grow (redrawn w p.d) p.os) Q rest (a.put op.dst (.agg l.toArray))) : wpQuiet Tryd.prog ops (fun w' => ∃ p : Regrown, w' = Go.Sort.grow (redrawn w p.d) p.os) Q (op :: rest) a := by
  show (if Region.wanted op (yielded ops a.tmps) = true then _ else _)
  rw [if_pos hw]
  refine ⟨.agg l.toArray, fun w' hw' => ?_, h⟩
  obtain ⟨p, rfl⟩ := hw'
  have hb' := hb.kept (below_regrown w p.d p.os)
  unfold Oper.quietAt execOp
  simp only [ho, hx, Instr.loadAt, Instr.sureAddr, Sem.run_bind, Sem.run_pure, Result.andThen_ok, run_loadVar_mid _ b 0 t l d hb'.range hu hd hi]
  exact ⟨rfl, rfl⟩
set_option maxHeartbeats 2000000 in
theorem of_lit (r : Nat → Int) (pc : Int) (w : World) :
    Calls Tryd.prog 12 #[.agg #[.int .u32 (r 0), .int .u32 (r 1), .int .u32 (r 2), .int .u32 (r 3), .int .u32 (r 4), .int .u32 (r 5), .int .u32 (r 6), .int .u32 (r 7), .int .u32 (r 8), .int .u32 (r 9), .int .u32 (r 10), .int .u32 (r 11), .int .u32 (r 12), .int .u32 (r 13), .int .u32 (r 14), .int .u32 (r 15), .int .u32 pc]] w fun e w' => e = .returned (.agg #[.int .u32 (r 0), .int .u32 (r 1), .int .u32 (r 2), .int .u32 (r 3), .int .u32 (r 4), .int .u32 (r 5), .int .u32 (r 6), .int .u32 (r 7), .int .u32 (r 8), .int .u32 (r 9), .int .u32 (r 10), .int .u32 (r 11), .int .u32 (r 12), .int .u32 (r 13), .int .u32 (r 14), .int .u32 (r 15), .int .u32 pc]) ∧ Below w.heap.size w w' := by
  go_enter Tryd.func12, Tryd.ntmps12
  go_wp2
  refine bodyPost_ret (v := .agg #[.int .u32 (r 0), .int .u32 (r 1), .int .u32 (r 2), .int .u32 (r 3), .int .u32 (r 4), .int .u32 (r 5), .int .u32 (r 6), .int .u32 (r 7), .int .u32 (r 8), .int .u32 (r 9), .int .u32 (r 10), .int .u32 (r 11), .int .u32 (r 12), .int .u32 (r 13), .int .u32 (r 14), .int .u32 (r 15), .int .u32 pc]) (by simp [results, Tryd.results12, go_sem]) rfl ⟨rfl, ?_⟩
  exact ((Below.refl _ _).alloc (Nat.le_refl _) _).alloc (by simp) _
theorem of_any (r : Nat → Int) (pc : Int) (w : World) :
    Calls Tryd.prog 12 #[.agg (stL r pc).toArray] w fun e w' => e = .returned (.agg (stL r pc).toArray) ∧ Below w.heap.size w w' := of_lit r pc w
theorem ofE_any (k g x y : Int) (w : World) :
    Calls Tryd.prog 13 #[.agg #[.int .i64 k, .int .i64 g, .int .u32 x, .int .u32 y]] w fun e w' => e = .returned (.agg #[.int .i64 k, .int .i64 g, .int .u32 x, .int .u32 y]) ∧ Below w.heap.size w w' := by
  go_enter Tryd.func13, Tryd.ntmps13
  go_wp2
  refine bodyPost_ret (v := .agg #[.int .i64 k, .int .i64 g, .int .u32 x, .int .u32 y]) (by simp [results, Tryd.results13, go_sem]) rfl ⟨rfl, ?_⟩
  exact ((Below.refl _ _).alloc (Nat.le_refl _) _).alloc (by simp) _
end Alu
end Go.Proofs.YtlfhcnpbgbnadaaDoor
