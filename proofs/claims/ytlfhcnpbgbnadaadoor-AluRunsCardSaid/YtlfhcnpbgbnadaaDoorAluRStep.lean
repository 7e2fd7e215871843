/-
  What the document's own Step answers, at every state and word; no condition.
-/
import Derived.Test.YtlfhcnpbgbnadaaDoorAluRDone
import Derived.Test.YtlfhcnpbgbnadaaDoorIsaRef
namespace Go.Proofs.YtlfhcnpbgbnadaaDoor
open Go.RowKit Isa Nt
namespace Alu

/-- An effect of the document's own is stored. -/
theorem wlr_storeE {ops : Array Oper} {rest : List Oper} {op : Oper} {a : Act} {w : World} {Q : Exit → Act → World → Prop} (x y : Operand) (b : Nat) (v0 v1 v2 v3 u0 u1 u2 u3 : Value) (hgd : op.guard = none) (ho : op.op = .store 32 x y)
    (hx : a.eval x = .pointer (some ⟨b, 0, none⟩)) (hy : a.eval y = .agg #[v0, v1, v2, v3]) (hb : Box w b [u0, u1, u2, u3]) (h1 : ∀ v ∈ [v0, v1, v2, v3], v.oneCell' = true)
    (h : wpList Tryd.prog ops Q rest (a.put op.dst undef) (w.setCells b 0 [v0, v1, v2, v3])) : wpList Tryd.prog ops Q (op :: rest) a w :=
  wpList_store_mid hgd _ x y ho b 0 #[v0, v1, v2, v3] hx hy hb.there (by kernel_rfl) (all_oneCell_toArray h1) h
theorem rstep_boxes (w : World) (l : List Value) : Box (((w.alloc (.cells l.toArray 31)).alloc (.cells #[.int .u32 0, .int .u32 0, .int .u32 0, .int .u32 0, .int .u32 0, .int .u32 0, .int .u32 0, .int .u32 0, .int .u32 0, .int .u32 0, .int .u32 0, .int .u32 0, .int .u32 0, .int .u32 0, .int .u32 0, .int .u32 0, .int .u32 0] 31)).alloc (.cells #[.int .i64 0, .int .i64 0, .int .u32 0, .int .u32 0] 32)) w.heap.size l ∧ Box (((w.alloc (.cells l.toArray 31)).alloc (.cells #[.int .u32 0, .int .u32 0, .int .u32 0, .int .u32 0, .int .u32 0, .int .u32 0, .int .u32 0, .int .u32 0, .int .u32 0, .int .u32 0, .int .u32 0, .int .u32 0, .int .u32 0, .int .u32 0, .int .u32 0, .int .u32 0, .int .u32 0] 31)).alloc (.cells #[.int .i64 0, .int .i64 0, .int .u32 0, .int .u32 0] 32)) (w.heap.size + 1) (stL (fun _ => 0) 0) ∧ Box (((w.alloc (.cells l.toArray 31)).alloc (.cells #[.int .u32 0, .int .u32 0, .int .u32 0, .int .u32 0, .int .u32 0, .int .u32 0, .int .u32 0, .int .u32 0, .int .u32 0, .int .u32 0, .int .u32 0, .int .u32 0, .int .u32 0, .int .u32 0, .int .u32 0, .int .u32 0, .int .u32 0] 31)).alloc (.cells #[.int .i64 0, .int .i64 0, .int .u32 0, .int .u32 0] 32)) (w.heap.size + 1 + 1) [.int .i64 0, .int .i64 0, .int .u32 0, .int .u32 0] ∧ Below w.heap.size w (((w.alloc (.cells l.toArray 31)).alloc (.cells #[.int .u32 0, .int .u32 0, .int .u32 0, .int .u32 0, .int .u32 0, .int .u32 0, .int .u32 0, .int .u32 0, .int .u32 0, .int .u32 0, .int .u32 0, .int .u32 0, .int .u32 0, .int .u32 0, .int .u32 0, .int .u32 0, .int .u32 0] 31)).alloc (.cells #[.int .i64 0, .int .i64 0, .int .u32 0, .int .u32 0] 32)) := by
  have Y := (zeroBoxR (w.alloc (.cells l.toArray 31))).box (.cells #[.int .i64 0, .int .i64 0, .int .u32 0, .int .u32 0] 32)
  have Z := Box.new ((w.alloc (.cells l.toArray 31)).alloc (.cells #[.int .u32 0, .int .u32 0, .int .u32 0, .int .u32 0, .int .u32 0, .int .u32 0, .int .u32 0, .int .u32 0, .int .u32 0, .int .u32 0, .int .u32 0, .int .u32 0, .int .u32 0, .int .u32 0, .int .u32 0, .int .u32 0, .int .u32 0] 31)) [.int .i64 0, .int .i64 0, .int .u32 0, .int .u32 0] 32
  rw [World.size_alloc] at Y
  rw [World.size_alloc, World.size_alloc] at Z
  exact ⟨((Box.new w l 31).box _).box _, Y, Z, (((Below.refl _ _).alloc (Nat.le_refl _) _).alloc (by simp) _).alloc (by simp; omega) _⟩
set_option maxHeartbeats 2000000 in
set_option maxRecDepth 10000 in
theorem rstep_bad (l : List Value) (r : Nat → Int) (pc v : Int) (w : World) (hl : IsSt l r pc) (hv : W32 v) (hn : isI v = false) :
    Calls Tryd.prog 11 #[.agg l.toArray, .int .u32 v] w fun e w' => e = .returned (.tuple #[.agg l.toArray, .agg #[.int .i64 12, .int .i64 0, .int .u32 0, .int .u32 0]]) ∧ Below w.heap.size w w' := by
  have HL := Lib.hid hl
  have HV := Lib.hid hv
  have HD := Lib.hid (show decV v = .tuple #[.agg #[.int .i64 0, .int .i64 0, .int .i64 0, .int .i64 0], .bool false] by unfold decV; rw [if_neg (by rw [show right (dOp v) (dA v) (dB v) (dI v) = false from hn]; decide)])
  have S0 := Lib.hid (rstep_boxes w l)
  clear hl hv hn
  go_enter Tryd.func11, Tryd.ntmps11
  go_wp2_with fail
  refine (rdecode_any v _ HV.out.1 HV.out.2).mono ?_
  rw [HD.out]
  rintro e w1 ⟨rfl, hb1⟩
  have X1 := Lib.hid (S0.out.1.kept hb1)
  have Y1 := Lib.hid (S0.out.2.1.kept hb1)
  have Z1 := Lib.hid (S0.out.2.2.1.kept hb1)
  have B1 := Lib.hid (S0.out.2.2.2.trans (hb1.mono S0.out.2.2.2.size))
  clear hb1
  go_wp2_with (first | (with_reducible (show wpList _ _ _ (⟨_, .load _ (.tmp 2), _, _, _, _⟩ :: _) _ _); refine wlr_load (.tmp 2) _ _ rfl rfl rfl (X1.out.box _) HL.out.size ?_) | (with_reducible (show wpList _ _ _ (⟨_, .store _ (.tmp 4) (.tmp 20), _, _, _, _⟩ :: _) _ _); refine wlr_store (.tmp 4) (.tmp 20) _ _ _ rfl rfl rfl rfl (Y1.out.box _) (stL_is _ _).size HL.out.size HL.out.one ?_) | (with_reducible (show wpList _ _ _ (⟨_, .store _ (.tmp 5) (.tmp 21), _, _, _, _⟩ :: _) _ _); refine wlr_storeE (.tmp 5) (.tmp 21) _ _ _ _ _ _ _ _ _ rfl rfl rfl rfl ((Z1.out.box _).apart (by omega) _) (one4 _ _ _ _) ?_))
  have Y2 := ((Y1.out.box (.cells #[.int .i64 0, .int .i64 0, .int .i64 0, .int .i64 0] 59)).stored (l' := l) (by rw [HL.out.size, (stL_is _ _).size])).apart (b' := w.heap.size + 1 + 1) (by omega) [.int .i64 12, .int .i64 0, .int .u32 0, .int .u32 0]
  have Z2 := ((Z1.out.box (.cells #[.int .i64 0, .int .i64 0, .int .i64 0, .int .i64 0] 59)).apart (b' := w.heap.size + 1) (by omega) l).stored (l' := [.int .i64 12, .int .i64 0, .int .u32 0, .int .u32 0]) rfl
  refine bodyPost_ret (res_two Tryd.results11 _ rfl rfl (run_load17 Tryd.underlying31 rfl (by rw [HL.out.size]; kernel_rfl) Y2) (run_load17 Tryd.underlying32 rfl (by kernel_rfl) Z2)) rfl ⟨rfl, ?_⟩
  exact below_setCells _ _ _ (below_setCells _ _ _ (B1.out.alloc B1.out.size _) (by omega)) (by omega)
/-! ### What is put -/
theorem put_eq {r : Nat → Int} {pc V P : Int} {op a b imm : Nat} (ha : a < 16) (hp : puts op = true) (hv : V = res r pc op a b imm) (hn : P = nxt r pc op a b imm) : (stL r P).set a (.int .u32 V) = stL (rNew r pc op a b imm) (nxt r pc op a b imm) := by
  rw [IsSt.eq ((stL_is r P).setReg a ha V), ← hn, hv]
  congr 1
  funext j
  unfold rNew
  by_cases e : j = a
  · rw [if_pos e, if_pos ⟨hp, e⟩]
  · rw [if_neg e, if_neg (fun x => e x.2)]
theorem rNew_none {r : Nat → Int} {pc : Int} {op a b imm : Nat} (hp : puts op = false) : rNew r pc op a b imm = r := by
  funext j
  unfold rNew
  rw [if_neg (by rw [hp]; simp)]
theorem none_eq {r : Nat → Int} {pc P : Int} {op a b imm : Nat} (hp : puts op = false) (hn : P = nxt r pc op a b imm) : stL r P = stL (rNew r pc op a b imm) (nxt r pc op a b imm) := by
  rw [rNew_none hp, hn]
theorem pc_eq {r : Nat → Int} {pc P Q : Int} {op a b imm : Nat} (hp : puts op = false) (hn : Q = nxt r pc op a b imm) : (stL r P).set 16 (.int .u32 Q) = stL (rNew r pc op a b imm) (nxt r pc op a b imm) := by
  rw [IsSt.eq ((stL_is r P).setPc Q), rNew_none hp, hn]
theorem jal_eq {r : Nat → Int} {pc V P Q : Int} {op a b imm : Nat} (ha : a < 16) (hp : puts op = true) (hv : V = res r pc op a b imm) (hn : Q = nxt r pc op a b imm) : ((stL r P).set a (.int .u32 V)).set 16 (.int .u32 Q) = stL (rNew r pc op a b imm) (nxt r pc op a b imm) := by
  rw [IsSt.eq (((stL_is r P).setReg a ha V).setPc Q), ← hn, hv]
  congr 1
  funext j
  unfold rNew
  by_cases e : j = a
  · rw [if_pos e, if_pos ⟨hp, e⟩]
  · rw [if_neg e, if_neg (fun x => e x.2)]
theorem eA_mem {r : Nat → Int} {op b imm : Nat} (h : 12 ≤ op ∧ op ≤ 15) : eA r op b imm = (r b + sgn imm) % 4294967296 := by
  unfold eA sw
  rw [if_pos h]
  omega
theorem taken16 (x y : Int) (w : World) : Calls Tryd.prog 27 #[.int .i64 16, .int .u32 x, .int .u32 y] w fun e w' => e = .returned (.bool (x == y)) ∧ w = w' := by
  go_enter Tryd.func27, Tryd.ntmps27
  go_wp2
  go_ret
  exact ⟨rfl, rfl⟩
theorem taken17 (x y : Int) (w : World) : Calls Tryd.prog 27 #[.int .i64 17, .int .u32 x, .int .u32 y] w fun e w' => e = .returned (.bool (x != y)) ∧ w = w' := by
  go_enter Tryd.func27, Tryd.ntmps27
  go_wp2
  go_ret
  exact ⟨rfl, rfl⟩
theorem taken18 (x y : Int) (w : World) : Calls Tryd.prog 27 #[.int .i64 18, .int .u32 x, .int .u32 y] w fun e w' => e = .returned (.bool (decide (x < y))) ∧ w = w' := by
  go_enter Tryd.func27, Tryd.ntmps27
  go_wp2
  go_ret
  exact ⟨rfl, rfl⟩
end Alu
end Go.Proofs.YtlfhcnpbgbnadaaDoor
