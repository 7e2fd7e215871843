/-
  What alu's Step answers, at every state and word; the condition: the table of operations lies as the program's text lays it.
-/
import Derived.Test.YtlfhcnpbgbnadaaDoorAluRes
import Derived.Test.YtlfhcnpbgbnadaaDoorAluEff
import Derived.Deep.RegionHeld3
namespace Go.Proofs.YtlfhcnpbgbnadaaDoor
open Go.RowKit Isa Nt
namespace Alu

theorem run_load17 {t : TypeId} {d : TypeDesc} {w : World} {b : Nat} {l : List Value} (hu : Tryd.prog.underlying t = some d) (hd : d.isRow = true) (hi : (Tryd.prog.info? t).map (·.size) = some l.length) (hb : Box w b l) :
    (loadVar t ⟨b, 0, none⟩).run Tryd.prog w = .ok (.agg l.toArray) w := run_loadVar_mid w b 0 t l d hb.range hu hd hi
theorem res_two {fn : Func} {p q : Tmp} {t u : TypeId} (h : fn.results = #[.cell p t, .cell q u]) (tmps : Array Value) {w : World} {b b' : Nat} {v v' : Value}
    (hp : tmps.getD p undef = .pointer (some ⟨b, 0, none⟩)) (hq : tmps.getD q undef = .pointer (some ⟨b', 0, none⟩))
    (h1 : (loadVar t ⟨b, 0, none⟩).run Tryd.prog w = .ok v w) (h2 : (loadVar u ⟨b', 0, none⟩).run Tryd.prog w = .ok v' w) :
    (results fn tmps).run Tryd.prog w = .ok (.tuple #[v, v']) w := by
  have hp' : tmps[p]?.getD undef = .pointer (some ⟨b, 0, none⟩) := by simpa using hp
  have hq' : tmps[q]?.getD undef = .pointer (some ⟨b', 0, none⟩) := by simpa using hq
  simp [results, h, hp', hq', asAddr, h1, h2]
theorem res_one {fn : Func} {p : Tmp} {t : TypeId} (h : fn.results = #[.cell p t]) (tmps : Array Value) {w : World} {b : Nat} {v : Value}
    (hp : tmps.getD p undef = .pointer (some ⟨b, 0, none⟩)) (h1 : (loadVar t ⟨b, 0, none⟩).run Tryd.prog w = .ok v w) :
    (results fn tmps).run Tryd.prog w = .ok v w := by
  have hp' : tmps[p]?.getD undef = .pointer (some ⟨b, 0, none⟩) := by simpa using hp
  simp [results, h, hp', asAddr, h1]
theorem res_three {fn : Func} {p q s : Tmp} {t u : TypeId} (h : fn.results = #[.cell p t, .cell q u, .tmp s]) (tmps : Array Value) {w : World} {b b' : Nat} {v v' v'' : Value}
    (hp : tmps.getD p undef = .pointer (some ⟨b, 0, none⟩)) (hq : tmps.getD q undef = .pointer (some ⟨b', 0, none⟩)) (hs : tmps.getD s undef = v'')
    (h1 : (loadVar t ⟨b, 0, none⟩).run Tryd.prog w = .ok v w) (h2 : (loadVar u ⟨b', 0, none⟩).run Tryd.prog w = .ok v' w) :
    (results fn tmps).run Tryd.prog w = .ok (.tuple #[v, v', v'']) w := by
  have hp' : tmps[p]?.getD undef = .pointer (some ⟨b, 0, none⟩) := by simpa using hp
  have hq' : tmps[q]?.getD undef = .pointer (some ⟨b', 0, none⟩) := by simpa using hq
  have hs' : tmps[s]?.getD undef = v'' := by simpa using hs
  simp [results, h, hp', hq', hs', asAddr, h1, h2]
/-- An effect is stored. -/
theorem wl_storeE {ops : Array Oper} {rest : List Oper} {op : Oper} {a : Act} {w : World} {Q : Exit → Act → World → Prop} (x y : Operand) (b : Nat) (v0 v1 v2 v3 u0 u1 u2 u3 : Value) (hgd : op.guard = none) (ho : op.op = .store 28 x y)
    (hx : a.eval x = .pointer (some ⟨b, 0, none⟩)) (hy : a.eval y = .agg #[v0, v1, v2, v3]) (hb : Box w b [u0, u1, u2, u3]) (h1 : ∀ v ∈ [v0, v1, v2, v3], v.oneCell' = true)
    (h : wpList Tryd.prog ops Q rest (a.put op.dst undef) (w.setCells b 0 [v0, v1, v2, v3])) : wpList Tryd.prog ops Q (op :: rest) a w :=
  wpList_store_mid hgd _ x y ho b 0 #[v0, v1, v2, v3] hx hy hb.there (by kernel_rfl) (all_oneCell_toArray h1) h

/-- A row is stored, inside a region that draws its order. -/
theorem so_store {t : TypeId} {op : Oper} {a : Act} {w : World} {K : Act → World → Prop} {Q : Exit → Act → World → Prop} (x y : Operand) (b : Nat) (l l' : List Value) (ho : op.op = .store t x y)
    (hx : a.eval x = .pointer (some ⟨b, 0, none⟩)) (hy : a.eval y = .agg l'.toArray) (hb : Box w b l) (hl : l'.length = l.length) (hi : (Tryd.prog.info? t).map (·.size) = some l'.length) (h1 : ∀ v ∈ l', v.oneCell' = true)
    (h : K (a.put op.dst undef) (w.setCells b 0 l')) : op.wp Tryd.prog a w K Q :=
  wp_store_mid t x y ho b 0 l'.toArray hx hy (by have := hb.there; rw [← hl] at this; simpa using this) (by simpa using hi) (all_oneCell_toArray h1) (by simpa using h)

/-- An instruction's numbers. -/
def oN (v : Int) : Nat := (dOp v).toNat
def aN (v : Int) : Nat := (dA v).toNat
def bN (v : Int) : Nat := (dB v).toNat
def iN (v : Int) : Nat := (dI v).toNat
/-- Is a word an instruction's? -/
def isI (v : Int) : Bool := right (dOp v) (dA v) (dB v) (dI v)
/-- The registers, the PC and the effect behind a Step. -/
def sR (r : Nat → Int) (pc v : Int) : Nat → Int := if isI v = true then rNew r pc (oN v) (aN v) (bN v) (iN v) else r
def sP (r : Nat → Int) (pc v : Int) : Int := if isI v = true then nxt r pc (oN v) (aN v) (bN v) (iN v) else pc
def sK (v : Int) : Int := if isI v = true then eK (oN v) else 12
def sG (v : Int) : Int := if isI v = true then eR (oN v) (aN v) else 0
def sA (r : Nat → Int) (v : Int) : Int := if isI v = true then eA r (oN v) (bN v) (iN v) else 0
def sV (r : Nat → Int) (v : Int) : Int := if isI v = true then eV r (oN v) (aN v) (iN v) else 0
/-- What Step answers. -/
def stepV (r : Nat → Int) (pc v : Int) : Value := .tuple #[.agg (stL (sR r pc v) (sP r pc v)).toArray, .agg #[.int .i64 (sK v), .int .i64 (sG v), .int .u32 (sA r v), .int .u32 (sV r v)]]
/-- The boxes that Step lays first. -/
theorem step_boxes (w : World) (l : List Value) : Box (((w.alloc (.cells l.toArray 25)).alloc (.cells #[.int .u32 0, .int .u32 0, .int .u32 0, .int .u32 0, .int .u32 0, .int .u32 0, .int .u32 0, .int .u32 0, .int .u32 0, .int .u32 0, .int .u32 0, .int .u32 0, .int .u32 0, .int .u32 0, .int .u32 0, .int .u32 0, .int .u32 0] 25)).alloc (.cells #[.int .i64 0, .int .i64 0, .int .u32 0, .int .u32 0] 28)) w.heap.size l ∧
    Box (((w.alloc (.cells l.toArray 25)).alloc (.cells #[.int .u32 0, .int .u32 0, .int .u32 0, .int .u32 0, .int .u32 0, .int .u32 0, .int .u32 0, .int .u32 0, .int .u32 0, .int .u32 0, .int .u32 0, .int .u32 0, .int .u32 0, .int .u32 0, .int .u32 0, .int .u32 0, .int .u32 0] 25)).alloc (.cells #[.int .i64 0, .int .i64 0, .int .u32 0, .int .u32 0] 28)) (w.heap.size + 1) (stL (fun _ => 0) 0) ∧
    Box (((w.alloc (.cells l.toArray 25)).alloc (.cells #[.int .u32 0, .int .u32 0, .int .u32 0, .int .u32 0, .int .u32 0, .int .u32 0, .int .u32 0, .int .u32 0, .int .u32 0, .int .u32 0, .int .u32 0, .int .u32 0, .int .u32 0, .int .u32 0, .int .u32 0, .int .u32 0, .int .u32 0] 25)).alloc (.cells #[.int .i64 0, .int .i64 0, .int .u32 0, .int .u32 0] 28)) (w.heap.size + 1 + 1) [.int .i64 0, .int .i64 0, .int .u32 0, .int .u32 0] ∧
    Below w.heap.size w (((w.alloc (.cells l.toArray 25)).alloc (.cells #[.int .u32 0, .int .u32 0, .int .u32 0, .int .u32 0, .int .u32 0, .int .u32 0, .int .u32 0, .int .u32 0, .int .u32 0, .int .u32 0, .int .u32 0, .int .u32 0, .int .u32 0, .int .u32 0, .int .u32 0, .int .u32 0, .int .u32 0] 25)).alloc (.cells #[.int .i64 0, .int .i64 0, .int .u32 0, .int .u32 0] 28)) := by
  have Y := (Box.new (w.alloc (.cells l.toArray 25)) (stL (fun _ => 0) 0) 25).box (.cells #[.int .i64 0, .int .i64 0, .int .u32 0, .int .u32 0] 28)
  have Z := Box.new ((w.alloc (.cells l.toArray 25)).alloc (.cells #[.int .u32 0, .int .u32 0, .int .u32 0, .int .u32 0, .int .u32 0, .int .u32 0, .int .u32 0, .int .u32 0, .int .u32 0, .int .u32 0, .int .u32 0, .int .u32 0, .int .u32 0, .int .u32 0, .int .u32 0, .int .u32 0, .int .u32 0] 25)) [.int .i64 0, .int .i64 0, .int .u32 0, .int .u32 0] 28
  rw [World.size_alloc] at Y
  rw [World.size_alloc, World.size_alloc] at Z
  exact ⟨((Box.new w l 25).box _).box _, Y, Z, (((Below.refl _ _).alloc (Nat.le_refl _) _).alloc (by simp) _).alloc (by simp; omega) _⟩
theorem one4 (a b c d : Int) : ∀ v ∈ [Value.int .i64 a, .int .i64 b, .int .u32 c, .int .u32 d], v.oneCell' = true := by
  intro v hv
  simp only [List.mem_cons, List.not_mem_nil, or_false] at hv
  rcases hv with rfl | rfl | rfl | rfl <;> rfl
set_option maxHeartbeats 2000000 in
theorem step_bad (l : List Value) (r : Nat → Int) (pc v : Int) (w : World) (hO : OpsIn w) (hl : IsSt l r pc) (hv : W32 v) (hn : isI v = false) :
    Calls Tryd.prog 10 #[.agg l.toArray, .int .u32 v] w fun e w' => e = .returned (.tuple #[.agg l.toArray, .agg #[.int .i64 12, .int .i64 0, .int .u32 0, .int .u32 0]]) ∧ Below w.heap.size w w' := by
  have HO := Lib.hid hO
  have HL := Lib.hid hl
  have HV := Lib.hid hv
  have HD := Lib.hid (show decV v = .tuple #[.agg #[.int .i64 0, .int .i64 0, .int .i64 0, .int .i64 0], .bool false] by unfold decV; rw [if_neg (by rw [show right (dOp v) (dA v) (dB v) (dI v) = false from hn]; decide)])
  have S0 := Lib.hid (step_boxes w l)
  clear hO hl hv hn
  go_enter Tryd.func10, Tryd.ntmps10
  go_wp2_with fail
  refine (decode_any v _ (((HO.out.box _).box _).box _) HV.out.1 HV.out.2).mono ?_
  rw [HD.out]
  rintro e w1 ⟨rfl, hb1⟩
  have X1 := Lib.hid (S0.out.1.kept hb1)
  have Y1 := Lib.hid (S0.out.2.1.kept hb1)
  have Z1 := Lib.hid (S0.out.2.2.1.kept hb1)
  have B1 := Lib.hid (S0.out.2.2.2.trans (hb1.mono S0.out.2.2.2.size))
  clear hb1
  go_wp2_with (first | (refine wl_load (.tmp 2) _ _ rfl rfl rfl (X1.out.box _) HL.out.size ?_) | (refine wl_store (.tmp 4) (.tmp 18) _ _ _ rfl rfl rfl rfl (Y1.out.box _) (stL_is _ _).size HL.out.size HL.out.one ?_) | (refine wl_storeE (.tmp 5) (.tmp 19) _ _ _ _ _ _ _ _ _ rfl rfl rfl rfl ((Z1.out.box _).apart (by omega) _) (one4 _ _ _ _) ?_))
  have Y2 := ((Y1.out.box (.cells #[.int .i64 0, .int .i64 0, .int .i64 0, .int .i64 0] 50)).stored (l' := l) (by rw [HL.out.size, (stL_is _ _).size])).apart (b' := w.heap.size + 1 + 1) (by omega) [.int .i64 12, .int .i64 0, .int .u32 0, .int .u32 0]
  have Z2 := ((Z1.out.box (.cells #[.int .i64 0, .int .i64 0, .int .i64 0, .int .i64 0] 50)).apart (b' := w.heap.size + 1) (by omega) l).stored (l' := [.int .i64 12, .int .i64 0, .int .u32 0, .int .u32 0]) rfl
  refine bodyPost_ret (res_two Tryd.results10 _ rfl rfl (run_load17 Tryd.underlying25 rfl (by rw [HL.out.size]; kernel_rfl) Y2) (run_load17 Tryd.underlying28 rfl (by kernel_rfl) Z2)) rfl ⟨rfl, ?_⟩
  exact below_setCells _ _ _ (below_setCells _ _ _ (B1.out.alloc B1.out.size _) (by omega)) (by omega)

theorem Box.drew {w : World} {b : Nat} {l : List Value} (h : Box w b l) : Box w.drew b l := h.kept (Below.refl _ _).drew
/-- Four cells are turned. -/
theorem Box.put4 {w : World} {b : Nat} {u0 u1 u2 u3 : Value} (h : Box w b [u0, u1, u2, u3]) (v0 v1 v2 v3 : Value) : Box (wr4 w b v0 v1 v2 v3) b [v0, v1, v2, v3] :=
  (((h.put 0 (by simp) v0).put 1 (by simp) v1).put 2 (by simp) v2).put 3 (by simp) v3
theorem Box.apart4 {w : World} {b b' : Nat} {l : List Value} (h : Box w b l) (hne : b ≠ b') (v0 v1 v2 v3 : Value) : Box (wr4 w b' v0 v1 v2 v3) b l :=
  (((h.putApart hne 0 v0).putApart hne 1 v1).putApart hne 2 v2).putApart hne 3 v3
set_option maxHeartbeats 4000000 in
set_option maxRecDepth 100000 in
theorem step_good (l : List Value) (r : Nat → Int) (pc v : Int) (op a b imm : Nat) (w : World) (hO : OpsIn w) (hl : IsSt l r pc) (hR : R32 r) (hv : W32 v) (hd : decV v = .tuple #[.agg #[.int .i64 op, .int .i64 a, .int .i64 b, .int .i64 imm], .bool true])
    (ho : op < 28) (ha : a < 16) (hb : b < 16) (hi : imm < 65536) (h3 : 3 ≤ op → op ≤ 10 → imm < 16) :
    Calls Tryd.prog 10 #[.agg l.toArray, .int .u32 v] w fun e w' => e = .returned (.tuple #[.agg (stL (rNew r pc op a b imm) (nxt r pc op a b imm)).toArray, effV r op a b imm]) ∧ Below w.heap.size w w' := by
  have HO := Lib.hid hO
  have HL := Lib.hid hl
  have HV := Lib.hid hv
  have HD := Lib.hid hd
  have HR := Lib.hid hR
  have H3 := Lib.hid h3
  have S0 := Lib.hid (step_boxes w l)
  clear hO hl hv hd hR h3
  go_enter Tryd.func10, Tryd.ntmps10
  go_wp2_with fail
  refine (decode_any v _ (((HO.out.box _).box _).box _) HV.out.1 HV.out.2).mono ?_
  rw [HD.out]
  rintro e w1 ⟨rfl, hb1⟩
  have X2 := Lib.hid ((S0.out.1.kept hb1).box (.cells #[.int .i64 op, .int .i64 a, .int .i64 b, .int .i64 imm] 50))
  have Y2 := Lib.hid ((S0.out.2.1.kept hb1).box (.cells #[.int .i64 op, .int .i64 a, .int .i64 b, .int .i64 imm] 50))
  have Z2 := Lib.hid ((S0.out.2.2.1.kept hb1).box (.cells #[.int .i64 op, .int .i64 a, .int .i64 b, .int .i64 imm] 50))
  have I2 := Lib.hid (Box.new w1 [.int .i64 op, .int .i64 a, .int .i64 b, .int .i64 imm] 50)
  have B1 := S0.out.2.2.2.trans (hb1.mono S0.out.2.2.2.size)
  have B2 := Lib.hid (B1.alloc B1.size (.cells #[.int .i64 op, .int .i64 a, .int .i64 b, .int .i64 imm] 50))
  have lz := Lib.hid (S0.out.2.2.1.kept hb1).lt
  clear hb1 B1
  have N3 := Box.new (w1.alloc (.cells #[.int .i64 op, .int .i64 a, .int .i64 b, .int .i64 imm] 50)) (stL (fun _ => 0) 0) 25
  rw [World.size_alloc] at N3
  have N4 := Lib.hid (N3.stored (l' := l) (by rw [HL.out.size, (stL_is _ _).size]))
  have NH := Lib.hid N3
  have X4 := Lib.hid ((X2.out.box (.cells #[.int .u32 0, .int .u32 0, .int .u32 0, .int .u32 0, .int .u32 0, .int .u32 0, .int .u32 0, .int .u32 0, .int .u32 0, .int .u32 0, .int .u32 0, .int .u32 0, .int .u32 0, .int .u32 0, .int .u32 0, .int .u32 0, .int .u32 0] 25)).apart (b' := w1.heap.size + 1) (by have := lz.out; omega) l)
  have Y4 := Lib.hid ((Y2.out.box (.cells #[.int .u32 0, .int .u32 0, .int .u32 0, .int .u32 0, .int .u32 0, .int .u32 0, .int .u32 0, .int .u32 0, .int .u32 0, .int .u32 0, .int .u32 0, .int .u32 0, .int .u32 0, .int .u32 0, .int .u32 0, .int .u32 0, .int .u32 0] 25)).apart (b' := w1.heap.size + 1) (by have := lz.out; omega) l)
  have Z4 := Lib.hid ((Z2.out.box (.cells #[.int .u32 0, .int .u32 0, .int .u32 0, .int .u32 0, .int .u32 0, .int .u32 0, .int .u32 0, .int .u32 0, .int .u32 0, .int .u32 0, .int .u32 0, .int .u32 0, .int .u32 0, .int .u32 0, .int .u32 0, .int .u32 0, .int .u32 0] 25)).apart (b' := w1.heap.size + 1) (by have := lz.out; omega) l)
  have I4 := Lib.hid ((I2.out.box (.cells #[.int .u32 0, .int .u32 0, .int .u32 0, .int .u32 0, .int .u32 0, .int .u32 0, .int .u32 0, .int .u32 0, .int .u32 0, .int .u32 0, .int .u32 0, .int .u32 0, .int .u32 0, .int .u32 0, .int .u32 0, .int .u32 0, .int .u32 0] 25)).apart (b' := w1.heap.size + 1) (by omega) l)
  have B4 := Lib.hid (below_setCells (b := w1.heap.size + 1) l 0 _ (B2.out.alloc B2.out.size (.cells #[.int .u32 0, .int .u32 0, .int .u32 0, .int .u32 0, .int .u32 0, .int .u32 0, .int .u32 0, .int .u32 0, .int .u32 0, .int .u32 0, .int .u32 0, .int .u32 0, .int .u32 0, .int .u32 0, .int .u32 0, .int .u32 0, .int .u32 0] 25)) (by have := B2.out.size; simp at this; omega))
  clear N3
  have i0 := I4.out.at 0 rfl
  have i1 := I4.out.at 1 rfl
  have i2 := I4.out.at 2 rfl
  have i3 := I4.out.at 3 rfl
  go_wp2_with (first | (refine wl_load (.tmp 2) _ _ rfl rfl rfl (by first | exact X2.out | exact X4.out) HL.out.size ?_) | (refine wl_store (.tmp 8) (.tmp 20) _ _ _ rfl rfl rfl rfl NH.out (stL_is _ _).size HL.out.size HL.out.one ?_))
  refine (nextPC_any _ _ _ _ _ _ _ _ HL.out ha hb).mono ?_
  rintro e w5 ⟨rfl, hb5⟩
  have X5 := Lib.hid (X4.out.kept hb5)
  have Y5 := Lib.hid (Y4.out.kept hb5)
  have Z5 := Lib.hid (Z4.out.kept hb5)
  have I5 := Lib.hid (I4.out.kept hb5)
  have N5 := Lib.hid (N4.out.kept hb5)
  have B5 := Lib.hid (B4.out.trans (hb5.mono B4.out.size))
  have n16 := N5.out.at 16 HL.out.pc
  have f16 := N5.out.fz 16 (by rw [HL.out.size]; decide)
  have lw := Lib.hid (show w.heap.size ≤ w1.heap.size + 1 by have := lz.out; omega)
  have X6 := Lib.hid (X5.out.putApart (b' := w1.heap.size + 1) (by have := lz.out; omega) 16 (.int .u32 (nxt r pc op a b imm)))
  have Y6 := Lib.hid (Y5.out.putApart (b' := w1.heap.size + 1) (by have := lz.out; omega) 16 (.int .u32 (nxt r pc op a b imm)))
  have Z6 := Lib.hid (Z5.out.putApart (b' := w1.heap.size + 1) (by have := lz.out; omega) 16 (.int .u32 (nxt r pc op a b imm)))
  have I6 := Lib.hid (I5.out.putApart (b' := w1.heap.size + 1) (by omega) 16 (.int .u32 (nxt r pc op a b imm)))
  have N6 := Lib.hid (N5.out.put 16 (by rw [HL.out.size]; decide) (.int .u32 (nxt r pc op a b imm)))
  have B6 := Lib.hid (B5.out.setCell (p := ⟨w1.heap.size + 1, 16, none⟩) lw.out (.int .u32 (nxt r pc op a b imm)))
  clear hb5 i0 i1 i2 i3 B2 B4 B5 I2 I4 I5 X2 X4 X5 Y2 Y4 Y5 Z2 Z4 Z5 NH N4 N5 HO HV HD S0
  have i0 := I6.out.at 0 rfl
  have i1 := I6.out.at 1 rfl
  have i2 := I6.out.at 2 rfl
  have i3 := I6.out.at 3 rfl
  go_wp2_with (first | (refine wl_load (.tmp 2) _ _ rfl rfl rfl X6.out HL.out.size ?_))
  refine (result_any _ _ _ _ _ _ _ _ HL.out HR.out ha hb hi H3.out).mono ?_
  rintro e w7 ⟨rfl, hb7⟩
  have X7 := Lib.hid (X6.out.kept hb7)
  have Y7 := Lib.hid (Y6.out.kept hb7)
  have Z7 := Lib.hid (Z6.out.kept hb7)
  have I7 := Lib.hid (I6.out.kept hb7)
  have N7 := Lib.hid (N6.out.kept hb7)
  have B7 := Lib.hid (B6.out.trans (hb7.mono B6.out.size))
  clear hb7 i0 i1 i2 i3 n16 f16 B6 X6 Y6 Z6 I6 N6
  have L7 := Lib.hid (HL.out.setPc (nxt r pc op a b imm))
  cases hp : puts op
  · have E8 := Lib.hid (show rNew r pc op a b imm = r by funext j; unfold rNew; rw [if_neg (by rw [hp]; simp)])
    have H8 := Lib.hid (show IsSt (l.set 16 (.int .u32 (nxt r pc op a b imm))) (rNew r pc op a b imm) (nxt r pc op a b imm) by rw [E8.out]; exact L7.out)
    rw [show resV r pc op a b imm = .tuple #[.int .u32 (res r pc op a b imm), .bool false] by unfold resV; rw [hp]]
    have hu : Tryd.prog.underlying 25 = some _ := Tryd.underlying25
    have hv : Tryd.prog.underlying 50 = some _ := Tryd.underlying50
    have hz : (Tryd.prog.info? 25).map (·.size) = some 17 := by kernel_rfl
    have hz1 : (Tryd.prog.info? 25).map (·.size) = some l.length := by rw [HL.out.size]; exact hz
    have hz2 : (Tryd.prog.info? 25).map (·.size) = some (l.set 16 (.int .u32 (nxt r pc op a b imm))).length := by rw [H8.out.size]; exact hz
    have hS : Box w7.drew (w1.heap.size + 1) (l.set 16 (.int .u32 (nxt r pc op a b imm))) ∧ Box w7.drew w.heap.size l ∧ Box w7.drew w1.heap.size [.int .i64 op, .int .i64 a, .int .i64 b, .int .i64 imm] := ⟨N7.out.drew, X7.out.drew, I7.out.drew⟩
    have LZ := lz.out
    go_wp2_with fail
    refine wp_region_noPanic ?_
    refine wp_region_held_drew (S := fun w' => Box w' (w1.heap.size + 1) (l.set 16 (.int .u32 (nxt r pc op a b imm))) ∧ Box w' w.heap.size l ∧ Box w' w1.heap.size [.int .i64 op, .int .i64 a, .int .i64 b, .int .i64 imm]) (by kernel_rfl) hS (fun _ => ?_)
    refine wpAnyH_take (i := 0) (oi := ⟨some 37, .load 25 (.tmp 8), _, _, _, _⟩) rfl (by kernel_rfl) (by kernel_rfl) (by kernel_rfl) (fun _ _ _ h => h) (yieldsIf_load_mid (by rfl) _ _ rfl _ _ rfl _ _ (fun _ h => h.1.range) hu rfl hz2) hS ?_
    refine wpAnyH_take (i := 1) (oi := ⟨some 38, .load 25 (.tmp 2), _, _, _, _⟩) rfl (by kernel_rfl) (by kernel_rfl) (by kernel_rfl) (fun _ _ _ h => h) (yieldsIf_load_mid (by rfl) _ _ rfl _ _ rfl _ _ (fun _ h => h.2.1.range) hu rfl hz1) hS ?_
    refine wpAnyH_take (i := 2) (oi := ⟨some 39, .load 50 (.tmp 6), _, _, _, _⟩) rfl (by kernel_rfl) (by kernel_rfl) (by kernel_rfl) (fun _ _ _ h => h) (yieldsIf_load_mid (by rfl) _ _ rfl _ _ rfl _ _ (fun _ h => h.2.2.range) hv rfl (by kernel_rfl)) hS ?_
    simp only [Act.put, List.setIfInBounds_toArray, List.set_cons_zero, List.set_cons_succ]
    refine wpAnyH_ready (rs := [3]) (by kernel_rfl) (by simp) ?_
    refine AllReadyH.cons (o := ⟨some 40, .call _, _, _, _, _⟩) rfl (fun K hK => ?_) AllReadyH.nil
    go_simp
    refine (effect_any _ _ _ _ _ _ _ _ HL.out ho ha hb hi).mono ?_
    rintro e w9 ⟨rfl, hb9⟩
    have Y9 := Y7.out.drew.kept hb9
    have Z9 := Z7.out.drew.kept hb9
    have B9 := B7.out.drew.trans (hb9.mono B7.out.drew.size)
    have N9 := hS.1.kept hb9
    have X9 := hS.2.1.kept hb9
    have I9 := hS.2.2.kept hb9
    refine hK.out _ _ ⟨N9, X9, I9⟩ (fun _ => ?_)
    clear hK K hb9
    unfold effV
    refine wpAnyH_ready (rs := [4]) (by kernel_rfl) (by simp) ?_
    refine AllReadyH.cons (o := ⟨none, .store 25 (.tmp 4) (.tmp 37), _, _, _, _⟩) rfl (fun K hK => ?_) AllReadyH.nil
    rw [if_pos (by rfl)]
    refine so_store (.tmp 4) (.tmp 37) _ _ _ rfl rfl rfl Y9 (by rw [H8.out.size, (stL_is _ _).size]) hz2 H8.out.one ?_
    refine hK.out _ _ ⟨N9.apart (by omega) _, X9.apart (by omega) _, I9.apart (by omega) _⟩ (fun _ => ?_)
    clear hK K
    refine wpAnyH_ready (rs := [5]) (by kernel_rfl) (by simp) ?_
    refine AllReadyH.cons (o := ⟨none, .store 28 (.tmp 5) (.tmp 40), _, _, _, _⟩) rfl (fun K hK => ?_) AllReadyH.nil
    rw [if_pos (by rfl)]
    have Z10 := Z9.apart (b' := w.heap.size + 1) (by omega) (l.set 16 (.int .u32 (nxt r pc op a b imm)))
    refine so_store (.tmp 5) (.tmp 40) _ _ [.int .i64 (eK op), .int .i64 (eR op a), .int .u32 (eA r op b imm), .int .u32 (eV r op a imm)] rfl rfl rfl Z10 rfl (by kernel_rfl) (one4 _ _ _ _) ?_
    refine hK.out _ _ ⟨(N9.apart (by omega) _).apart (by omega) _, (X9.apart (by omega) _).apart (by omega) _, (I9.apart (by omega) _).apart (by omega) _⟩ (fun _ => ?_)
    clear hK K
    refine wpAnyH_done (by kernel_rfl) ?_ _
    have Y11 := (Y9.stored (l' := l.set 16 (.int .u32 (nxt r pc op a b imm))) (by rw [H8.out.size, (stL_is _ _).size])).apart (b' := w.heap.size + 1 + 1) (by omega) [.int .i64 (eK op), .int .i64 (eR op a), .int .u32 (eA r op b imm), .int .u32 (eV r op a imm)]
    have Z11 := Z10.stored (l' := [.int .i64 (eK op), .int .i64 (eR op a), .int .u32 (eA r op b imm), .int .u32 (eV r op a imm)]) rfl
    have B11 : Below w.heap.size w ((w9.setCells (w.heap.size + 1) 0 (l.set 16 (.int .u32 (nxt r pc op a b imm)))).setCells (w.heap.size + 1 + 1) 0 [.int .i64 (eK op), .int .i64 (eR op a), .int .u32 (eA r op b imm), .int .u32 (eV r op a imm)]) := below_setCells _ _ _ (below_setCells _ _ _ B9 (by omega)) (by omega)
    refine NoPanic.normal ?_
    simp only [Act.put]
    have YH := Lib.hid Y11
    have ZH := Lib.hid Z11
    have BH := Lib.hid B11
    clear Y11 Z11 B11 Y9 Z9 B9 N9 X9 I9 Z10 hS
    generalize ((w9.setCells (w.heap.size + 1) 0 (l.set 16 (.int .u32 (nxt r pc op a b imm)))).setCells (w.heap.size + 1 + 1) 0 [.int .i64 (eK op), .int .i64 (eR op a), .int .u32 (eA r op b imm), .int .u32 (eV r op a imm)]) = w11 at *
    go_wp2
    refine bodyPost_ret (res_two Tryd.results10 _ rfl rfl (run_load17 hu rfl hz2 YH.out) (run_load17 Tryd.underlying28 rfl (by kernel_rfl) ZH.out)) rfl ⟨?_, BH.out⟩
    rw [H8.out.eq]
    rfl
  · have E8 := Lib.hid (show rNew r pc op a b imm = (fun j => if j = a then res r pc op a b imm else r j) by funext j; unfold rNew; rw [hp]; simp)
    have H8 := Lib.hid (show IsSt ((l.set 16 (.int .u32 (nxt r pc op a b imm))).set a (.int .u32 (res r pc op a b imm))) (rNew r pc op a b imm) (nxt r pc op a b imm) by rw [E8.out]; exact L7.out.setReg a ha _)
    rw [show resV r pc op a b imm = .tuple #[.int .u32 (res r pc op a b imm), .bool true] by unfold resV; rw [hp]]
    have ia : (a : Int) < 16 := by omega
    have y1 := I7.out.at 1 rfl
    have na := N7.out.at a (L7.out.reg a ha)
    have fa := N7.out.fz a (by rw [L7.out.size]; omega)
    have X8 := Lib.hid (X7.out.putApart (b' := w1.heap.size + 1) (by have := lz.out; omega) a (.int .u32 (res r pc op a b imm)))
    have Y8 := Lib.hid (Y7.out.putApart (b' := w1.heap.size + 1) (by have := lz.out; omega) a (.int .u32 (res r pc op a b imm)))
    have Z8 := Lib.hid (Z7.out.putApart (b' := w1.heap.size + 1) (by have := lz.out; omega) a (.int .u32 (res r pc op a b imm)))
    have I8 := Lib.hid (I7.out.putApart (b' := w1.heap.size + 1) (by omega) a (.int .u32 (res r pc op a b imm)))
    have N8 := Lib.hid (N7.out.put a (by rw [L7.out.size]; omega) (.int .u32 (res r pc op a b imm)))
    have B8 := Lib.hid (B7.out.setCell (p := ⟨w1.heap.size + 1, a, none⟩) lw.out (.int .u32 (res r pc op a b imm)))
    have hu : Tryd.prog.underlying 25 = some _ := Tryd.underlying25
    have hv : Tryd.prog.underlying 50 = some _ := Tryd.underlying50
    have hz : (Tryd.prog.info? 25).map (·.size) = some 17 := by kernel_rfl
    have hz1 : (Tryd.prog.info? 25).map (·.size) = some l.length := by rw [HL.out.size]; exact hz
    have hz2 : (Tryd.prog.info? 25).map (·.size) = some ((l.set 16 (.int .u32 (nxt r pc op a b imm))).set a (.int .u32 (res r pc op a b imm))).length := by rw [H8.out.size]; exact hz
    have hS : Box (w7.setCell ⟨w1.heap.size + 1, a, none⟩ (.int .u32 (res r pc op a b imm))).drew (w1.heap.size + 1) ((l.set 16 (.int .u32 (nxt r pc op a b imm))).set a (.int .u32 (res r pc op a b imm))) ∧ Box (w7.setCell ⟨w1.heap.size + 1, a, none⟩ (.int .u32 (res r pc op a b imm))).drew w.heap.size l ∧ Box (w7.setCell ⟨w1.heap.size + 1, a, none⟩ (.int .u32 (res r pc op a b imm))).drew w1.heap.size [.int .i64 op, .int .i64 a, .int .i64 b, .int .i64 imm] := ⟨N8.out.drew, X8.out.drew, I8.out.drew⟩
    have LZ := lz.out
    go_wp2_with fail
    refine wp_region_noPanic ?_
    refine wp_region_held_drew (S := fun w' => Box w' (w1.heap.size + 1) ((l.set 16 (.int .u32 (nxt r pc op a b imm))).set a (.int .u32 (res r pc op a b imm))) ∧ Box w' w.heap.size l ∧ Box w' w1.heap.size [.int .i64 op, .int .i64 a, .int .i64 b, .int .i64 imm]) (by kernel_rfl) hS (fun _ => ?_)
    refine wpAnyH_take (i := 0) (oi := ⟨some 37, .load 25 (.tmp 8), _, _, _, _⟩) rfl (by kernel_rfl) (by kernel_rfl) (by kernel_rfl) (fun _ _ _ h => h) (yieldsIf_load_mid (by rfl) _ _ rfl _ _ rfl _ _ (fun _ h => h.1.range) hu rfl hz2) hS ?_
    refine wpAnyH_take (i := 1) (oi := ⟨some 38, .load 25 (.tmp 2), _, _, _, _⟩) rfl (by kernel_rfl) (by kernel_rfl) (by kernel_rfl) (fun _ _ _ h => h) (yieldsIf_load_mid (by rfl) _ _ rfl _ _ rfl _ _ (fun _ h => h.2.1.range) hu rfl hz1) hS ?_
    refine wpAnyH_take (i := 2) (oi := ⟨some 39, .load 50 (.tmp 6), _, _, _, _⟩) rfl (by kernel_rfl) (by kernel_rfl) (by kernel_rfl) (fun _ _ _ h => h) (yieldsIf_load_mid (by rfl) _ _ rfl _ _ rfl _ _ (fun _ h => h.2.2.range) hv rfl (by kernel_rfl)) hS ?_
    simp only [Act.put, List.setIfInBounds_toArray, List.set_cons_zero, List.set_cons_succ]
    refine wpAnyH_ready (rs := [3]) (by kernel_rfl) (by simp) ?_
    refine AllReadyH.cons (o := ⟨some 40, .call _, _, _, _, _⟩) rfl (fun K hK => ?_) AllReadyH.nil
    go_simp
    refine (effect_any _ _ _ _ _ _ _ _ HL.out ho ha hb hi).mono ?_
    rintro e w9 ⟨rfl, hb9⟩
    have Y9 := Y8.out.drew.kept hb9
    have Z9 := Z8.out.drew.kept hb9
    have B9 := B8.out.drew.trans (hb9.mono B8.out.drew.size)
    have N9 := hS.1.kept hb9
    have X9 := hS.2.1.kept hb9
    have I9 := hS.2.2.kept hb9
    refine hK.out _ _ ⟨N9, X9, I9⟩ (fun _ => ?_)
    clear hK K hb9
    unfold effV
    refine wpAnyH_ready (rs := [4]) (by kernel_rfl) (by simp) ?_
    refine AllReadyH.cons (o := ⟨none, .store 25 (.tmp 4) (.tmp 37), _, _, _, _⟩) rfl (fun K hK => ?_) AllReadyH.nil
    rw [if_pos (by rfl)]
    refine so_store (.tmp 4) (.tmp 37) _ _ _ rfl rfl rfl Y9 (by rw [H8.out.size, (stL_is _ _).size]) hz2 H8.out.one ?_
    refine hK.out _ _ ⟨N9.apart (by omega) _, X9.apart (by omega) _, I9.apart (by omega) _⟩ (fun _ => ?_)
    clear hK K
    refine wpAnyH_ready (rs := [5]) (by kernel_rfl) (by simp) ?_
    refine AllReadyH.cons (o := ⟨none, .store 28 (.tmp 5) (.tmp 40), _, _, _, _⟩) rfl (fun K hK => ?_) AllReadyH.nil
    rw [if_pos (by rfl)]
    have Z10 := Z9.apart (b' := w.heap.size + 1) (by omega) ((l.set 16 (.int .u32 (nxt r pc op a b imm))).set a (.int .u32 (res r pc op a b imm)))
    refine so_store (.tmp 5) (.tmp 40) _ _ [.int .i64 (eK op), .int .i64 (eR op a), .int .u32 (eA r op b imm), .int .u32 (eV r op a imm)] rfl rfl rfl Z10 rfl (by kernel_rfl) (one4 _ _ _ _) ?_
    refine hK.out _ _ ⟨(N9.apart (by omega) _).apart (by omega) _, (X9.apart (by omega) _).apart (by omega) _, (I9.apart (by omega) _).apart (by omega) _⟩ (fun _ => ?_)
    clear hK K
    refine wpAnyH_done (by kernel_rfl) ?_ _
    have Y11 := (Y9.stored (l' := (l.set 16 (.int .u32 (nxt r pc op a b imm))).set a (.int .u32 (res r pc op a b imm))) (by rw [H8.out.size, (stL_is _ _).size])).apart (b' := w.heap.size + 1 + 1) (by omega) [.int .i64 (eK op), .int .i64 (eR op a), .int .u32 (eA r op b imm), .int .u32 (eV r op a imm)]
    have Z11 := Z10.stored (l' := [.int .i64 (eK op), .int .i64 (eR op a), .int .u32 (eA r op b imm), .int .u32 (eV r op a imm)]) rfl
    have B11 : Below w.heap.size w ((w9.setCells (w.heap.size + 1) 0 ((l.set 16 (.int .u32 (nxt r pc op a b imm))).set a (.int .u32 (res r pc op a b imm)))).setCells (w.heap.size + 1 + 1) 0 [.int .i64 (eK op), .int .i64 (eR op a), .int .u32 (eA r op b imm), .int .u32 (eV r op a imm)]) := below_setCells _ _ _ (below_setCells _ _ _ B9 (by omega)) (by omega)
    refine NoPanic.normal ?_
    simp only [Act.put]
    have YH := Lib.hid Y11
    have ZH := Lib.hid Z11
    have BH := Lib.hid B11
    clear Y11 Z11 B11 Y9 Z9 B9 N9 X9 I9 Z10 hS
    generalize ((w9.setCells (w.heap.size + 1) 0 ((l.set 16 (.int .u32 (nxt r pc op a b imm))).set a (.int .u32 (res r pc op a b imm)))).setCells (w.heap.size + 1 + 1) 0 [.int .i64 (eK op), .int .i64 (eR op a), .int .u32 (eA r op b imm), .int .u32 (eV r op a imm)]) = w11 at *
    go_wp2
    refine bodyPost_ret (res_two Tryd.results10 _ rfl rfl (run_load17 hu rfl hz2 YH.out) (run_load17 Tryd.underlying28 rfl (by kernel_rfl) ZH.out)) rfl ⟨?_, BH.out⟩
    rw [H8.out.eq]
    rfl

theorem isI_imm {v : Int} (h : isI v = true) : 3 ≤ oN v → oN v ≤ 10 → iN v < 16 := by
  intro h3 h10
  have hr := (right_iff _ _ _ _).1 h
  have hi := hr.2.2.2
  unfold oN at h3 h10
  unfold iN
  have : (dOp v).toNat = 3 ∨ (dOp v).toNat = 4 ∨ (dOp v).toNat = 5 ∨ (dOp v).toNat = 6 ∨ (dOp v).toNat = 7 ∨ (dOp v).toNat = 8 ∨ (dOp v).toNat = 9 ∨ (dOp v).toNat = 10 := by omega
  have : mimm (opI (dOp v).toNat) = 15 := by rcases this with e | e | e | e | e | e | e | e <;> rw [e] <;> rfl
  omega
theorem isI_nums {v : Int} (h : isI v = true) : oN v < 28 ∧ aN v < 16 ∧ bN v < 16 ∧ iN v < 65536 ∧ dOp v = (oN v : Nat) ∧ dA v = (aN v : Nat) ∧ dB v = (bN v : Nat) ∧ dI v = (iN v : Nat) := by
  have := right_bounds h
  unfold oN aN bN iN
  omega
theorem step_any (l : List Value) (r : Nat → Int) (pc v : Int) (w : World) (hO : OpsIn w) (hl : IsSt l r pc) (hR : R32 r) (hv : W32 v) :
    Calls Tryd.prog 10 #[.agg l.toArray, .int .u32 v] w fun e w' => e = .returned (stepV r pc v) ∧ Below w.heap.size w w' := by
  cases h : isI v
  · refine (step_bad l r pc v w hO hl hv h).mono ?_
    rintro e w' ⟨rfl, hb⟩
    refine ⟨?_, hb⟩
    unfold stepV sR sP sK sG sA sV
    rw [h, hl.eq]
    rfl
  · obtain ⟨ho, ha, hb, hi, e1, e2, e3, e4⟩ := isI_nums h
    have hd : decV v = .tuple #[.agg #[.int .i64 (oN v : Nat), .int .i64 (aN v : Nat), .int .i64 (bN v : Nat), .int .i64 (iN v : Nat)], .bool true] := by
      unfold decV
      rw [if_pos (show right (dOp v) (dA v) (dB v) (dI v) = true from h), e1, e2, e3, e4]
    refine (step_good l r pc v (oN v) (aN v) (bN v) (iN v) w hO hl hR hv hd ho ha hb hi (isI_imm h)).mono ?_
    rintro e w' ⟨rfl, hb'⟩
    refine ⟨?_, hb'⟩
    unfold stepV sR sP sK sG sA sV effV
    rw [h]
    rfl
theorem res_w (r : Nat → Int) (pc : Int) (op a b imm : Nat) (hR : R32 r) (ha : a < 16) (hb : b < 16) (hi : imm < 65536) : W32 (res r pc op a b imm) := by
  have h1 := hR a ha
  have h2 := hR b hb
  unfold res
  split
  · unfold W32; omega
  split
  · unfold W32; omega
  split
  · exact comb_w _ _ _ h2
  split
  · unfold W32; omega
  split <;> (unfold W32; omega)
theorem sR_w (r : Nat → Int) (pc v : Int) (hR : R32 r) : R32 (sR r pc v) := by
  unfold sR
  split
  · rename_i h
    obtain ⟨ho, ha, hb, hi, _⟩ := isI_nums h
    intro j hj
    unfold rNew
    split
    · exact res_w r pc _ _ _ _ hR ha hb hi
    · exact hR j hj
  · exact hR
theorem sP_w (r : Nat → Int) (pc v : Int) (hR : R32 r) (hp : W32 pc) : W32 (sP r pc v) := by
  unfold sP
  split
  · rename_i h
    obtain ⟨ho, ha, hb, hi, _⟩ := isI_nums h
    unfold nxt
    split
    · exact hR _ ha
    split <;> (unfold W32; omega)
  · exact hp
end Alu
end Go.Proofs.YtlfhcnpbgbnadaaDoor
