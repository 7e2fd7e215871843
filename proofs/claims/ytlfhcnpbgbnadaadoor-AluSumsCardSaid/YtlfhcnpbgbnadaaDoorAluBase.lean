/-
  What an instruction does, as plain functions of registers; a state's cells; what alu's lowByte, signed and combine answer. No condition but that each word is a word.
-/
import Derived.Test.YtlfhcnpbgbnadaaDoorIsaCode
import Derived.Deep.MidRow
import Derived.Lib.QuietBelow
import Derived.OpenShut
namespace Go.Proofs.YtlfhcnpbgbnadaaDoor
open Go.RowKit Isa Nt
namespace Alu

/-- A state's cells. -/
structure IsSt (l : List Value) (r : Nat → Int) (pc : Int) : Prop where
  size : l.length = 17
  reg : ∀ j, j < 16 → l[j]? = some (.int .u32 (r j))
  pc : l[16]? = some (.int .u32 pc)
/-- The cells of a state. -/
def stL (r : Nat → Int) (pc : Int) : List Value := (List.range 16).map (fun j => .int .u32 (r j)) ++ [.int .u32 pc]
theorem stL_is (r : Nat → Int) (pc : Int) : IsSt (stL r pc) r pc := by
  refine ⟨by simp [stL], fun j hj => ?_, by simp [stL]⟩
  unfold stL
  rw [List.getElem?_append_left (by simpa using hj)]
  simp [hj]
theorem IsSt.eq {l : List Value} {r : Nat → Int} {pc : Int} (h : IsSt l r pc) : l = stL r pc := by
  have h' := stL_is r pc
  apply List.ext_getElem?
  intro j
  by_cases hj : j < 16
  · rw [h.reg j hj, h'.reg j hj]
  · by_cases hj2 : j = 16
    · rw [hj2, h.pc, h'.pc]
    · rw [List.getElem?_eq_none (by rw [h.size]; omega), List.getElem?_eq_none (by rw [h'.size]; omega)]
theorem IsSt.one {l : List Value} {r : Nat → Int} {pc : Int} (h : IsSt l r pc) : ∀ v ∈ l, v.oneCell' = true := by
  rw [h.eq]
  intro v hv
  simp only [stL, List.mem_append, List.mem_map, List.mem_singleton] at hv
  rcases hv with ⟨j, _, rfl⟩ | rfl <;> rfl
/-- A word. -/
def W32 (v : Int) : Prop := 0 ≤ v ∧ v < 4294967296
/-- Registers that are words. -/
def R32 (r : Nat → Int) : Prop := ∀ j, j < 16 → W32 (r j)

/-- A block whose cells are known, and may be written. -/
structure Box (w : World) (b : Nat) (l : List Value) : Prop where
  lt : b < w.heap.size
  range : w.rangeAt b 0 l
  there : w.there b 0 l.length
theorem Box.at {w : World} {b : Nat} {l : List Value} (h : Box w b l) (j : Nat) {v : Value} (hv : l[j]? = some v) : w.cell? ⟨b, j, none⟩ = some v := by
  have := h.range j v hv
  rwa [Nat.zero_add] at this
theorem Box.new (w : World) (l : List Value) (t : TypeId) : Box (w.alloc (.cells l.toArray t)) w.heap.size l := by
  have hc : ∀ j, (w.alloc (.cells l.toArray t)).cell? ⟨w.heap.size, j, none⟩ = l[j]? := fun j => by rw [World.cell?_alloc_new]; simp
  refine ⟨by simp, fun j v hv => by rw [Nat.zero_add, hc, hv], fun j hj => ⟨by rw [Nat.zero_add, hc, List.getElem?_eq_getElem hj]; rfl, ?_⟩⟩
  rw [Nat.zero_add]
  exact World.frozen?_alloc_new w _ _ _
theorem Box.kept {w w' : World} {b : Nat} {l : List Value} (h : Box w b l) (hb : Below w.heap.size w w') : Box w' b l :=
  ⟨Nat.lt_of_lt_of_le h.lt hb.size, fun j v hv => (hb.cell (p := ⟨b, 0 + j, none⟩) h.lt).trans (h.range j v hv), fun j hj => by
    rw [hb.cell (p := ⟨b, 0 + j, none⟩) h.lt, hb.frozen (p := ⟨b, 0 + j, none⟩) h.lt]; exact h.there j hj⟩
theorem Box.box {w : World} {b : Nat} {l : List Value} (h : Box w b l) (o : Obj) : Box (w.alloc o) b l := h.kept ((Below.refl _ _).alloc (Nat.le_refl _) _)
theorem wl_load {ops : Array Oper} {rest : List Oper} {op : Oper} {a : Act} {w : World} {Q : Exit → Act → World → Prop} (x : Operand) (b : Nat) (l : List Value) (hgd : op.guard = none) (ho : op.op = .load 25 x)
    (hx : a.eval x = .pointer (some ⟨b, 0, none⟩)) (hb : Box w b l) (hl : l.length = 17) (h : wpList Tryd.prog ops Q rest (a.put op.dst (.agg l.toArray)) w) : wpList Tryd.prog ops Q (op :: rest) a w :=
  wpList_load_mid hgd _ x ho b 0 hx l _ hb.range Tryd.underlying25 rfl (by rw [hl]; kernel_rfl) h
theorem wl_store {ops : Array Oper} {rest : List Oper} {op : Oper} {a : Act} {w : World} {Q : Exit → Act → World → Prop} (x y : Operand) (b : Nat) (l l' : List Value) (hgd : op.guard = none) (ho : op.op = .store 25 x y)
    (hx : a.eval x = .pointer (some ⟨b, 0, none⟩)) (hy : a.eval y = .agg l'.toArray) (hb : Box w b l) (hl : l.length = 17) (hl' : l'.length = 17) (h1 : ∀ v ∈ l', v.oneCell' = true)
    (h : wpList Tryd.prog ops Q rest (a.put op.dst undef) (w.setCells b 0 l')) : wpList Tryd.prog ops Q (op :: rest) a w :=
  wpList_store_mid hgd _ x y ho b 0 l'.toArray hx hy (by have := hb.there; rw [hl, ← hl'] at this; simpa using this) (by rw [List.size_toArray, hl']; kernel_rfl) (all_oneCell_toArray h1) (by simpa using h)
theorem wlr_load {ops : Array Oper} {rest : List Oper} {op : Oper} {a : Act} {w : World} {Q : Exit → Act → World → Prop} (x : Operand) (b : Nat) (l : List Value) (hgd : op.guard = none) (ho : op.op = .load 31 x)
    (hx : a.eval x = .pointer (some ⟨b, 0, none⟩)) (hb : Box w b l) (hl : l.length = 17) (h : wpList Tryd.prog ops Q rest (a.put op.dst (.agg l.toArray)) w) : wpList Tryd.prog ops Q (op :: rest) a w :=
  wpList_load_mid hgd _ x ho b 0 hx l _ hb.range Tryd.underlying31 rfl (by rw [hl]; kernel_rfl) h
theorem wlr_store {ops : Array Oper} {rest : List Oper} {op : Oper} {a : Act} {w : World} {Q : Exit → Act → World → Prop} (x y : Operand) (b : Nat) (l l' : List Value) (hgd : op.guard = none) (ho : op.op = .store 31 x y)
    (hx : a.eval x = .pointer (some ⟨b, 0, none⟩)) (hy : a.eval y = .agg l'.toArray) (hb : Box w b l) (hl : l.length = 17) (hl' : l'.length = 17) (h1 : ∀ v ∈ l', v.oneCell' = true)
    (h : wpList Tryd.prog ops Q rest (a.put op.dst undef) (w.setCells b 0 l')) : wpList Tryd.prog ops Q (op :: rest) a w :=
  wpList_store_mid hgd _ x y ho b 0 l'.toArray hx hy (by have := hb.there; rw [hl, ← hl'] at this; simpa using this) (by rw [List.size_toArray, hl']; kernel_rfl) (all_oneCell_toArray h1) (by simpa using h)
theorem size_setC (b : Nat) : ∀ (vs : List Value) (o : Nat) (w : World), (w.setCells b o vs).heap.size = w.heap.size
  | [], _, _ => rfl
  | v :: vs, o, w => by rw [World.setCells, size_setC b vs (o + 1)]; simp
theorem Box.stored {w : World} {b : Nat} {l l' : List Value} (h : Box w b l) (hl : l'.length = l.length) : Box (w.setCells b 0 l') b l' := by
  have ht : w.there b 0 l'.length := by rw [hl]; exact h.there
  exact ⟨by rw [size_setC]; exact h.lt, World.rangeAt_setCells_same _ _ _ _ ht, World.there_setCells ht _ _ _⟩
theorem Box.apart {w : World} {b b' : Nat} {l : List Value} (h : Box w b l) (hne : b ≠ b') (vs : List Value) : Box (w.setCells b' 0 vs) b l :=
  ⟨by rw [size_setC]; exact h.lt, World.rangeAt_setCells_apart h.range _ _ _ (.inl hne), World.there_setCells h.there _ _ _⟩
theorem below_setCells {B b : Nat} {a : World} : ∀ (vs : List Value) (o : Nat) (w : World), Below B a w → B ≤ b → Below B a (w.setCells b o vs)
  | [], _, _, h, _ => h
  | v :: vs, o, w, h, hb => below_setCells vs (o + 1) (w.setCell ⟨b, o, none⟩ v) (h.setCell hb v) hb
/-- One cell is turned. -/
theorem Box.put {w : World} {b : Nat} {l : List Value} (h : Box w b l) (j : Nat) (hj : j < l.length) (v : Value) : Box (w.setCell ⟨b, j, none⟩ v) b (l.set j v) := by
  refine ⟨by rw [World.size_setCell]; exact h.lt, fun i u hu => ?_, fun i hi => ?_⟩
  · rw [Nat.zero_add]
    by_cases e : j = i
    · subst e
      rw [List.getElem?_set_self hj] at hu
      rw [World.cell?_setCell_same' _ _ _ (by have := (h.there j hj).1; rwa [Nat.zero_add] at this)]
      exact hu
    · rw [List.getElem?_set_ne e] at hu
      rw [World.cell?_setCell_other _ _ _ _ (fun x => e (by injection x))]
      exact h.at i hu
  · rw [List.length_set] at hi
    have h0 := h.there i hi
    have := World.there_setCells (w := w) (b' := b) (o' := 0) (n := l.length) h.there b j [v] i hi
    simpa [World.setCells] using this
theorem Box.putApart {w : World} {b b' : Nat} {l : List Value} (h : Box w b l) (hne : b ≠ b') (j : Nat) (v : Value) : Box (w.setCell ⟨b', j, none⟩ v) b l := by
  refine ⟨by rw [World.size_setCell]; exact h.lt, fun i u hu => ?_, fun i hi => ?_⟩
  · rw [World.cell?_setCell_other _ _ _ _ (fun x => hne (by injection x with x; exact x.symm))]
    exact h.range i u hu
  · have := World.there_setCells (w := w) (b' := b) (o' := 0) (n := l.length) h.there b' j [v] i hi
    simpa [World.setCells] using this
theorem IsSt.setPc {l : List Value} {r : Nat → Int} {pc : Int} (h : IsSt l r pc) (p : Int) : IsSt (l.set 16 (.int .u32 p)) r p :=
  ⟨by simp [h.size], fun j hj => by rw [List.getElem?_set_ne (by omega)]; exact h.reg j hj, by rw [List.getElem?_set_self (by rw [h.size]; decide)]⟩
theorem IsSt.setReg {l : List Value} {r : Nat → Int} {pc : Int} (h : IsSt l r pc) (a : Nat) (ha : a < 16) (v : Int) : IsSt (l.set a (.int .u32 v)) (fun j => if j = a then v else r j) pc :=
  ⟨by simp [h.size], fun j hj => by
    by_cases e : j = a
    · subst e; rw [List.getElem?_set_self (by rw [h.size]; omega), if_pos rfl]
    · rw [List.getElem?_set_ne (fun x => e x.symm), if_neg e]; exact h.reg j hj, by rw [List.getElem?_set_ne (by omega)]; exact h.pc⟩

/-! ### What an instruction does -/
/-- An instruction's signed number, as a word. -/
def sw (imm : Nat) : Int := sgn imm % 4294967296
/-- Two words combined. -/
def comb (op : Nat) (b c : Int) : Int :=
  if op = 3 then (b + c) % 4294967296 else if op = 4 then (b - c) % 4294967296 else if op = 5 then bits .and .u32 b c else if op = 6 then bits .or .u32 b c else if op = 7 then bits .xor .u32 b c
  else if op = 8 then b * 2 ^ (c % 32).toNat % 4294967296 else if op = 9 then b / 2 ^ (c % 32).toNat else b * c % 4294967296
/-- Does it go on at a place told by the signed number? -/
def brn (r : Nat → Int) (op a b : Nat) : Bool := if op = 16 then r a == r b else if op = 17 then r a != r b else if op = 18 then decide (r a < r b) else op == 19
/-- Where it goes on. -/
def nxt (r : Nat → Int) (pc : Int) (op a b imm : Nat) : Int := if op = 20 then r a else if brn r op a b = true then (pc + 4 * sw imm % 4294967296) % 4294967296 else (pc + 4) % 4294967296
/-- Is a register put? -/
def puts (op : Nat) : Bool := (1 ≤ op && op ≤ 11) || op == 19
/-- What is put. -/
def res (r : Nat → Int) (pc : Int) (op a b imm : Nat) : Int :=
  if op = 1 then imm else if op = 2 then imm * 65536 + r a % 65536 else if 3 ≤ op ∧ op ≤ 10 then comb op (r b) (r imm) else if op = 11 then (r b + sw imm) % 4294967296 else if op = 19 then (pc + 4) % 4294967296 else 0
/-- An effect's four numbers. -/
def eK (op : Nat) : Int := [0, 0, 0, 0, 0, 0, 0, 0, 0, 0, 0, 0, 1, 3, 2, 4, 0, 0, 0, 0, 0, 5, 6, 7, 8, 9, 10, 11].getD op 0
def eR (op a : Nat) : Int := if op = 12 ∨ op = 14 ∨ op = 23 ∨ op = 25 then a else 0
def eA (r : Nat → Int) (op b imm : Nat) : Int := if 12 ≤ op ∧ op ≤ 15 then (r b + sw imm) % 4294967296 else if op = 24 ∨ op = 25 then imm else 0
def eV (r : Nat → Int) (op a imm : Nat) : Int := if op = 13 ∨ op = 24 then r a else if op = 15 then r a % 256 else if op = 21 then imm else 0
/-- The registers behind it. -/
def rNew (r : Nat → Int) (pc : Int) (op a b imm : Nat) : Nat → Int := fun j => if puts op = true ∧ j = a then res r pc op a b imm else r j

theorem sw_w (imm : Nat) : W32 (sw imm) := by unfold sw W32; omega
theorem comb_w (op : Nat) (b c : Int) (hb : W32 b) : W32 (comb op b c) := by
  have hk : ∀ x : Int, W32 (x % 4294967296) := fun x => by unfold W32; omega
  have hw : ∀ o, W32 (bits o .u32 b c) := fun o => by have := bounds_u32 (wf_bits o .u32 b c); unfold W32; omega
  unfold comb
  split
  · exact hk _
  split
  · exact hk _
  split
  · exact hw _
  split
  · exact hw _
  split
  · exact hw _
  split
  · exact hk _
  split
  · obtain ⟨h0, h1⟩ := hb
    have hp : (0 : Int) < 2 ^ (c % 32).toNat := Int.pow_pos (by decide)
    exact ⟨Int.ediv_nonneg h0 (Int.le_of_lt hp), Int.lt_of_le_of_lt (Int.ediv_le_self _ h0) h1⟩
  · exact hk _

theorem lowByte_any (v : Int) (w : World) :
    Calls Tryd.prog 28 #[.int .u32 v] w fun e w' => e = .returned (.int .u32 (v % 256)) ∧ w = w' := by
  go_enter Tryd.func28, Tryd.ntmps28
  go_wp2
  go_ret
  exact ⟨rfl, rfl⟩
theorem sgnW (op a b : Int) (imm : Nat) (w : World) :
    Calls Tryd.prog 36 #[.agg #[.int .i64 op, .int .i64 a, .int .i64 b, .int .i64 imm]] w fun e w' => e = .returned (.int .u32 (sw imm)) ∧ Below w.heap.size w w' := by
  go_enter Tryd.func36, Tryd.ntmps36
  go_wp2_with fail
  refine (signed_any _ _ _ _ _).mono ?_
  rintro e w' ⟨rfl, hb⟩
  go_wp2
  go_ret
  exact ⟨rfl, ((Below.refl _ _).alloc (Nat.le_refl _) _).trans (hb.mono (by simp))⟩
theorem and31 (v : Int) (h0 : 0 ≤ v) (h1 : v < 4294967296) : bits .and .u32 v 31 = v % 32 := by
  obtain ⟨v, rfl⟩ := Int.eq_ofNat_of_zero_le h0
  rw [show (31 : Int) = ((31 : Nat) : Int) from rfl, u32_and_nat _ _ (by omega) (by omega), show (31 : Nat) = 2 ^ 5 - 1 from rfl, Nat.and_two_pow_sub_one_eq_mod]
  omega
theorem combine_any (op : Nat) (b c : Int) (w : World) (h3 : 3 ≤ op) (h10 : op ≤ 10) (hb : W32 b) (hc : W32 c) :
    Calls Tryd.prog 37 #[.int .i64 op, .int .u32 b, .int .u32 c] w fun e w' => e = .returned (.int .u32 (comb op b c)) ∧ w = w' := by
  obtain ⟨b0, b1⟩ := hb
  obtain ⟨c0, c1⟩ := hc
  have q := and31 c c0 c1
  have q0 : 0 ≤ c % 32 := by omega
  have q1 : c % 32 < 32 := by omega
  have : op = 3 ∨ op = 4 ∨ op = 5 ∨ op = 6 ∨ op = 7 ∨ op = 8 ∨ op = 9 ∨ op = 10 := by omega
  rcases this with rfl | rfl | rfl | rfl | rfl | rfl | rfl | rfl
  all_goals
    go_enter Tryd.func37, Tryd.ntmps37
    go_wp2
    go_ret
    exact ⟨rfl, rfl⟩
theorem two_any (op : Nat) (b c : Int) (w : World) (h3 : 3 ≤ op) (h10 : op ≤ 10) (hb : W32 b) (hc : W32 c) :
    Calls Tryd.prog 26 #[.int .i64 op, .int .u32 b, .int .u32 c] w fun e w' => e = .returned (.int .u32 (comb op b c)) ∧ w = w' := by
  obtain ⟨b0, b1⟩ := hb
  obtain ⟨c0, c1⟩ := hc
  have : op = 3 ∨ op = 4 ∨ op = 5 ∨ op = 6 ∨ op = 7 ∨ op = 8 ∨ op = 9 ∨ op = 10 := by omega
  rcases this with rfl | rfl | rfl | rfl | rfl | rfl | rfl | rfl
  all_goals
    go_enter Tryd.func26, Tryd.ntmps26
    go_wp2
    go_ret
    exact ⟨rfl, rfl⟩
end Alu
end Go.Proofs.YtlfhcnpbgbnadaaDoor
