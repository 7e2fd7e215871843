/-
  A space as it lies in a world, with its memory, its table of frames, its TLB and its log; what stays where something is changed. Conditions: none.
-/
import Derived.Test.YtiiggmfindfkfaaGreatStWords
import Derived.Test.YtiiggmfindfkfaaGreatTlKit
import Derived.Test.YtiiggmfindfkfaaGreatFrKit
import Derived.Maps.AppendAt
import Derived.Deep.AppendLies
import Derived.Laws.OwnMore
namespace Go.Proofs.YtiiggmfindfkfaaGreat
open Go.RowKit
namespace St
open Ph En Wk

/-! ### Worlds that go on -/
/-- But for some blocks and a row's own one, the world w' is as w was; the row that is there then isn't at them either. -/
structure Hop (S : List Nat) (v v' : Value) (w w' : World) : Prop where
  os : w'.os = w.os
  tape : w'.tape = w.tape
  output : w'.output = w.output
  size : w.heap.size ≤ w'.heap.size
  block : ∀ k, k < w.heap.size → k ∉ S → v.ownBlock ≠ some k → w'.heap[k]? = w.heap[k]?
  far : ∀ k, k < w.heap.size → v'.ownBlock = some k → v.ownBlock = some k
theorem Hop.of {S : List Nat} {w w' : World} (h : Only S w w') (v : Value) : Hop S v v w w' := ⟨h.os, h.tape, h.output, h.size, fun k hk hs _ => h.block k hk hs, fun _ _ h => h⟩
theorem Hop.refl (S : List Nat) (v : Value) (w : World) : Hop S v v w w := Hop.of (Only.refl S w) v
theorem Hop.trans {S : List Nat} {v v' v'' : Value} {a b c : World} (h : Hop S v v' a b) (k : Hop S v' v'' b c) : Hop S v v'' a c :=
  ⟨k.os.trans h.os, k.tape.trans h.tape, k.output.trans h.output, Nat.le_trans h.size k.size,
   fun i hi hs hv => (k.block i (Nat.lt_of_lt_of_le hi h.size) hs (fun e => hv (h.far i hi e))).trans (h.block i hi hs hv),
   fun i hi e => h.far i hi (k.far i (Nat.lt_of_lt_of_le hi h.size) e)⟩
theorem Hop.mono {S S' : List Nat} {v v' : Value} {w w' : World} (h : Hop S v v' w w') (hs : ∀ x ∈ S, x ∈ S') : Hop S' v v' w w' :=
  ⟨h.os, h.tape, h.output, h.size, fun k hk hn => h.block k hk (fun x => hn (hs _ x)), h.far⟩
/-- Where no row lay, the blocks alone. -/
theorem Hop.only {S : List Nat} {v v' : Value} {w w' : World} (h : Hop S v v' w w') (hv : v.ownBlock = none) : Only S w w' :=
  ⟨h.os, h.tape, h.output, h.size, fun k hk hs => h.block k hk hs (by rw [hv]; simp)⟩
theorem Hop.lay {S : List Nat} {v v' : Value} {w w' : World} (h : Hop S v v' w w') {b : Nat} {t : TypeId} {cs : List Value} (hl : Tl.Lay w b t cs) (hs : b ∉ S) (hv : v.ownBlock ≠ some b) : Tl.Lay w' b t cs := (h.block b hl.lt hs hv).trans hl
theorem Hop.off {S : List Nat} {v v' : Value} {w w' : World} (h : Hop S v v' w w') {b : Nat} (hb : b < w.heap.size) (hv : v.ownBlock ≠ some b) : v'.ownBlock ≠ some b := fun e => hv (h.far b hb e)
theorem Hop.cell {S : List Nat} {v v' : Value} {w w' : World} (h : Hop S v v' w w') {b : Nat} (hb : b < w.heap.size) (hs : b ∉ S) (hv : v.ownBlock ≠ some b) (j : Nat) : w'.cell? ⟨b, j, none⟩ = w.cell? ⟨b, j, none⟩ :=
  World.cell?_of_block (w := w) (h.block b hb hs hv)
theorem Hop.frozen {S : List Nat} {v v' : Value} {w w' : World} (h : Hop S v v' w w') {b : Nat} (hb : b < w.heap.size) (hs : b ∉ S) (hv : v.ownBlock ≠ some b) (j : Nat) : w'.frozen? ⟨b, j, none⟩ = w.frozen? ⟨b, j, none⟩ :=
  World.frozen?_of_block (w := w) (h.block b hb hs hv)

/-! ### Where a space lies -/
structure Loc where
  s : Nat
  m : Nat
  F : Nat
  c : Nat
  t : Nat
  tF : Nat
  p : Nat
  pm : Nat
  room : Nat
  n : Nat
  vm : Nat
/-- The blocks that a call on it writes. -/
def Loc.S (L : Loc) : List Nat := [L.s, L.F, L.t, L.tF, L.pm]
def Loc.all (L : Loc) : List Nat := [L.s, L.m, L.F, L.t, L.tF, L.p, L.pm]
structure Apt (L : Loc) : Prop where
  sm : L.s ≠ L.m
  sF : L.s ≠ L.F
  st : L.s ≠ L.t
  stF : L.s ≠ L.tF
  sp : L.s ≠ L.p
  spm : L.s ≠ L.pm
  mF : L.m ≠ L.F
  mt : L.m ≠ L.t
  mtF : L.m ≠ L.tF
  mp : L.m ≠ L.p
  mpm : L.m ≠ L.pm
  Ft : L.F ≠ L.t
  FtF : L.F ≠ L.tF
  Fp : L.F ≠ L.p
  Fpm : L.F ≠ L.pm
  ttF : L.t ≠ L.tF
  tp : L.t ≠ L.p
  tpm : L.t ≠ L.pm
  tFp : L.tF ≠ L.p
  tFpm : L.tF ≠ L.pm
  ppm : L.p ≠ L.pm
def flatD (l : List Deed) : List Value := l.flatMap Deed.enc
theorem flatD_snoc (l : List Deed) (x : Deed) : flatD (l ++ [x]) = flatD l ++ x.enc := by simp [flatD]
/-- A space, with what it stands on. -/
structure St (L : Loc) (w : World) (v : Value) (x : Pl) : Prop where
  lt : L.s < w.heap.size
  c0 : w.cell? ⟨L.s, 0, none⟩ = some (.pointer (some ⟨L.m, 0, none⟩))
  c1 : w.cell? ⟨L.s, 1, none⟩ = some (.pointer (some ⟨L.t, 0, none⟩))
  c2 : w.cell? ⟨L.s, 2, none⟩ = some (.pointer (some ⟨L.p, 0, none⟩))
  c3 : w.cell? ⟨L.s, 3, none⟩ = some (.int .i64 (L.vm : Int))
  c4 : w.cell? ⟨L.s, 4, none⟩ = some (.int .i64 (x.root : Int))
  c5 : w.cell? ⟨L.s, 5, none⟩ = some (.bool x.gone)
  c6 : w.cell? ⟨L.s, 6, none⟩ = some v
  fr : ∀ j, w.frozen? ⟨L.s, j, none⟩ = false
  mem : Mem w L.m L.F L.n L.c x.z
  tab : Fr.Tab w L.t L.tF x.os
  tlb : Tl.Tlb w L.p L.pm L.room x.next x.ps
  own : w.ownsRow 0 54 3 v x.log.length (flatD x.log)
  far : ∀ k, v.ownBlock = some k → k ∉ L.all
  ap : Apt L
section
variable {L : Loc} {w w' : World} {v v' : Value} {x x' : Pl}
theorem St.lts (h : St L w v x) : ∀ k ∈ L.all, k < w.heap.size := by
  have h1 := h.lt; have h2 := h.mem.lt; have h3 := h.mem.row.lt; have h4 := h.tab.tb.lt; have h5 := h.tab.tb.row.lt; have h6 := h.tlb.lt; have h7 := h.tlb.map.lt
  intro k hk
  simp only [Loc.all, List.mem_cons, List.not_mem_nil, or_false] at hk
  rcases hk with rfl | rfl | rfl | rfl | rfl | rfl | rfl <;> assumption
/-- Other blocks are changed. -/
theorem St.kept {S : List Nat} (h : St L w v x) (ho : Only S w w') (hs : ∀ k ∈ L.all, k ∉ S) (hv : ∀ k ∈ S, v.ownBlock ≠ some k) : St L w' v x := by
  have a0 := hs L.s (by simp [Loc.all]); have a1 := hs L.m (by simp [Loc.all]); have a2 := hs L.F (by simp [Loc.all]); have a3 := hs L.t (by simp [Loc.all]); have a4 := hs L.tF (by simp [Loc.all]); have a5 := hs L.p (by simp [Loc.all]); have a6 := hs L.pm (by simp [Loc.all])
  have cc := fun j => ho.cell h.lt a0 j
  exact ⟨Nat.lt_of_lt_of_le h.lt ho.size, (cc 0).trans h.c0, (cc 1).trans h.c1, (cc 2).trans h.c2, (cc 3).trans h.c3, (cc 4).trans h.c4, (cc 5).trans h.c5, (cc 6).trans h.c6, fun j => (ho.frozen h.lt a0 j).trans (h.fr j), h.mem.kept ho a1 a2, h.tab.kept ho a3 a4, h.tlb.kept ho a5 a6, owns_kept h.own ho hv, h.far, h.ap⟩
theorem St.quiet (h : St L w v x) (ho : Only [] w w') : St L w' v x := h.kept ho (by simp) (by simp)
theorem St.below (h : St L w v x) (hb : Below w.heap.size w w') : St L w' v x := h.quiet (Only.of hb [])
theorem St.drewN (h : St L w v x) (k : Nat) : St L (w.drewN k) v x := h.quiet (Only.drewN [] w k)
theorem St.alloc (h : St L w v x) (o : Obj) : St L (w.alloc o) v x := h.quiet (Only.alloc [] w o)
theorem St.off (h : St L w v x) {b : Nat} (hb : w.heap.size ≤ b) : v.ownBlock ≠ some b := fun e => by
  have := (h.own.lt b e).2
  omega
theorem St.keptS {S : List Nat} (h : St L w v x) (ho : Only S w w') (hS : L.s ∉ S) :
    L.s < w'.heap.size ∧ w'.cell? ⟨L.s, 0, none⟩ = some (.pointer (some ⟨L.m, 0, none⟩)) ∧ w'.cell? ⟨L.s, 1, none⟩ = some (.pointer (some ⟨L.t, 0, none⟩)) ∧ w'.cell? ⟨L.s, 2, none⟩ = some (.pointer (some ⟨L.p, 0, none⟩)) ∧ w'.cell? ⟨L.s, 3, none⟩ = some (.int .i64 (L.vm : Int)) ∧ w'.cell? ⟨L.s, 4, none⟩ = some (.int .i64 (x.root : Int)) ∧ w'.cell? ⟨L.s, 5, none⟩ = some (.bool x.gone) ∧ w'.cell? ⟨L.s, 6, none⟩ = some v ∧ ∀ j, w'.frozen? ⟨L.s, j, none⟩ = false := by
  have cc := fun j => ho.cell h.lt hS j
  exact ⟨Nat.lt_of_lt_of_le h.lt ho.size, (cc 0).trans h.c0, (cc 1).trans h.c1, (cc 2).trans h.c2, (cc 3).trans h.c3, (cc 4).trans h.c4, (cc 5).trans h.c5, (cc 6).trans h.c6, fun j => (ho.frozen h.lt hS j).trans (h.fr j)⟩
theorem St.farS (h : St L w v x) {S : List Nat} (hs : ∀ k ∈ S, k ∈ L.all) : ∀ k ∈ S, v.ownBlock ≠ some k := fun k hk e => h.far k e (hs k hk)
/-- The memory's bytes are turned. -/
theorem St.withMem {z' : Nat → Int} (h : St L w v x) (hM : Mem w' L.m L.F L.n L.c z') (ho : Only [L.F] w w') : St L w' v { x with z := z' } := by
  have a := h.ap
  obtain ⟨l, c0, c1, c2, c3, c4, c5, c6, fr⟩ := h.keptS ho (by simpa using a.sF)
  exact ⟨l, c0, c1, c2, c3, c4, c5, c6, fr, hM, h.tab.kept ho (by simpa using a.Ft.symm) (by simpa using a.FtF.symm), h.tlb.kept ho (by simpa using a.Fp.symm) (by simpa using a.Fpm.symm), owns_kept h.own ho (h.farS (by simp [Loc.all])), h.far, a⟩
theorem St.withTab {os' : List Nat} (h : St L w v x) (hT : Fr.Tab w' L.t L.tF os') (ho : Only [L.t, L.tF] w w') : St L w' v { x with os := os' } := by
  have a := h.ap
  obtain ⟨l, c0, c1, c2, c3, c4, c5, c6, fr⟩ := h.keptS ho (by simpa using ⟨a.st, a.stF⟩)
  exact ⟨l, c0, c1, c2, c3, c4, c5, c6, fr, h.mem.kept ho (by simpa using ⟨a.mt, a.mtF⟩) (by simpa using ⟨a.Ft, a.FtF⟩), hT, h.tlb.kept ho (by simpa using ⟨a.tp.symm, a.tFp.symm⟩) (by simpa using ⟨a.tpm.symm, a.tFpm.symm⟩), owns_kept h.own ho (h.farS (by simp [Loc.all])), h.far, a⟩
theorem St.withTlb {ps' : List (Option Tl.SlotT)} {next' : Nat} {S : List Nat} (h : St L w v x) (hT : Tl.Tlb w' L.p L.pm L.room next' ps') (ho : Only S w w') (hS : ∀ k ∈ S, k = L.p ∨ k = L.pm) : St L w' v { x with ps := ps', next := next' } := by
  have a := h.ap
  have nn : ∀ k, k ≠ L.p → k ≠ L.pm → k ∉ S := fun k h1 h2 h3 => (hS k h3).elim h1 h2
  obtain ⟨l, c0, c1, c2, c3, c4, c5, c6, fr⟩ := h.keptS ho (nn _ a.sp a.spm)
  exact ⟨l, c0, c1, c2, c3, c4, c5, c6, fr, h.mem.kept ho (nn _ a.mp a.mpm) (nn _ a.Fp a.Fpm), h.tab.kept ho (nn _ a.tp a.tpm) (nn _ a.tFp a.tFpm), hT, owns_kept h.own ho (h.farS (fun k hk => by rcases hS k hk with e | e <;> simp [Loc.all, e])), h.far, a⟩
theorem St.cellSet (h : St L w v x) (j : Nat) (u : Value) (hj : j = 4 ∨ j = 5 ∨ j = 6) : (w.setCell ⟨L.s, j, none⟩ u).cell? ⟨L.s, j, none⟩ = some u := by
  refine World.cell?_setCell_same' _ _ _ ?_
  rcases hj with rfl | rfl | rfl
  · rw [h.c4]; rfl
  · rw [h.c5]; rfl
  · rw [h.c6]; rfl
theorem cellOther (w : World) (s i j : Nat) (u : Value) (h : i ≠ j) : (w.setCell ⟨s, j, none⟩ u).cell? ⟨s, i, none⟩ = w.cell? ⟨s, i, none⟩ := World.cell?_setCell_other _ _ _ _ (fun e => h (by injection e with _ e; exact e.symm))
theorem St.sideS (h : St L w v x) (j : Nat) (u : Value) : Only [L.s] w (w.setCell ⟨L.s, j, none⟩ u) ∧ Mem (w.setCell ⟨L.s, j, none⟩ u) L.m L.F L.n L.c x.z ∧ Fr.Tab (w.setCell ⟨L.s, j, none⟩ u) L.t L.tF x.os ∧ Tl.Tlb (w.setCell ⟨L.s, j, none⟩ u) L.p L.pm L.room x.next x.ps ∧ L.s < (w.setCell ⟨L.s, j, none⟩ u).heap.size ∧ ∀ i, (w.setCell ⟨L.s, j, none⟩ u).frozen? ⟨L.s, i, none⟩ = false := by
  have a := h.ap
  have ho : Only [L.s] w (w.setCell ⟨L.s, j, none⟩ u) := Only.setCell w (by simp) j u
  exact ⟨ho, h.mem.kept ho (by simpa using a.sm.symm) (by simpa using a.sF.symm), h.tab.kept ho (by simpa using a.st.symm) (by simpa using a.stF.symm), h.tlb.kept ho (by simpa using a.sp.symm) (by simpa using a.spm.symm), Nat.lt_of_lt_of_le h.lt ho.size, fun i => by rw [World.frozen?_setCell]; exact h.fr i⟩
theorem St.setRoot (h : St L w v x) (r : Nat) : St L (w.setCell ⟨L.s, 4, none⟩ (.int .i64 (r : Int))) v { x with root := r } := by
  obtain ⟨ho, m, t, l, lt, fr⟩ := h.sideS 4 (.int .i64 (r : Int))
  exact ⟨lt, (cellOther w L.s 0 4 _ (by decide)).trans h.c0, (cellOther w L.s 1 4 _ (by decide)).trans h.c1, (cellOther w L.s 2 4 _ (by decide)).trans h.c2, (cellOther w L.s 3 4 _ (by decide)).trans h.c3, h.cellSet 4 _ (by simp), (cellOther w L.s 5 4 _ (by decide)).trans h.c5, (cellOther w L.s 6 4 _ (by decide)).trans h.c6, fr, m, t, l, owns_kept h.own ho (h.farS (by simp [Loc.all])), h.far, h.ap⟩
theorem St.setGone (h : St L w v x) (g : Bool) : St L (w.setCell ⟨L.s, 5, none⟩ (.bool g)) v { x with gone := g } := by
  obtain ⟨ho, m, t, l, lt, fr⟩ := h.sideS 5 (.bool g)
  exact ⟨lt, (cellOther w L.s 0 5 _ (by decide)).trans h.c0, (cellOther w L.s 1 5 _ (by decide)).trans h.c1, (cellOther w L.s 2 5 _ (by decide)).trans h.c2, (cellOther w L.s 3 5 _ (by decide)).trans h.c3, (cellOther w L.s 4 5 _ (by decide)).trans h.c4, h.cellSet 5 _ (by simp), (cellOther w L.s 6 5 _ (by decide)).trans h.c6, fr, m, t, l, owns_kept h.own ho (h.farS (by simp [Loc.all])), h.far, h.ap⟩
/-- Its log's row is put. -/
theorem St.setLog {l' : List Deed} (h : St L w v x) (hown : w.ownsRow 0 54 3 v' l'.length (flatD l')) (hfar : ∀ k, v'.ownBlock = some k → k ∉ L.all) : St L (w.setCell ⟨L.s, 6, none⟩ v') v' { x with log := l' } := by
  obtain ⟨ho, m, t, l, lt, fr⟩ := h.sideS 6 v'
  exact ⟨lt, (cellOther w L.s 0 6 _ (by decide)).trans h.c0, (cellOther w L.s 1 6 _ (by decide)).trans h.c1, (cellOther w L.s 2 6 _ (by decide)).trans h.c2, (cellOther w L.s 3 6 _ (by decide)).trans h.c3, (cellOther w L.s 4 6 _ (by decide)).trans h.c4, (cellOther w L.s 5 6 _ (by decide)).trans h.c5, h.cellSet 6 _ (by simp), fr, m, t, l, owns_kept hown ho (fun k hk e => hfar k e (by simp at hk; simp [Loc.all, hk])), hfar, h.ap⟩
theorem St.noLog (h : St L w v x) : St L (w.setCell ⟨L.s, 6, none⟩ (.slice none 0 0)) (.slice none 0 0) { x with log := [] } :=
  h.setLog (l' := []) (World.ownsRow_nil _ _ _ _) (fun k e => by simp [Value.ownBlock] at e)
/-- Row's cells are changed alone: a row that has grown. -/
theorem St.grown (h : St L w v x) (ho : w.grownBy w' v.ownBlock) :
    L.s < w'.heap.size ∧ (∀ j, w'.cell? ⟨L.s, j, none⟩ = w.cell? ⟨L.s, j, none⟩) ∧ (∀ j, w'.frozen? ⟨L.s, j, none⟩ = false) ∧ Mem w' L.m L.F L.n L.c x.z ∧ Fr.Tab w' L.t L.tF x.os ∧ Tl.Tlb w' L.p L.pm L.room x.next x.ps := by
  have hO : Only v.ownBlock.toList w w' := ⟨ho.os, ho.tape, ho.output, ho.size, fun k hk hn => ho.block k hk (fun e => hn (by rw [← e]; simp))⟩
  have hn : ∀ k ∈ L.all, k ∉ v.ownBlock.toList := fun k hk hm => h.far k (by simpa using hm) hk
  exact ⟨Nat.lt_of_lt_of_le h.lt hO.size, fun j => hO.cell h.lt (hn _ (by simp [Loc.all])) j, fun j => (hO.frozen h.lt (hn _ (by simp [Loc.all])) j).trans (h.fr j), h.mem.kept hO (hn _ (by simp [Loc.all])) (hn _ (by simp [Loc.all])), h.tab.kept hO (hn _ (by simp [Loc.all])) (hn _ (by simp [Loc.all])), h.tlb.kept hO (hn _ (by simp [Loc.all])) (hn _ (by simp [Loc.all]))⟩
end

/-! ### The log grows -/
theorem infoDeed : (Tryz.prog.info? 54).map (fun i => (i.zero, i.size, i.bytes)) = some (some (.agg #[.int .i64 0, .int .u32 0, .int .u32 0]), 3, 16) := by kernel_rfl
theorem info_parts {t : TypeId} {z : Value} {k b : Nat} (h : (Tryz.prog.info? t).map (fun i => (i.zero, i.size, i.bytes)) = some (some z, k, b)) : ∃ i, Tryz.prog.info? t = some i ∧ i.zero = some z ∧ i.size = k ∧ i.bytes = b := by
  obtain ⟨i, hi, hx⟩ := Option.map_eq_some_iff.1 h
  simp only [Prod.mk.injEq] at hx
  exact ⟨i, hi, hx⟩
/-- One deed is appended; then the space's cell may be put. -/
theorem step_log {ops : Array Oper} {rest : List Oper} {o : Oper} {a : Act} {Q : Exit → Act → World → Prop} (hgd : o.guard = none) (s y : Operand)
    (ho : o.op = .call { callee := .builtin .append, args := #[s, y], argTypes := #[47, 47] }) (L : Loc) (v : Value) (x : Pl) (d : Deed) (cs : Array Value) (W : World)
    (hS : St L W v x) (hn : x.log.length ≤ 1000) (hcs : cs = d.enc.toArray)
    (hs : a.eval s = v) (hx : a.eval y = .slice (some ⟨W.heap.size, 0, none⟩) 1 1)
    (h : ∀ pa k cap W', W'.cell? ⟨L.s, 6, none⟩ = some v → W'.frozen? ⟨L.s, 6, none⟩ = false → L.s < W'.heap.size → Hid (St L (W'.setCell ⟨L.s, 6, none⟩ (.slice pa k cap)) (.slice pa k cap) { x with log := x.log ++ [d] }) → Hid (Hop [L.s] v (.slice pa k cap) W (W'.setCell ⟨L.s, 6, none⟩ (.slice pa k cap))) → wpList Tryz.prog ops Q rest (a.put o.dst (.slice pa k cap)) W') :
    wpList Tryz.prog ops Q (o :: rest) a (W.alloc (.cells cs 54)) := by
  subst hcs
  obtain ⟨i0, hi, hz0, hz1, hz2⟩ := info_parts infoDeed
  have hl3 : ∀ d : Deed, d.enc.length = 3 := fun d => by cases d <;> rfl
  have hfl : ∀ l : List Deed, (flatD l).length = 3 * l.length := fun l => by
    unfold flatD
    induction l with
    | nil => rfl
    | cons d l ih => rw [List.flatMap_cons, List.length_append, ih, hl3, List.length_cons]; omega
  refine wpList_append_own_at _ hgd s y 47 ho 0 54 i0 (.agg #[.int .i64 0, .int .u32 0, .int .u32 0]) 3 16 Tryz.underlying47 hi hz0 hz1 hz2 rfl (by decide) v x.log.length (flatD x.log) hs (hS.own.alloc _) ⟨W.heap.size, 0, none⟩ 1 1 d.enc hx (by rw [hl3])
    (World.news_of_block (cs := d.enc.toArray) (t := 54) (fr := (0, 0)) (heap_alloc_new W _)) (by cases d <;> simp [Deed.enc, Value.oneCell']) (by unfold maxLen; omega) (by omega) (by simp) ?_
  intro v' W' hown hgrow hnil hat
  have hA := hS.alloc (.cells d.enc.toArray 54)
  obtain ⟨g1, g2, g3, g4, g5, g6⟩ := hA.grown hgrow
  have hsz : W.heap.size < W'.heap.size := Nat.lt_of_lt_of_le (by simp) hgrow.size
  have hfar : ∀ k, v'.ownBlock = some k → k ∉ L.all := fun k e hk => by
    have hlt := hS.lts k hk
    rcases hat with h1 | h1
    · exact hS.far k (h1.symm.trans e) hk
    · rw [e] at h1
      injection h1 with h1
      simp at h1
      omega
  have hown' : W'.ownsRow 0 54 3 v' (x.log ++ [d]).length (flatD (x.log ++ [d])) := by
    rw [List.length_append, flatD_snoc]; exact hown
  have o1 : Only [L.s] W' (W'.setCell ⟨L.s, 6, none⟩ v') := Only.setCell W' (by simp) 6 v'
  have ap := hS.ap
  have fin : St L (W'.setCell ⟨L.s, 6, none⟩ v') v' { x with log := x.log ++ [d] } := by
    refine ⟨Nat.lt_of_lt_of_le g1 o1.size, ?_, ?_, ?_, ?_, ?_, ?_, ?_, fun j => by rw [World.frozen?_setCell]; exact g3 j, g4.kept o1 (by simpa using ap.sm.symm) (by simpa using ap.sF.symm), g5.kept o1 (by simpa using ap.st.symm) (by simpa using ap.stF.symm), g6.kept o1 (by simpa using ap.sp.symm) (by simpa using ap.spm.symm), owns_kept hown' o1 (fun k hk e => hfar k e (by simp at hk; simp [Loc.all, hk])), hfar, ap⟩
    · rw [cellOther _ _ _ _ _ (by decide), g2]; exact hA.c0
    · rw [cellOther _ _ _ _ _ (by decide), g2]; exact hA.c1
    · rw [cellOther _ _ _ _ _ (by decide), g2]; exact hA.c2
    · rw [cellOther _ _ _ _ _ (by decide), g2]; exact hA.c3
    · rw [cellOther _ _ _ _ _ (by decide), g2]; exact hA.c4
    · rw [cellOther _ _ _ _ _ (by decide), g2]; exact hA.c5
    · exact World.cell?_setCell_same' _ _ _ (by rw [g2, hA.c6]; rfl)
  have hop1 : Hop [L.s] v v' W W' := by
    have oa := Only.alloc [L.s] W (.cells d.enc.toArray 54)
    refine ⟨hgrow.os.trans oa.os, hgrow.tape.trans oa.tape, hgrow.output.trans oa.output, Nat.le_trans oa.size hgrow.size, fun k hk hs hv => (hgrow.block k (Nat.lt_of_lt_of_le hk oa.size) (fun e => hv e.symm)).trans (oa.block k hk hs), fun k hk e => ?_⟩
    rcases hat with h1 | h1
    · exact h1.symm.trans e
    · have h2 : k = (W.alloc (.cells d.enc.toArray 54)).heap.size := Option.some.inj (e.symm.trans h1)
      rw [World.size_alloc] at h2
      exact absurd hk (by rw [h2]; exact Nat.not_lt.2 (Nat.le_succ _))
  have fop := hop1.trans (Hop.of o1 v')
  clear hop1 o1 hat hnil hgrow hfar hown
  obtain ⟨pa, k, cap, rfl⟩ : ∃ pa k cap, v' = .slice pa k cap := by
    rcases hown'.2 with ⟨rfl, _⟩ | ⟨g, cap, cur, rfl, _⟩
    · exact ⟨_, _, _, rfl⟩
    · exact ⟨_, _, _, rfl⟩
  exact h pa k cap W' ((g2 6).trans hA.c6) (g3 6) g1 fin fop
end St
end Go.Proofs.YtiiggmfindfkfaaGreat
