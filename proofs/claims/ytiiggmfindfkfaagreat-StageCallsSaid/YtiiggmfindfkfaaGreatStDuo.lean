/-
  Two spaces of one world of the laws: what calls on each leave. Conditions: none.
-/
import Derived.Test.YtiiggmfindfkfaaGreatStTwo
namespace Go.Proofs.YtiiggmfindfkfaaGreat
open Go.RowKit Nt
namespace St
open Ph En Wk
theorem load_tp (w : World) (b i : Nat) (z : Option Addr) (x : Operand) {o : Oper} {a : Act} (h : w.cell? ⟨b, i, none⟩ = some (.pointer z)) (hx : a.eval x = .pointer (some ⟨b, i, none⟩)) (ho : o.op = .load 32 x) : (execOp a.eval o).run Tryz.prog w = .ok (.value (.pointer z)) w := by
  unfold execOp
  simp only [ho, hx]
  go_simp
theorem y_tp {ops : Array Oper} {S : World → Prop} {o : Oper} {a : Act} (b i : Nat) (z : Option Addr) (x : Operand) (hw : Region.wanted o (yielded ops a.tmps) = true) (hS : ∀ w, S w → w.cell? ⟨b, i, none⟩ = some (.pointer z)) (hx : a.eval x = .pointer (some ⟨b, i, none⟩)) (ho : o.op = .load 32 x) : YieldsIf Tryz.prog ops S o (.pointer z) a := .inl ⟨hw, fun w h => load_tp w b i z x (hS w h) hx ho⟩
theorem load_cp (w : World) (b i : Nat) (z : Option Addr) (x : Operand) {o : Oper} {a : Act} (h : w.cell? ⟨b, i, none⟩ = some (.pointer z)) (hx : a.eval x = .pointer (some ⟨b, i, none⟩)) (ho : o.op = .load 33 x) : (execOp a.eval o).run Tryz.prog w = .ok (.value (.pointer z)) w := by
  unfold execOp
  simp only [ho, hx]
  go_simp
theorem y_cp {ops : Array Oper} {S : World → Prop} {o : Oper} {a : Act} (b i : Nat) (z : Option Addr) (x : Operand) (hw : Region.wanted o (yielded ops a.tmps) = true) (hS : ∀ w, S w → w.cell? ⟨b, i, none⟩ = some (.pointer z)) (hx : a.eval x = .pointer (some ⟨b, i, none⟩)) (ho : o.op = .load 33 x) : YieldsIf Tryz.prog ops S o (.pointer z) a := .inl ⟨hw, fun w h => load_cp w b i z x (hS w h) hx ho⟩
/-- A world of the laws, with another space. -/
structure DW (B g : Nat) (L L' : Loc) (w : World) (v v' : Value) (x y : Pl) : Prop where
  duo : Duo L L' w v v' x y
  lay : Tl.Lay w g 36 [.pointer (some ⟨L.m, 0, none⟩), .pointer (some ⟨L.t, 0, none⟩), .pointer (some ⟨L.p, 0, none⟩), .pointer (some ⟨L.s, 0, none⟩)]
  out : g ∉ L.all
  out' : g ∉ L'.all
  off : v.ownBlock ≠ some g
  off' : v'.ownBlock ≠ some g
  new : ∀ k ∈ L.all, B ≤ k
  new' : ∀ k ∈ L'.all, B ≤ k
  newg : B ≤ g
  newv : ∀ k, v.ownBlock = some k → B ≤ k
  newv' : ∀ k, v'.ownBlock = some k → B ≤ k
section
variable {B g : Nat} {L L' : Loc} {w w' : World} {v v' v1 : Value} {x y x1 y1 : Pl}
theorem DW.le (h : DW B g L L' w v v' x y) : B ≤ w.heap.size := Nat.le_of_lt (Nat.lt_of_le_of_lt h.newg h.lay.lt)
theorem hop_bel {L : Loc} {v v1 : Value} (hp : Hop L.S v v1 w w') (hB : B ≤ w.heap.size) (hn : ∀ k ∈ L.all, B ≤ k) (hv : ∀ k, v.ownBlock = some k → B ≤ k) : Below B w w' :=
  ⟨hp.os, hp.tape, hp.output, hp.size, fun k hk => hp.block k (Nat.lt_of_lt_of_le hk hB) (fun hm => by have := hn k (by simp [Loc.S] at hm; simp [Loc.all]; omega); omega) (fun e => by have := hv k e; omega)⟩
theorem hop_new {L : Loc} {v v1 : Value} (hp : Hop L.S v v1 w w') (hB : B ≤ w.heap.size) (hv : ∀ k, v.ownBlock = some k → B ≤ k) : ∀ k, v1.ownBlock = some k → B ≤ k := fun k hk => by
  by_cases hlt : k < w.heap.size
  · exact hv k (hp.far k hlt hk)
  · omega
/-- A call on the first one. -/
theorem DW.one (h : DW B g L L' w v v' x y) (h1 : St L w' v1 x1) (hp : Hop L.S v v1 w w') : DW B g L L' w' v1 v' x1 y ∧ Below B w w' :=
  ⟨⟨h.duo.step h1 hp, hp.lay h.lay (S_all h.out) h.off, h.out, h.out', hp.off h.lay.lt h.off, h.off', h.new, h.new', h.newg, hop_new hp h.le h.newv, h.newv'⟩, hop_bel hp h.le h.new h.newv⟩
/-- A call on the other one. -/
theorem DW.two (h : DW B g L L' w v v' x y) (h1 : St L' w' v1 y1) (hp : Hop L'.S v' v1 w w') : DW B g L L' w' v v1 (x.as y1) y1 ∧ Below B w w' := by
  have d := (h.duo.swap.step h1 hp).swap
  exact ⟨⟨d, hp.lay h.lay (S_all h.out') h.off', h.out, h.out', h.off, hp.off h.lay.lt h.off', h.new, h.new', h.newg, h.newv, hop_new hp h.le h.newv'⟩, hop_bel hp h.le h.new' h.newv'⟩
theorem DW.below (h : DW B g L L' w v v' x y) (hb : Below w.heap.size w w') : DW B g L L' w' v v' x y :=
  ⟨h.duo.quiet (Only.of hb []), h.lay.kept (Only.of hb []) (by simp), h.out, h.out', h.off, h.off', h.new, h.new', h.newg, h.newv, h.newv'⟩
theorem DW.c (h : DW B g L L' w v v' x y) : w.cell? ⟨g, 0, none⟩ = some (.pointer (some ⟨L.m, 0, none⟩)) ∧ w.cell? ⟨g, 1, none⟩ = some (.pointer (some ⟨L.t, 0, none⟩)) ∧ w.cell? ⟨g, 3, none⟩ = some (.pointer (some ⟨L.s, 0, none⟩)) := ⟨h.lay.cell 0, h.lay.cell 1, h.lay.cell 3⟩
/-- A world with a new space. -/
theorem dw_new (h : Wd B g L w v x) (hN : St L' w' v' y) (ho : Only L'.S w w') (sh : Shr L L') (hs : w.heap.size ≤ L'.s) (hv : ∀ k, v'.ownBlock = some k → w.heap.size ≤ k) : DW B g L L' w' v v' (x.as y) y ∧ Below B w w' := by
  have S := h.st
  have lts := S.lts
  have all' : ∀ k ∈ L'.S, k = L'.s ∨ k ∈ L.all := fun k hk => by
    simp only [Loc.S, List.mem_cons, List.not_mem_nil, or_false] at hk
    rw [sh.F, sh.t, sh.tF, sh.pm] at hk
    simp only [Loc.all, List.mem_cons, List.not_mem_nil, or_false]
    omega
  have ap := S.ap
  have ns : L.s ∉ L'.S := fun hm => by
    have hlt := S.lt
    simp only [Loc.S, List.mem_cons, List.not_mem_nil, or_false] at hm
    rw [sh.F, sh.t, sh.tF, sh.pm] at hm
    have a1 := ap.sF; have a2 := ap.st; have a3 := ap.stF; have a4 := ap.spm
    omega
  have vk : ∀ k ∈ L'.S, v.ownBlock ≠ some k := fun k hk e => by
    rcases all' k hk with rfl | hm
    · have := (S.own.lt _ e).2; omega
    · exact S.far k e hm
  have cc := fun j => ho.cell S.lt ns j
  have a' : St L w' v (x.as y) := by
    refine ⟨Nat.lt_of_lt_of_le S.lt ho.size, (cc 0).trans S.c0, (cc 1).trans S.c1, (cc 2).trans S.c2, (cc 3).trans S.c3, (cc 4).trans S.c4, (cc 5).trans S.c5, (cc 6).trans S.c6, fun j => (ho.frozen S.lt ns j).trans (S.fr j), ?_, ?_, ?_, owns_kept S.own ho vk, S.far, ap⟩
    · rw [← sh.m, ← sh.F, ← sh.n, ← sh.c]; exact hN.mem
    · rw [← sh.t, ← sh.tF]; exact hN.tab
    · rw [← sh.p, ← sh.pm, ← sh.room]; exact hN.tlb
  have gS : g ∉ L'.S := fun hm => by
    rcases all' g hm with e | hm'
    · have := h.lay.lt; omega
    · exact h.out hm'
  have hB := h.le
  have all2 : ∀ k ∈ L'.all, k = L'.s ∨ k ∈ L.all := fun k hk => by
    simp only [Loc.all, List.mem_cons, List.not_mem_nil, or_false] at hk ⊢
    rw [sh.m, sh.F, sh.t, sh.tF, sh.p, sh.pm] at hk
    omega
  refine ⟨⟨⟨a', hN, sh, by have := S.lt; omega, fun e => by have := (S.own.lt _ e).2; omega, fun e => by have := hv _ e; have := S.lt; omega, fun k e e' => by have := (S.own.lt _ e).2; have := hv _ e'; omega⟩, h.lay.kept ho gS, h.out, fun hm => ?_, h.off, fun e => by have := hv _ e; have := h.lay.lt; omega, h.new, fun k hk => ?_, h.newg, h.newv, fun k e => by have := hv _ e; omega⟩, ⟨ho.os, ho.tape, ho.output, ho.size, fun k hk => ho.block k (by omega) (fun hm => ?_)⟩⟩
  · rcases all2 g hm with e | hm'
    · have := h.lay.lt; omega
    · exact h.out hm'
  · rcases all2 k hk with e | hm'
    · omega
    · exact h.new k hm'
  · rcases all' k hm with e | hm'
    · omega
    · have := h.new k hm'; omega
theorem hop_only {L : Loc} (hp : Hop L.S v v1 w w') : Only (L.S ++ v.ownBlock.toList) w w' :=
  ⟨hp.os, hp.tape, hp.output, hp.size, fun k hk hn => hp.block k hk (fun hm => hn (List.mem_append.2 (Or.inl hm))) (fun e => hn (List.mem_append.2 (Or.inr (by simp [e]))))⟩
end
theorem seen_reads {B : Nat} {w : World} {v : Value} {l : List Nat} (h : Fr.Seen B w v l) : ∃ a cap, v = .slice a l.length cap ∧ ReadsI w a l := by
  obtain ⟨a, cap, rfl, hc, hr⟩ := h
  refine ⟨a, cap, rfl, fun hl => ?_⟩
  obtain ⟨b, rfl, _, _, hcell⟩ := hr hl
  refine ⟨b, 0, rfl, fun j hj => ?_⟩
  rw [Nat.zero_add, List.getD_eq_getElem?_getD, List.getElem?_eq_getElem hj]
  exact hcell j _ (List.getElem?_eq_getElem hj)
/-- A row of numbers that lies apart from what calls on a space change. -/
def Rw (L : Loc) (w : World) (v : Value) (pp : Option Addr) (l : List Nat) : Prop :=
  0 < l.length → ∃ b, pp = some ⟨b, 0, none⟩ ∧ b < w.heap.size ∧ b ∉ L.S ∧ v.ownBlock ≠ some b ∧ ∀ (j y : Nat), l[j]? = some y → w.cell? ⟨b, j, none⟩ = some (.int .i64 (y : Int))
theorem Rw.of {L : Loc} {w0 w : World} {v : Value} {x : Pl} {pp : Option Addr} {len cap : Nat} {l : List Nat} (h : Fr.Seen w0.heap.size w (.slice pp len cap) l) (hS : St L w0 v x) : Rw L w v pp l := by
  intro hl
  obtain ⟨a, c, he, _, hr⟩ := h
  injection he with he _ _
  subst he
  obtain ⟨b, rfl, hB, hlt, hc⟩ := hr hl
  exact ⟨b, rfl, hlt, fun hm => by have := hS.lts b (by simp [Loc.S] at hm; simp [Loc.all]; omega); omega, hS.off hB, hc⟩
theorem Rw.hop {L : Loc} {w w' : World} {v v' : Value} {pp : Option Addr} {l : List Nat} (h : Rw L w v pp l) (hp : Hop L.S v v' w w') : Rw L w' v' pp l := fun hl => by
  obtain ⟨b, e, hlt, hn, ho, hc⟩ := h hl
  exact ⟨b, e, Nat.lt_of_lt_of_le hlt hp.size, hn, hp.off hlt ho, fun j y hj => (hp.cell hlt hn ho j).trans (hc j y hj)⟩
theorem Rw.below {L : Loc} {w w' : World} {v : Value} {pp : Option Addr} {l : List Nat} (h : Rw L w v pp l) (hb : Below w.heap.size w w') : Rw L w' v pp l := h.hop (hop_below hb v)
theorem Rw.reads {L : Loc} {w : World} {v : Value} {pp : Option Addr} {l : List Nat} (h : Rw L w v pp l) : ReadsI w pp l := fun hl => by
  obtain ⟨b, rfl, _, _, _, hc⟩ := h hl
  refine ⟨b, 0, rfl, fun j hj => ?_⟩
  rw [Nat.zero_add, List.getD_eq_getElem?_getD, List.getElem?_eq_getElem hj]
  exact hc j _ (List.getElem?_eq_getElem hj)
theorem readsI_quiet {w w' : World} {pa : Option Addr} {l : List Nat} (h : ReadsI w pa l) (ho : Only [] w w') : ReadsI w' pa l := fun hl => by
  obtain ⟨b, off, e, hc⟩ := h hl
  exact ⟨b, off, e, fun j hj => (ho.cell (World.block_lt_of_cell? w _ (hc j hj)) (by simp) _).trans (hc j hj)⟩
/-- The second frame is taken, where two are nobody's. -/
theorem own0_spot2 {n k : Nat} (h1 : 2 ≤ k) (h : k ≤ n) : Fr.spot 1 ((own0 n k).set 0 1) = some 1 := by
  refine Fr.spot_at (by omega) (Fr.isRun_iff.2 ⟨by rw [List.length_set, own0_len h]; omega, fun i hi => ?_⟩) (fun j hj => ?_)
  · have : i = 0 := by omega
    subst this
    rw [List.getElem?_set_ne (by omega), own0_get h (by omega), if_pos (by omega)]
  · have : j = 0 := by omega
    subst this
    exact Fr.isRun_no (i := 0) (x := 1) (by omega) (List.getElem?_set_self (by rw [own0_len h]; omega)) (by omega)
end St
end Go.Proofs.YtiiggmfindfkfaaGreat
