/-
  A map of timers (a number, when it is due), as it lies in a block: made, written, struck from, looked up, counted. Conditions: numbers below 1,000, times of 64 bits, no number twice.
-/
import Derived.Test.YtddiapihopgpbaaWhBase
import Derived.Maps.OwnSet
import Derived.Maps.RangeWalk
import Derived.MapViews
import Derived.RangeFuncNested
namespace Go.Proofs.Ytddiapihopgpbaa
open Go.RowKit Go.Maps Go.WideShapes Go.ChangeShapes
namespace Wh
open Ph (Only)

abbrev keyT (i : Int) : Lit := .int .i64 i
/-- A timer as a map's entry. -/
def ent (x : DuT) : Lit × DataW Unit := (keyT (x.1 : Nat), .lit (.int .u64 (x.2 : Nat)))
noncomputable abbrev elU : Value → Option (DataW Unit × List MemPlace) := plainElem Try.prog 22
theorem keyedI : Keyed Try.prog 3 := int_keyed Try.underlying3
theorem wf_id {i : Int} (h : W64 i) : (Lit.int .i64 i).wf = true := h
theorem wf_nat {i : Nat} (h : i ≤ 999) : W64 (i : Nat) := by unfold W64; simp [Lit.wf, IntKind.min, IntKind.max, IntKind.signed, IntKind.bits]; omega
theorem wf_at {a : Nat} (h : a < 18446744073709551616) : (Lit.int .u64 (a : Nat)).wf = true := by simp [Lit.wf, IntKind.min, IntKind.max, IntKind.signed, IntKind.bits]; omega
theorem keyI {i : Int} (h : W64 i) : keyOf Try.prog 3 (.int .i64 i) = some (keyT i) := keyOf_int_mk Try.underlying3 h
theorem elU_mk {a : Nat} (h : a < 18446744073709551616) : elU (.int .u64 (a : Nat)) = some (.lit (.int .u64 (a : Nat)), []) := plainElem_int Try.underlying22 (wf_at h)
theorem same_id {i j : Int} (hi : W64 i) (hj : W64 j) : (keyT i).sameKey (keyT j) = decide (i = j) := by
  by_cases h : i = j
  · subst h
    rw [WideAt.sameKey_self (keyedI.key (keyI hi))]; simp
  · rw [sameKey_ne (fun e => h (by injection e))]; simp [h]
/-- Timers as a map may have them. -/
structure Fit (l : List DuT) : Prop where
  uni : Uni l
  ids : ∀ x ∈ l, x.1 ≤ 999
  ats : ∀ x ∈ l, x.2 ≤ 4611686018427387904
theorem Fine.fit {t : Nat} {l : List DuT} (h : Fine t l) : Fit l := ⟨h.uni, h.ids, h.ats⟩
theorem Fit.filter {l : List DuT} (h : Fit l) (p : DuT → Bool) : Fit (l.filter p) := ⟨uni_filter h.uni p, fun x hx => h.ids x (List.mem_filter.1 hx).1, fun x hx => h.ats x (List.mem_filter.1 hx).1⟩
theorem Uni.perm {l m : List DuT} (h : Uni l) (hp : l.Perm m) : Uni m := (hp.pairwise_iff (fun e => Ne.symm e)).1 h
theorem Fit.perm {l m : List DuT} (h : Fit l) (hp : l.Perm m) : Fit m := ⟨h.uni.perm hp, fun x hx => h.ids x (hp.mem_iff.2 hx), fun x hx => h.ats x (hp.mem_iff.2 hx)⟩
/-- Numbers below a bound, none twice, are no more than the bound. -/
theorem uni_len : ∀ (n : Nat) {l : List DuT}, Uni l → (∀ x ∈ l, x.1 < n) → l.length ≤ n
  | 0, [], _, _ => Nat.zero_le _
  | 0, x :: l, _, h => by have := h x (by simp); omega
  | n + 1, l, hu, h => by
    have h1 := uni_len n (l := l.filter (fun x => decide (x.1 < n))) (uni_filter hu _) (fun x hx => by simpa using (List.mem_filter.1 hx).2)
    have h2 : (l.filter (fun x => !decide (x.1 < n))).length ≤ 1 := by
      have hu2 := uni_filter hu (fun x => !decide (x.1 < n))
      have ha : ∀ x ∈ l.filter (fun x => !decide (x.1 < n)), x.1 = n := fun x hx => by
        obtain ⟨a, b⟩ := List.mem_filter.1 hx
        have := h x a
        simp at b
        omega
      revert hu2 ha
      generalize l.filter (fun x => !decide (x.1 < n)) = m
      intro hu2 ha
      match m, hu2, ha with
      | [], _, _ => simp
      | [x], _, _ => simp
      | x :: y :: r, hu2, ha =>
        have := (List.pairwise_cons.1 hu2).1 y (by simp)
        exact absurd ((ha x (by simp)).trans (ha y (by simp)).symm) this
    have h3 : l.length = (l.filter (fun x => decide (x.1 < n))).length + (l.filter (fun x => !decide (x.1 < n))).length := by
      clear h1 h2 h hu
      induction l with
      | nil => rfl
      | cons x l ih => by_cases e : x.1 < n <;> simp [e, ih] <;> omega
    omega
theorem Fit.len {l : List DuT} (h : Fit l) : l.length ≤ 1000 := uni_len 1000 h.uni (fun x hx => by have := h.ids x hx; omega)

/-- Block b is a map of the timers of a list, in whatever order. -/
def Mp (w : World) (b : Nat) (l : List DuT) : Prop := ∃ es, w.ownsMap Try.prog 3 elU b 1000 (.map es) ∧ es.Perm (l.map ent)
theorem tight {H : Type} {w : World} {P : Program} {k : TypeId} {R : Value → Option (DataW H × List MemPlace)} {b n : Nat} {es : List (Lit × DataW H)} (h : w.ownsMap P k R b n (.map es)) : w.ownsMap P k R b es.length (.map es) := by
  obtain ⟨xs, clock, hb, F, hs, hD⟩ := h
  refine ⟨xs, clock, hb, F, ?_, hD⟩
  injection hD with hD
  rw [hD, length_sorted]
  simp
theorem Mp.of {w : World} {b n : Nat} {l : List DuT} {es : List (Lit × DataW Unit)} (h : w.ownsMap Try.prog 3 elU b n (.map es)) (hp : es.Perm (l.map ent)) (hl : l.length ≤ 1000) : Mp w b l :=
  ⟨es, (tight h).mono (by rw [hp.length_eq]; simpa using hl), hp⟩
theorem Mp.lt {w : World} {b : Nat} {l : List DuT} (h : Mp w b l) : b < w.heap.size := by
  obtain ⟨es, ho, _⟩ := h
  exact ho.lt
theorem Mp.perm {w : World} {b : Nat} {l m : List DuT} (h : Mp w b l) (hp : l.Perm m) : Mp w b m := by
  obtain ⟨es, ho, he⟩ := h
  exact ⟨es, ho, he.trans (hp.map ent)⟩
theorem Mp.kept {w w' : World} {b : Nat} {l : List DuT} {S : List Nat} (h : Mp w b l) (ho : Only S w w') (hm : b ∉ S) : Mp w' b l := by
  obtain ⟨es, ⟨xs, clock, hb, F, hs, hD⟩, hp⟩ := h
  have hlt := (Array.getElem?_eq_some_iff.1 hb).1
  exact ⟨es, ⟨xs, clock, (ho.block b hlt hm).trans hb, F, hs, hD⟩, hp⟩
theorem only_grown {w w' : World} {m : Nat} (h : w.grownBy w' (some m)) : Only [m] w w' :=
  ⟨h.os, h.tape, h.output, h.size, fun k hk hn => h.block k hk (fun e => hn (by injection e with e; simp [e]))⟩
theorem only_grown0 {w w' : World} (h : w.grownBy w' none) : Only [] w w' :=
  ⟨h.os, h.tape, h.output, h.size, fun k hk _ => h.block k hk (fun e => by cases e)⟩
/-- A map is no block of cells. -/
theorem Mp.no_cells {w : World} {b : Nat} {l : List DuT} (h : Mp w b l) (j : Nat) : w.cell? ⟨b, j, none⟩ = none := by
  obtain ⟨es, ⟨xs, clock, hb, _⟩, _⟩ := h
  simp [World.cell?, hb]
theorem Mp.ne {w : World} {b p j : Nat} {v : Value} {l : List DuT} (h : Mp w b l) (hc : w.cell? ⟨p, j, none⟩ = some v) : b ≠ p := fun e => by
  subst e
  rw [h.no_cells] at hc
  cases hc
theorem Mp.walk {w : World} {b : Nat} {l : List DuT} (h : Mp w b l) : ∃ o : Obj, w.heap[b]? = some o ∧ o.isWalk = true ∧ o.isCells = false := by
  obtain ⟨es, ⟨xs, clock, hb, _⟩, _⟩ := h
  exact ⟨_, hb, rfl, rfl⟩
theorem Mp.made (w : World) : Mp (w.alloc (.map #[] 0)) w.heap.size [] := Mp.of (World.ownsMap_made w Try.prog 3 elU) (List.Perm.refl _) (Nat.zero_le _)
theorem ent_has {l : List DuT} (h : Fit l) {i : Int} (hi : W64 i) : (l.map ent).any (fun p => p.1.sameKey (keyT i)) = (atP i l).isSome := by
  unfold atP
  rw [List.any_map]
  by_cases h0 : 0 ≤ i
  · rw [if_pos h0, Option.isSome_map, List.isSome_find?, Bool.eq_iff_iff, List.any_eq_true, List.any_eq_true]
    have he : ∀ x ∈ l, ((keyT (x.1 : Nat)).sameKey (keyT i) = true ↔ (x.1 == i.toNat) = true) := fun x hx => by
      rw [same_id (wf_nat (h.ids x hx)) hi]
      simp
      omega
    exact ⟨fun ⟨x, hx, e⟩ => ⟨x, hx, (he x hx).1 e⟩, fun ⟨x, hx, e⟩ => ⟨x, hx, (he x hx).2 e⟩⟩
  · rw [if_neg h0, List.any_eq_false.2]
    · rfl
    · intro x hx
      have hx2 := h.ids x hx
      show ¬ (keyT (x.1 : Nat)).sameKey (keyT i) = true
      rw [same_id (wf_nat hx2) hi]
      simp
      omega
theorem atP_has {i : Int} {l : List DuT} : (atP i l).isSome = canB i l := by
  unfold atP canB has
  by_cases h0 : 0 ≤ i
  · rw [if_pos h0, Option.isSome_map, List.isSome_find?]; simp [h0]
  · rw [if_neg h0]; simp [h0]
theorem atM_some {i : Int} {l : List DuT} {a : Nat} (h : atP i l = some a) : 0 ≤ i ∧ (i.toNat, a) ∈ l := by
  unfold atP at h
  split at h
  · rename_i h0
    obtain ⟨x, hx, e⟩ := Option.map_eq_some_iff.1 h
    have h1 := List.find?_some hx
    have h2 := List.mem_of_find?_eq_some hx
    refine ⟨h0, ?_⟩
    have : x.1 = i.toNat := by simpa using h1
    rw [← this, ← e]
    exact h2
  · cases h
theorem atP_lt {i : Int} {l : List DuT} (hf : Fit l) : (atP i l).getD 0 < 18446744073709551616 := by
  cases h : atP i l with
  | none => simp
  | some a =>
    have := hf.ats _ (atM_some h).2
    simp only [Option.getD_some]
    simp only at this
    omega
set_option maxRecDepth 100000 in
/-- What a look-up gives. -/
theorem Mp.look {w : World} {b : Nat} {l : List DuT} (h : Mp w b l) (hf : Fit l) {i : Int} (hi : W64 i) :
    (Instr.lookup 57 (.map (some b)) (.int .i64 i) true).run Try.prog w = .ok (.tuple #[.int .u64 ((atP i l).getD 0 : Nat), .bool (atP i l).isSome]) w := by
  obtain ⟨es, hown, hp⟩ := h
  have hz : (zeroValue 22).run Try.prog w = .ok (.int .u64 0) w := by kernel_rfl
  obtain ⟨es0, e0, hap, _⟩ := hown.entries keyedI
  injection e0 with e0
  subst e0
  obtain ⟨v, ps, hrun, hv⟩ := hown.look_ok keyedI Try.underlying57 hz (elU_mk (a := 0) (by decide)) (keyI hi)
  have hh : Maps.has (.map es) (keyT i) = (atP i l).isSome := by rw [has_eq, hp.any_eq]; exact ent_has hf hi
  have hat : (DataW.map es).atKey (keyT i) (.lit (.int .u64 0)) = .lit (.int .u64 ((atP i l).getD 0 : Nat)) := by
    cases ha : atP i l with
    | none => exact atKey_of_not_has (by rw [hh, ha]; rfl) _
    | some a =>
      obtain ⟨h0, hm⟩ := atM_some ha
      have hm2 := hp.mem_iff.2 (List.mem_map_of_mem (f := ent) hm)
      have e1 : ent (i.toNat, a) = (keyT i, .lit (.int .u64 (a : Nat))) := by
        unfold ent
        rw [show (((i.toNat : Nat) : Int)) = i by omega]
      rw [e1] at hm2
      exact WideAt.atKey_mem _ (keyedI.key (keyI hi)) hap hm2
  obtain ⟨c, rfl, hc, _⟩ := plainElem_int_inv Try.underlying22 hv
  have hc1 : (DataW.map es).atKey (keyT i) (.lit (.int .u64 0)) = .lit (.int .u64 c) := congrArg Prod.fst hc
  rw [hat] at hc1
  injection hc1 with hc1
  injection hc1 with _ hc1
  rw [← hc1, hh] at hrun
  exact hrun
/-- What a store gives: one timer more. -/
theorem Mp.put {w : World} {b : Nat} {l : List DuT} (h : Mp w b l) (hf : Fit l) {x : DuT} (hx : x.1 ≤ 999) (hn : has x.1 l = false) (ha : x.2 < 18446744073709551616) (hl : l.length < 1000) :
    ∃ w', (Instr.mapUpdate 57 (.map (some b)) (.int .i64 (x.1 : Nat)) (.int .u64 (x.2 : Nat))).run Try.prog w = .ok () w' ∧ Mp w' b (x :: l) ∧ w.grownBy w' (some b) := by
  obtain ⟨es, hown, hp⟩ := h
  obtain ⟨w', hrun, hown', hturn⟩ := hown.store keyedI Try.underlying57 (by unfold maxLen; omega) (keyI (wf_nat hx)) (elU_mk ha)
  refine ⟨w', hrun, Mp.of hown' ?_ (by simp; omega), hturn.grown⟩
  refine (insert_perm _ _).trans ?_
  show List.Perm ((keyT (x.1 : Nat), DataW.lit (.int .u64 (x.2 : Nat))) :: es.filter (fun y => !y.1.sameKey (keyT (x.1 : Nat)))) (ent x :: l.map ent)
  refine List.Perm.cons _ ?_
  have : es.filter (fun y => !y.1.sameKey (keyT (x.1 : Nat))) = es := by
    refine List.filter_eq_self.2 fun y hy => ?_
    obtain ⟨z, hz, rfl⟩ := List.mem_map.1 (hp.mem_iff.1 hy)
    show (!(keyT (z.1 : Nat)).sameKey (keyT (x.1 : Nat))) = true
    rw [same_id (wf_nat (hf.ids z hz)) (wf_nat hx)]
    have : z.1 ≠ x.1 := fun e => by
      have := has_iff.2 ⟨z, hz, e⟩
      rw [hn] at this; cases this
    simp; omega
  rw [this]
  exact hp
theorem ent_del {l : List DuT} (hf : Fit l) {i : Int} (hi : W64 i) : (l.map ent).filter (fun y => !y.1.sameKey (keyT i)) = (canL i l).map ent := by
  rw [List.filter_map]
  have e1 : canL i l = l.filter (fun x => decide ((x.1 : Int) ≠ i)) := by
    unfold canL canB del
    by_cases hc : (decide (0 ≤ i) && has i.toNat l) = true
    · rw [if_pos hc]
      have h0 : 0 ≤ i := by simp at hc; exact hc.1
      refine List.filter_congr fun x _ => ?_
      by_cases e : x.1 = i.toNat
      · have : (x.1 : Int) = i := by omega
        simp [e]; omega
      · have : (x.1 : Int) ≠ i := by omega
        simp [e, this]
    · rw [if_neg hc]
      refine (List.filter_eq_self.2 fun x hx => ?_).symm
      simp only [decide_eq_true_eq]
      intro e
      apply hc
      have h0 : 0 ≤ i := by omega
      simp only [h0, decide_true, Bool.true_and]
      exact has_iff.2 ⟨x, hx, by omega⟩
  rw [e1]
  refine congrArg (List.map ent) (List.filter_congr fun x hx => ?_)
  show (!(keyT (x.1 : Nat)).sameKey (keyT i)) = _
  rw [same_id (wf_nat (hf.ids x hx)) hi]
  by_cases e : (x.1 : Int) = i <;> simp [e]
theorem canM_len (i : Int) (l : List DuT) : (canL i l).length ≤ l.length := by
  unfold canL del
  split
  · exact List.length_filter_le _ _
  · exact Nat.le_refl _
/-- What a builtin delete gives. -/
theorem Mp.cut {w : World} {b : Nat} {l : List DuT} (h : Mp w b l) (hf : Fit l) {i : Int} (hi : W64 i) :
    ∃ w', (∀ ty, (Builtin.delete_ #[57, 3] ty #[.map (some b), .int .i64 i]).run Try.prog w = .ok (.tuple #[]) w') ∧ Mp w' b (canL i l) ∧ w.grownBy w' (some b) := by
  obtain ⟨es, hown, hp⟩ := h
  obtain ⟨w', hrun, hown', hturn⟩ := hown.drop keyedI Try.underlying57 (keyI hi) 0
  have hlen := canM_len i l
  have h1 : (es.filter (fun y => !y.1.sameKey (keyT i))).Perm ((canL i l).map ent) := by rw [← ent_del hf hi]; exact hp.filter _
  exact ⟨w', fun _ => hrun, Mp.of hown' h1 (by have := hf.len; omega), hturn.grown⟩
/-- What len gives. -/
theorem Mp.count {w : World} {b : Nat} {l : List DuT} (h : Mp w b l) (ty : TypeId) : (Builtin.len_ #[57] ty #[.map (some b)]).run Try.prog w = .ok (.int .i64 (l.length : Nat)) w := by
  obtain ⟨es, hown, hp⟩ := h
  rw [hown.len Try.underlying57 ty]
  have : Maps.size (DataW.map es) = l.length := by show es.length = _; rw [hp.length_eq]; simp
  rw [this]
end Wh
end Go.Proofs.Ytddiapihopgpbaa
