/-
  A slot's timers as its iterator hands them over: all of them, in whatever order, while the rounds may write all but the slot's own map. Conditions: that the map lies there.
-/
import Derived.RangeFuncNested
import Derived.RangeFuncBound
import Derived.RangeFuncCalls
import Derived.RangeFuncLeaves
import Derived.RangeFuncMany
import Derived.Shelf.Abstract
import Derived.Shelf.AbstractIn
import Derived.Shelf.RegionOpen
import Derived.Sort.MapsRangeIn
import Derived.WalkKit
import Derived.OwnWalkIn
import Derived.TacticsInMore
import Derived.RegionIn
import Derived.LoopNIn
import Derived.LoopIn
import Derived.Maps.OwnIn
import Derived.Test.YtddiapihopgpbaaWhTieAdd
namespace Go.Proofs.Ytddiapihopgpbaa
open Go.RowKit Go.Maps Go.Shelf
attribute [local go_sem] Oper.semAt_some
namespace Wh
open Ph (Only)

/-- What the rounds keep: the slot's map, and whatever else is walked that lies behind B. -/
def Kw (B b : Nat) (W W' : World) : Prop := W.heap.size ≤ W'.heap.size ∧ ∀ (k : Nat) (o : Obj), (B ≤ k ∨ k = b) → W.heap[k]? = some o → o.isWalk = true → W'.heap[k]? = some o
theorem Kw.trans {B b : Nat} {x y z : World} (h : Kw B b x y) (k : Kw B b y z) : Kw B b x z := ⟨Nat.le_trans h.1 k.1, fun i o hi ho hw => k.2 i o hi (h.2 i o hi ho hw) hw⟩
theorem Kw.of_walks {B b : Nat} {x y : World} (h : KeepsWalks x y) : Kw B b x y := ⟨h.size, fun k o _ ho hw => h.same k o ho hw⟩
theorem Kw.putObj {B b : Nat} (W : World) (l : Nat) (o o' : Obj) (h : W.heap[l]? = some o) (hw : o.isWalk = false) : Kw B b W (W.putObj l o') := Kw.of_walks (KeepsWalks.putObj _ h hw)
theorem Kw.ranges {H : Type} {P : Program} {k : TypeId} {R : Value → Option (DataW H × List MemPlace)} {w w' : World} {B b r n : Nat} {D : DataW H} {left : Lit → Bool} {cnt : Nat}
    (hk : Kw B b w w') (h : w.ranges P k R b r n D left cnt) (hr : B ≤ r) : w'.ranges P k R b r n D left cnt := by
  obtain ⟨es, clock, since, seen, c0, hb, F, hs, hD, hi, rest⟩ := h
  exact ⟨es, clock, since, seen, c0, hk.2 b _ (Or.inr rfl) hb rfl, F, hs, hD, hk.2 r _ (Or.inl hr) hi rfl, rest⟩
/-- A contract that asks the rounds for less is one that asks for more. -/
theorem seq_less {α : Type} {F : Fence} {n : Nat} {P : Program} {g : Nat} {lb : Array Value} {encs : α → Array Value} {Kp Kq : World → World → Prop} {S Sp : List α → Prop} {N : Nat} {w : World}
    (h : SeqStopsK F n P g lb encs Kp S Sp N w) (hq : ∀ a b, Kq a b → Kp a b) : SeqStopsK F n P g lb encs Kq S Sp N w :=
  fun l J Jx W hW hJ hJx hY h0 => h l J Jx W hW hJ hJx (fun pre x W1 hj hl => (hY pre x W1 hj hl).mono (fun _ _ hr => hr.imp (fun ⟨a, b, c⟩ => ⟨a, b, hq _ _ c⟩) id)) h0

def unE (p : Lit × DataW Unit) : DuT := match p with
  | (.int _ i, .lit (.int _ a)) => (i.toNat, a.toNat)
  | _ => (0, 0)
theorem unE_ent (x : DuT) : unE (ent x) = x := by simp [unE, ent]
theorem unE_map (l : List DuT) : (l.map ent).map unE = l := by
  rw [List.map_map, show unE ∘ ent = id from funext unE_ent, List.map_id]
theorem ent_perm {l m : List DuT} (h : (l.map ent).Perm (m.map ent)) : l.Perm m := by
  have := h.map unE
  rwa [unE_map, unE_map] at this
/-- The entries that have come are those that are no longer to come. -/
def Met (es : List (Lit × DataW Unit)) (left : Lit → Bool) (xs : List DuT) : Prop := (xs.map ent).Perm (es.filter fun p => !left p.1)
theorem Met.start {es : List (Lit × DataW Unit)} (hk : ∀ p ∈ es, WideAt.IsKeyLit p.1) : Met es (Maps.has (.map es)) [] := by
  unfold Met
  rw [List.filter_eq_nil_iff.2 (fun p hp => by
    have : Maps.has (DataW.map es) p.1 = true := List.any_eq_true.2 ⟨p, hp, WideAt.sameKey_self (hk p hp)⟩
    simp [this])]
  simp
theorem Met.done {es : List (Lit × DataW Unit)} {left : Lit → Bool} {xs : List DuT} (h : Met es left xs) (hl : ∀ kl, left kl = false) : (xs.map ent).Perm es := by
  unfold Met at h
  rwa [List.filter_eq_self.2 (fun p _ => by simp [hl])] at h
theorem strike {left : Lit → Bool} {kl : Lit} {d : DataW Unit} (hl : left kl = true) : ∀ {es : List (Lit × DataW Unit)}, es.Pairwise (fun p q => p.1 ≠ q.1) → (∀ p ∈ es, WideAt.IsKeyLit p.1) → (kl, d) ∈ es →
    (es.filter fun p => !(left p.1 && !p.1.sameKey kl)).Perm ((kl, d) :: es.filter fun p => !left p.1)
  | [], _, _, h => by simp at h
  | p :: r, hap, hk, hm => by
    obtain ⟨h1, h2⟩ := List.pairwise_cons.1 hap
    have hp := hk p (by simp)
    rcases List.mem_cons.1 hm with rfl | hm'
    · have e1 : r.filter (fun p => !(left p.1 && !p.1.sameKey kl)) = r.filter (fun p => !left p.1) :=
        List.filter_congr (fun q hq => by rw [sameKey_ne (Ne.symm (h1 q hq))]; simp)
      rw [List.filter_cons_of_pos (by simp [WideAt.sameKey_self hp]), List.filter_cons_of_neg (by simp [hl]), e1]
    · have ih := strike hl h2 (fun q hq => hk q (by simp [hq])) hm'
      have hne : p.1 ≠ kl := h1 _ hm'
      have e2 : (!(left p.1 && !p.1.sameKey kl)) = !left p.1 := by rw [sameKey_ne hne]; simp
      by_cases hlp : left p.1 = true
      · rw [List.filter_cons_of_neg (by rw [e2]; simp [hlp]), List.filter_cons_of_neg (by simp [hlp])]
        exact ih
      · rw [List.filter_cons_of_pos (by rw [e2]; simp [hlp]), List.filter_cons_of_pos (by simp [hlp])]
        exact (ih.cons _).trans (List.Perm.swap _ _ _)
/-- An entry that comes is a timer. -/
theorem Met.step {es : List (Lit × DataW Unit)} {l : List DuT} {left : Lit → Bool} {xs : List DuT} {i c : Int} (h : Met es left xs) (hp : es.Perm (l.map ent)) (hap : es.Pairwise (fun p q => p.1 ≠ q.1)) (hk : ∀ p ∈ es, WideAt.IsKeyLit p.1) (hl : left (keyT i) = true)
    (hat : ∀ zd, (DataW.map es).atKey (keyT i) zd = .lit (.int .u64 c)) : ∃ x ∈ l, i = (x.1 : Nat) ∧ c = (x.2 : Nat) ∧ Met es (fun z => left z && !z.sameKey (keyT i)) (xs ++ [x]) := by
  have hm : (keyT i, DataW.lit (.int .u64 c)) ∈ es := by
    have hh := has_true_of_atKey hat
    obtain ⟨p, hp, hpk⟩ := List.any_eq_true.1 hh
    have e := WideAt.sameKey_eq hpk
    have e2 := WideAt.atKey_mem .nil (hk p hp) hap (show (p.1, p.2) ∈ es from hp)
    rw [e, hat .nil] at e2
    rw [e2, ← e]
    exact hp
  obtain ⟨x, hx, e⟩ := List.mem_map.1 (hp.mem_iff.1 hm)
  have e1 : i = (x.1 : Nat) := by have := congrArg Prod.fst e; injection this with _ this; exact this.symm
  have e2 : c = (x.2 : Nat) := by have := congrArg Prod.snd e; injection this with this; injection this with _ this; exact this.symm
  refine ⟨x, hx, e1, e2, ?_⟩
  have h1 := strike hl hap hk hm
  rw [← e] at h1
  unfold Met at h ⊢
  rw [List.map_append]
  exact (List.perm_append_singleton (ent x) (xs.map ent)).trans ((h.cons (ent x)).trans h1.symm)
abbrev encV (x : DuT) : Array Value := #[dV x]
set_option maxRecDepth 100000 in
set_option maxHeartbeats 1000000 in
theorem timers1_in (n : Nat) (hn : 1 ≤ n) (lb Bm b B : Nat) (l : List DuT) (J Jx : List DuT → World → Prop)
    (hY : ∀ pre x W, J pre W → pre.length < l.length → x ∈ l → YieldAt Fence.wide (n - 1) Try.prog lb (encV x) W fun e W' =>
      (e = .returned (.bool true) ∧ J (pre ++ [x]) W' ∧ Kw B b W W') ∨ (e = .returned (.bool false) ∧ Jx (pre ++ [x]) W'))
    (W : World) (hB : B ≤ W.heap.size) (hJ : AbidesFrom W.heap.size J) (hm : W.cell? ⟨Bm, 0, none⟩ = some (.map (some b))) (hown : Mp W b l) (h0 : J [] W) :
    CallsIn Fence.wide n Try.prog 33 #[.func (.yield lb) #[] #[], .pointer (some ⟨Bm, 0, none⟩)] W fun e W' => (∃ v, e = .returned v) ∧
      ((∃ xs, xs.Perm l ∧ J xs W') ∨ (∃ pre, True ∧ Jx pre W')) := by
  obtain ⟨es, hown, hperm⟩ := hown
  obtain ⟨es0, e0, hap, hkeys⟩ := hown.entries keyedI
  injection e0 with e0
  subst e0
  have hlen : es.length = l.length := by rw [hperm.length_eq]; simp
  refine callsIn_of_wp Try.func33 rfl trivial ?_ rfl
  simp only [Try.ntmps33, List.size_toArray, List.length_cons, List.length_nil, Nat.reduceAdd, Nat.reduceSub, Array.replicate_succ, Array.replicate_zero, List.push_toArray, List.append_toArray, List.nil_append, List.cons_append]
  gi_wp2_with (first
    | (gi_at_range; refine wpListIn_range_own _ rfl _ 57 rfl 3 22 keyedI Try.underlying57 _ b 1000 _ rfl hown ?_; intro w0 hrg0 hg0 hs0)
    | gi_in)
  go_frame
  gi_loopw [3] (fun _ wr => ∃ (left : Lit → Bool) (cnt : Nat) (xs : List DuT), wr.ranges Try.prog 3 elU b W.heap.size 1000 (.map es) left cnt ∧ xs.length + cnt ≤ es.length ∧ Met es left xs ∧ J xs wr)
    (fun _ wr => wr.rangeLeft b W.heap.size)
  case atStart =>
    exact ⟨_, _, [], hrg0, by simp [Maps.size], Met.start hkeys, hJ [] W w0 none h0 hg0 (fun r e => by cases e)⟩
  case round =>
    obtain ⟨left, cnt, xs, hrg, hcs, hC, hJs⟩ := hrel
    gi_wp2_with (first
      | (gi_at_next; refine wpListIn_next_ranges_ii _ rfl _ rfl 3 22 .i64 .u64 keyedI Try.underlying3 Try.underlying22 b W.heap.size 1000 _ _ _ rfl hrg ?_ ?_)
      | gi_in)
    · intro hc0 hl0
      gi_wp2
      go_end0
      exact ⟨⟨_, rfl⟩, .inl ⟨xs, ent_perm ((hC.done hl0).trans hperm), hJs⟩⟩
    · intro i c w2 cnt2 hwx hwc hlk hat hrg2 hlt hg2 hs2 hen
      obtain ⟨x, hx, rfl, rfl, hC2⟩ := hC.step hperm hap hkeys hlk hat
      have hJ2 : J xs w2 := hJ xs wr w2 (some W.heap.size) hJs hg2 (fun r e => by cases e; exact ⟨Nat.le_refl _, hrg.iter_walk⟩)
      obtain ⟨fn, tmps, assign, body, hy, hR⟩ := hY xs x _ hJ2 (by omega) hx
      dsimp only [encV] at hy
      have HC2 := Lib.hid hC2
      clear hs2 hC2 hC
      gi_wp2
      refine hR.mono ?_
      rintro e W3 (⟨rfl, hJ4, hk4⟩ | ⟨rfl, hJx4⟩)
      · gi_wp2
        have hrg4 := hk4.ranges hrg2 hB
        go_roundw
        case rel => exact ⟨_, cnt2, xs ++ [x], hrg4, by simp; omega, HC2.out, hJ4⟩
        case measure => rw [hrg4.left_eq, hrg.left_eq]; exact hlt
      · gi_wp2
        refine bodyPost_ret (results_none rfl _ _ _) rfl ?_
        exact ⟨⟨_, rfl⟩, .inr ⟨xs ++ [x], trivial, hJx4⟩⟩
theorem timers_any (b : Option Nat) (w : World) :
    Calls Try.prog 26 #[.map b] w fun e w' => e = .returned (.func (.func 33) #[] #[.pointer (some ⟨w.heap.size, 0, none⟩)]) ∧ w' = w.alloc (.cells #[.map b] 57) := by
  go_enter Try.func26, Try.ntmps26
  go_wp2
  go_ret
  exact ⟨rfl, rfl⟩
theorem timers_stops (n : Nat) (hn : 1 ≤ n) (Bm b : Nat) (l : List DuT) (w : World) (hBm : Bm < w.heap.size) (hm : w.cell? ⟨Bm, 0, none⟩ = some (.map (some b))) (hown : Mp w b l) :
    SeqStopsK Fence.wide n Try.prog 33 #[.pointer (some ⟨Bm, 0, none⟩)] encV (Kw w.heap.size b) (fun xs => xs.Perm l) (fun _ => True) l.length w := by
  intro lb J Jx W hW hJ _ hY h0
  exact timers1_in n hn lb Bm b w.heap.size l J Jx (fun pre x W hj hl _ => hY pre x W hj hl) W hW.size hJ ((hW.cell (p := ⟨Bm, 0, none⟩) hBm).trans hm) (hown.kept (Only.of hW []) (by simp)) h0
end Wh
end Go.Proofs.Ytddiapihopgpbaa
