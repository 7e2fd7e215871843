/-
  The entries of a TLB's map as they come out of maps.Values, and as slices.Collect lays them into a row. Conditions: that the map stands for its places.
-/
import Derived.RangeFuncNested
import Derived.RangeFuncBound
import Derived.RangeFuncCalls
import Derived.RangeFuncLeaves
import Derived.RangeFuncMany
import Derived.Shelf.Abstract
import Derived.Shelf.AbstractIn
import Derived.Shelf.RegionOpen
import Derived.Sort.MapsRangeIn
import Derived.WalkKit
import Derived.OwnWalkIn
import Derived.TacticsInMore
import Derived.RegionIn
import Derived.LoopNIn
import Derived.LoopIn
import Derived.Maps.AppendAt
import Derived.Deep.AppendLies
import Derived.Test.YtcpadnedfnkieaaTlMath
namespace Go.Proofs.Ytcpadnedfnkieaa
open Go.RowKit Go.Maps Go.Shelf
attribute [local go_sem] Oper.semAt_some
namespace Tl
open Ph (Only)

/-- The entries in the order of their places. -/
def helds : Nat → List (Option SlotT) → List HeldT
  | _, [] => []
  | i, none :: r => helds (i + 1) r
  | i, some s :: r => ((i : Int), s) :: helds (i + 1) r
def unD : DataW HeldT → HeldT
  | .held h => h
  | _ => zeroH
theorem helds_ents : ∀ (i : Nat) (ps : List (Option SlotT)), (ents i ps).map (fun p => unD p.2) = helds i ps
  | _, [] => rfl
  | i, none :: r => by simp only [ents, helds]; exact helds_ents (i + 1) r
  | i, some s :: r => by
    have := helds_ents (i + 1) r
    simp only [ents, helds, List.map_cons]
    rw [this]
    rfl
/-- The entries that have come are those that are no longer to come. -/
def Met (es : List (Lit × DataW HeldT)) (left : Lit → Bool) (xs : List HeldT) : Prop := xs.Perm ((es.filter fun p => !left p.1).map fun p => unD p.2)
theorem Met.start {es : List (Lit × DataW HeldT)} (hk : ∀ p ∈ es, WideAt.IsKeyLit p.1) : Met es (Maps.has (.map es)) [] := by
  unfold Met
  rw [List.filter_eq_nil_iff.2 (fun p hp => by
    have : Maps.has (DataW.map es) p.1 = true := List.any_eq_true.2 ⟨p, hp, WideAt.sameKey_self (hk p hp)⟩
    simp [this])]
  simp
theorem Met.done {es : List (Lit × DataW HeldT)} {left : Lit → Bool} {xs : List HeldT} (h : Met es left xs) (hl : ∀ kl, left kl = false) : xs.Perm (es.map fun p => unD p.2) := by
  unfold Met at h
  rwa [List.filter_eq_self.2 (fun p _ => by simp [hl])] at h
theorem strike {left : Lit → Bool} {kl : Lit} {d : DataW HeldT} (hl : left kl = true) : ∀ {es : List (Lit × DataW HeldT)}, es.Pairwise (fun p q => p.1 ≠ q.1) → (∀ p ∈ es, WideAt.IsKeyLit p.1) → (kl, d) ∈ es →
    (es.filter fun p => !(left p.1 && !p.1.sameKey kl)).Perm ((kl, d) :: es.filter fun p => !left p.1)
  | [], _, _, h => by simp at h
  | p :: r, hap, hk, hm => by
    obtain ⟨h1, h2⟩ := List.pairwise_cons.1 hap
    have hp := hk p (by simp)
    rcases List.mem_cons.1 hm with rfl | hm'
    · have e1 : r.filter (fun p => !(left p.1 && !p.1.sameKey kl)) = r.filter (fun p => !left p.1) :=
        List.filter_congr (fun q hq => by rw [sameKey_ne (Ne.symm (h1 q hq))]; simp)
      rw [List.filter_cons_of_pos (by simp [WideAt.sameKey_self hp]), List.filter_cons_of_neg (by simp [hl]), e1]
    · have ih := strike hl h2 (fun q hq => hk q (by simp [hq])) hm'
      have hne : p.1 ≠ kl := h1 _ hm'
      have e2 : (!(left p.1 && !p.1.sameKey kl)) = !left p.1 := by rw [sameKey_ne hne]; simp
      by_cases hlp : left p.1 = true
      · rw [List.filter_cons_of_neg (by rw [e2]; simp [hlp]), List.filter_cons_of_neg (by simp [hlp])]
        exact ih
      · rw [List.filter_cons_of_pos (by rw [e2]; simp [hlp]), List.filter_cons_of_pos (by simp [hlp])]
        exact (ih.cons _).trans (List.Perm.swap _ _ _)
theorem Met.step {es : List (Lit × DataW HeldT)} {left : Lit → Bool} {xs : List HeldT} {kl : Lit} {c : HeldT} (h : Met es left xs) (hap : es.Pairwise (fun p q => p.1 ≠ q.1)) (hk : ∀ p ∈ es, WideAt.IsKeyLit p.1) (hl : left kl = true)
    (hat : ∀ zd, (DataW.map es).atKey kl zd = .held c) : Met es (fun z => left z && !z.sameKey kl) (xs ++ [c]) := by
  have hm : (kl, DataW.held c) ∈ es := by
    have hh := has_true_of_atKey hat
    obtain ⟨p, hp, hpk⟩ := List.any_eq_true.1 hh
    have e := WideAt.sameKey_eq hpk
    have e2 := WideAt.atKey_mem .nil (hk p hp) hap (show (p.1, p.2) ∈ es from hp)
    rw [e, hat .nil] at e2
    rw [e2, ← e]
    exact hp
  have h1 := (strike hl hap hk hm).map (fun p => unD p.2)
  unfold Met at h ⊢
  exact (List.perm_append_singleton c xs).trans ((h.cons c).trans h1.symm)

abbrev encV (h : HeldT) : Array Value := #[heldV h]
set_option maxRecDepth 100000 in
set_option maxHeartbeats 1000000 in
theorem values1_in (n : Nat) (hn : 1 ≤ n) (l Bm b nn : Nat) (es : List (Lit × DataW HeldT)) (J Jx : List HeldT → World → Prop)
    (hY : ∀ pre x W, J pre W → pre.length < es.length → YieldAt Fence.wide (n - 1) Try.prog l (encV x) W fun e W' =>
      (e = .returned (.bool true) ∧ J (pre ++ [x]) W' ∧ KeepsWalks W W') ∨ (e = .returned (.bool false) ∧ Jx (pre ++ [x]) W'))
    (W : World) (hJ : AbidesFrom W.heap.size J) (hm : W.cell? ⟨Bm, 0, none⟩ = some (.map (some b))) (hown : W.ownsMap Try.prog 70 heldR b nn (.map es)) (h0 : J [] W) :
    CallsIn Fence.wide n Try.prog 35 #[.func (.yield l) #[] #[], .pointer (some ⟨Bm, 0, none⟩)] W fun e W' => (∃ v, e = .returned v) ∧
      ((∃ xs, xs.Perm (es.map fun p => unD p.2) ∧ J xs W') ∨ (∃ pre, True ∧ Jx pre W')) := by
  obtain ⟨es0, e0, hap, hkeys⟩ := hown.entries keyed
  injection e0 with e0
  subst e0
  refine callsIn_of_wp Try.func35 rfl trivial ?_ rfl
  simp only [Try.ntmps35, List.size_toArray, List.length_cons, List.length_nil, Nat.reduceAdd, Nat.reduceSub, Array.replicate_succ, Array.replicate_zero, List.push_toArray, List.append_toArray, List.nil_append, List.cons_append]
  gi_wp2_with (first
    | (gi_at_range; refine wpListIn_range_own _ rfl _ 59 rfl 70 65 keyed Try.underlying59 _ b nn _ rfl hown ?_; intro w0 hrg0 hg0 hs0)
    | gi_in)
  go_frame
  gi_loopw [4] (fun _ wr => ∃ (left : Lit → Bool) (cnt : Nat) (xs : List HeldT), wr.ranges Try.prog 70 heldR b W.heap.size nn (.map es) left cnt ∧ xs.length + cnt ≤ es.length ∧ Met es left xs ∧ J xs wr)
    (fun _ wr => wr.rangeLeft b W.heap.size)
  case atStart =>
    exact ⟨_, _, [], hrg0, by simp [Maps.size], Met.start hkeys, hJ [] W w0 none h0 hg0 (fun r e => by cases e)⟩
  case round =>
    obtain ⟨left, cnt, xs, hrg, hcs, hC, hJs⟩ := hrel
    gi_wp2_with (first
      | (gi_at_next; refine wpListIn_next_ranges _ rfl _ rfl 70 keyed heldR id id (fun key _ _ => ⟨key, rfl⟩) (fun v _ _ => ⟨v, rfl⟩) b W.heap.size nn _ _ _ rfl hrg ?_ ?_)
      | gi_in)
    · intro hc0 hl0
      gi_wp2
      go_end0
      exact ⟨⟨_, rfl⟩, .inl ⟨xs, hC.done hl0, hJs⟩⟩
    · intro x c kl yd yp w2 cnt2 hkey hlk hv hat hrg2 hlt hg2 hs2 hen
      obtain ⟨kx, ky, rfl, wx, wy, rfl⟩ := key_of hkey
      obtain ⟨h, rfl, ey⟩ := heldR_inv hv
      obtain ⟨rfl, rfl⟩ := Prod.mk.inj ey
      have hJ2 : J xs w2 := hJ xs wr w2 (some W.heap.size) hJs hg2 (fun r e => by cases e; exact ⟨Nat.le_refl _, hrg.iter_walk⟩)
      have hg3 := World.grownBy_alloc w2 (.cells #[.int .i64 h.1, .int .i64 h.2.1, .int .i64 h.2.2.1, .int .i64 h.2.2.2.1, .bool h.2.2.2.2.1, .bool h.2.2.2.2.2] 65) none
      have hJ3 := hJ xs w2 _ none hJ2 hg3 (fun r e => by cases e)
      have hrg3 := hrg2.kept hg3 (by simp) (by simp)
      obtain ⟨fn, tmps, assign, body, hy, hR⟩ := hY xs h _ hJ3 (by omega)
      dsimp only [encV] at hy
      have hC2 := hC.step hap hkeys hlk hat
      have HC2 := Lib.hid hC2
      clear hs2 hC2 hC
      gi_wp2
      refine hR.mono ?_
      rintro e W3 (⟨rfl, hJ4, hk4⟩ | ⟨rfl, hJx4⟩)
      · gi_wp2
        have hrg4 := hrg3.of_walks hk4
        go_roundw
        case rel => exact ⟨_, cnt2, xs ++ [h], hrg4, by simp; omega, HC2.out, hJ4⟩
        case measure => rw [hrg4.left_eq, hrg.left_eq]; exact hlt
      · gi_wp2
        refine bodyPost_ret (results_none rfl _ _ _) rfl ?_
        exact ⟨⟨_, rfl⟩, .inr ⟨xs ++ [h], trivial, hJx4⟩⟩

theorem values_any (b : Option Nat) (w : World) :
    Calls Try.prog 27 #[.map b] w fun e w' => e = .returned (.func (.func 35) #[] #[.pointer (some ⟨w.heap.size, 0, none⟩)]) ∧ w' = w.alloc (.cells #[.map b] 59) := by
  go_enter Try.func27, Try.ntmps27
  go_wp2
  go_ret
  exact ⟨rfl, rfl⟩
theorem values_stops (n : Nat) (hn : 1 ≤ n) (Bm b nn : Nat) (es : List (Lit × DataW HeldT)) (w : World) (hBm : Bm < w.heap.size) (hm : w.cell? ⟨Bm, 0, none⟩ = some (.map (some b))) (hown : w.ownsMap Try.prog 70 heldR b nn (.map es)) :
    SeqStopsK Fence.wide n Try.prog 35 #[.pointer (some ⟨Bm, 0, none⟩)] encV KeepsWalks (fun xs => xs.Perm (es.map fun p => unD p.2)) (fun _ => True) es.length w := by
  intro l J Jx W hW hJ hJx hY h0
  have hb := hown.lt
  obtain ⟨xs, clock, hh, F, hs, hD⟩ := hown
  exact values1_in n hn l Bm b nn es J Jx hY W hJ ((hW.cell (p := ⟨Bm, 0, none⟩) hBm).trans hm) ⟨xs, clock, (hW.block b hb).trans hh, F, hs, hD⟩ h0

/-! ### slices.AppendSeq -/
def flatH (xs : List HeldT) : List Value := xs.flatMap encHeld
theorem flatH_snoc (xs : List HeldT) (x : HeldT) : flatH (xs ++ [x]) = flatH xs ++ encHeld x := by simp [flatH]
theorem infoHeld : (Try.prog.info? 65).map (fun i => (i.zero, i.size, i.bytes)) = some (some (heldV zeroH), 6, 40) := by kernel_rfl
def Row (n₀ B : Nat) (w : World) (pre : List HeldT) (W : World) : Prop :=
  (∃ v, Boxed W B 62 v ∧ W.ownsRow n₀ 65 6 v pre.length (flatH pre) ∧ (v = .slice none 0 0 ↔ pre = [])) ∧ Below n₀ w W
def LoopV (n₀ : Nat) (lb : Array Value) (gf : Nat) (x : HeldT) (a' : Act) (W : World) : Prop :=
  ∃ Bx, n₀ < Bx ∧ Lay W Bx 65 (encHeld x) ∧ a' = { tmps := #[.slice none 0 0, .func (.func gf) #[] lb, .pointer (some ⟨n₀, 0, none⟩), undef, .slice none 0 0, .pointer (some ⟨Bx, 0, none⟩), .func (.func gf) #[] lb, heldV x, undef, undef, undef, undef, undef], defers := [] }
theorem lay_own {β : Type} (B : Nat) (t : TypeId) (cs : List Value) : Own (fun (_ : β) W => Lay W B t cs) := fun s X Y row hs hg hrow =>
  (hg.block B hs.lt (fun e' => by obtain ⟨o, ho, hc⟩ := hrow B e'.symm; rw [show X.heap[B]? = _ from hs] at ho; cases ho; cases hc)).trans hs
set_option maxRecDepth 100000 in
set_option maxHeartbeats 1000000 in
theorem append_in (n gf : Nat) (hn : 3 ≤ n) (lb : Array Value) (S : List HeldT → Prop) (N : Nat) (hN : N ≤ 64) (w : World) (eg : ∀ args w, (callFunc gf args).run Try.prog w = .ok (.enter gf args) w)
    (hseq : SeqStopsK Fence.wide (n - 1) Try.prog gf lb encV KeepsWalks S (fun _ => True) N w) :
    CallsIn Fence.wide n Try.prog 39 #[.slice none 0 0, .func (.func gf) #[] lb] w fun e w' =>
      ∃ v xs, e = .returned v ∧ S xs ∧ w'.ownsRow w.heap.size 65 6 v xs.length (flatH xs) ∧ (v = .slice none 0 0 ↔ xs = []) ∧ Below w.heap.size w w' := by
  obtain ⟨i0, hi, hz0, hz1, hz2⟩ := info_parts infoHeld
  refine callsIn_of_wp_marks Try.func39 rfl trivial ?_ rfl
  simp only [Try.ntmps39, List.size_toArray, List.length_cons, List.length_nil, Nat.reduceAdd, Nat.reduceSub, Array.replicate_succ, Array.replicate_zero, List.push_toArray, List.append_toArray, List.nil_append, List.cons_append]
  gi_wp2
  have b0 := Boxed.new w 62 (.slice none 0 0)
  have hB0 : Below w.heap.size w (w.alloc (.cells #[.slice none 0 0] 62)) := (Below.refl _ w).alloc (Nat.le_refl _) _
  have hsz : (w.alloc (.cells #[.slice none 0 0] 62)).heap.size = w.heap.size + 1 := World.size_alloc _ _
  have hI0 : Row w.heap.size w.heap.size w [] (w.alloc (.cells #[.slice none 0 0] 62)) := ⟨⟨_, b0, World.ownsRow_nil _ _ _ _, by simp⟩, hB0⟩
  clear b0
  generalize w.alloc (.cells #[.slice none 0 0] 62) = W0 at *
  refine wpIn_rangeFunc_ownH (α := HeldT) (encs := encV) (Kp := KeepsWalks) (F := Fence.wide) (n := n) rfl (by omega) (gf := gf) (lb := lb) rfl trivial eg hseq walksK_t walksK_b hB0 (fun _ => rfl) (Row w.heap.size w.heap.size w) (fun _ _ _ => False) ?own (fun _ _ _ _ _ h _ _ => h) hI0 (LoopV w.heap.size lb gf) ?hax ?assign ?body ?done ?stop
  case own =>
    exact OwnFrom.and (Own.from (holdsRow_own w.heap.size w.heap.size 62 65 6 (fun pre : List HeldT => pre.length) (fun pre => flatH pre) (fun pre v => v = .slice none 0 0 ↔ pre = [])) _) (ownFrom_below (Nat.le_refl _) (by omega))
  case hax =>
    rintro x a' s X Y row ⟨Bx, h1, h2, h3⟩ hg hr
    exact ⟨Bx, h1, lay_own (β := Unit) Bx _ _ () X Y row h2 hg (fun r e => (hr r e).2), h3⟩
  case assign =>
    rintro l pre x W K ⟨⟨v, hv, hrow, hnil⟩, hB⟩ hK
    have hlt := hv.lt
    dsimp only [encV]
    gi_wp2
    exact hK _ _ ((KeepsOthers.alloc _ _).from _) (KeepsOthers.alloc _ _).walks ⟨⟨v, hv.alloc _, hrow.alloc _, hnil⟩, hB.alloc hB.size _⟩ ⟨W.heap.size, hlt, Lay.new W 65 (encHeld x), rfl⟩
  case body =>
    rintro l pre x a' W hl hr ⟨⟨v, hv, hrow, hnil⟩, hB⟩ ⟨Bx, hBx, hL, rfl⟩ hlt
    have hc := hv.cell
    have k0 := hL.cell 0
    have k1 := hL.cell 1
    have k2 := hL.cell 2
    have k3 := hL.cell 3
    have k4 := hL.cell 4
    have k5 := hL.cell 5
    simp only [encHeld, List.getElem?_cons_zero, List.getElem?_cons_succ] at k0 k1 k2 k3 k4 k5
    gi_wp2_with (gi_at_builtin; refine wpListIn_append_own _ rfl _ _ 62 rfl w.heap.size 65 i0 (heldV zeroH) 6 40 Try.underlying62 hi hz0 hz1 hz2 rfl (by decide) _ _ _ rfl (hrow.alloc _) ⟨W.heap.size, 0, none⟩ 1 1 (encHeld x) rfl rfl (World.news_of_block (cs := (encHeld x).toArray) (t := 65) (fr := (0, 0)) (heap_alloc_new W _)) (by simp [encHeld, Value.oneCell']) (by unfold maxLen; omega) (by omega) (by have := hB.size; simp; omega) ?_; intro v' w1 hown' hgrow _; obtain ⟨g', cap', rfl⟩ := ownsRow_succ hown'; obtain ⟨hv1, hv2, hr2, hk2, hb2⟩ := hv.appended (by decide) hrow hB.size (Nat.le_refl _) hown' hgrow; have hc1 := hv1.cell; have hf1 := hv1.frozen)
    exact ⟨hk2.from _, hk2.walks, ⟨⟨_, hv2, by rw [flatH_snoc]; simpa using hr2, by simp⟩, hB.trans hb2⟩⟩
  case done =>
    rintro D xs W hD hxs ⟨⟨v, hv, hrow, hnil⟩, hB⟩ hK
    have hc := hv.cell
    gi_wp2
    refine ⟨by simp, .inl ⟨_, _, rfl, run_takeDeferred hK, ?_⟩⟩
    exact ⟨_, results_tmp rfl _ _ _, v, xs, rfl, hxs, ownsRow_putObj hrow _ hK rfl, hnil, hB.trans (belowK_b (w := w) (Nat.le_refl _) W D _ _ (by omega) hK rfl rfl)⟩
  case stop =>
    rintro D c pre W _ _ h _
    exact h.elim
end Tl
end Go.Proofs.Ytcpadnedfnkieaa
