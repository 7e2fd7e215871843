/-
  What slices.AppendSeq and slices.Collect make of the timers that an iterator hands over. Conditions: at most 1,000 come.
-/
import Derived.Test.YtddiapihopgpbaaWhOrder
import Derived.Maps.AppendAt
import Derived.Deep.AppendLies
namespace Go.Proofs.Ytddiapihopgpbaa
open Go.RowKit Go.Maps Go.Shelf
attribute [local go_sem] Oper.semAt_some
namespace Wh
open Ph (Only)

/-! ### slices.AppendSeq -/
theorem infoDueT : (Try.prog.info? 42).map (fun i => (i.zero, i.size, i.bytes)) = some (some (dV (0, 0)), 2, 16) := by kernel_rfl
def Row (n₀ B : Nat) (w : World) (pre : List DuT) (W : World) : Prop :=
  (∃ v, Boxed W B 38 v ∧ W.ownsRow n₀ 42 2 v pre.length (flatD pre) ∧ (v = .slice none 0 0 ↔ pre = [])) ∧ Below n₀ w W
def LoopV (n₀ : Nat) (lb : Array Value) (gf : Nat) (x : DuT) (a' : Act) (W : World) : Prop :=
  ∃ Bx, n₀ < Bx ∧ Lay W Bx 42 (encD x) ∧ a' = { tmps := #[.slice none 0 0, .func (.func gf) #[] lb, .pointer (some ⟨n₀, 0, none⟩), undef, .slice none 0 0, .pointer (some ⟨Bx, 0, none⟩), .func (.func gf) #[] lb, dV x, undef, undef, undef, undef, undef], defers := [] }
theorem lay_own {β : Type} (B : Nat) (t : TypeId) (cs : List Value) : Own (fun (_ : β) W => Lay W B t cs) := fun s X Y row hs hg hrow =>
  (hg.block B hs.lt (fun e' => by obtain ⟨o, ho, hc⟩ := hrow B e'.symm; rw [show X.heap[B]? = _ from hs] at ho; cases ho; cases hc)).trans hs
set_option maxRecDepth 100000 in
set_option maxHeartbeats 1000000 in
theorem append_in (n gf : Nat) (hn : 3 ≤ n) (lb : Array Value) (S : List DuT → Prop) (N : Nat) (hN : N ≤ 1000) (w : World) (eg : ∀ args w, (callFunc gf args).run Try.prog w = .ok (.enter gf args) w)
    (hseq : SeqStopsK Fence.wide (n - 1) Try.prog gf lb encV KeepsWalks S (fun _ => True) N w) :
    CallsIn Fence.wide n Try.prog 39 #[.slice none 0 0, .func (.func gf) #[] lb] w fun e w' =>
      ∃ v xs, e = .returned v ∧ S xs ∧ w'.ownsRow w.heap.size 42 2 v xs.length (flatD xs) ∧ (v = .slice none 0 0 ↔ xs = []) ∧ Below w.heap.size w w' := by
  obtain ⟨i0, hi, hz0, hz1, hz2⟩ := info_parts infoDueT
  refine callsIn_of_wp_marks Try.func39 rfl trivial ?_ rfl
  simp only [Try.ntmps39, List.size_toArray, List.length_cons, List.length_nil, Nat.reduceAdd, Nat.reduceSub, Array.replicate_succ, Array.replicate_zero, List.push_toArray, List.append_toArray, List.nil_append, List.cons_append]
  gi_wp2
  have b0 := Boxed.new w 38 (.slice none 0 0)
  have hB0 : Below w.heap.size w (w.alloc (.cells #[.slice none 0 0] 38)) := (Below.refl _ w).alloc (Nat.le_refl _) _
  have hsz : (w.alloc (.cells #[.slice none 0 0] 38)).heap.size = w.heap.size + 1 := World.size_alloc _ _
  have hI0 : Row w.heap.size w.heap.size w [] (w.alloc (.cells #[.slice none 0 0] 38)) := ⟨⟨_, b0, World.ownsRow_nil _ _ _ _, by simp⟩, hB0⟩
  clear b0
  generalize w.alloc (.cells #[.slice none 0 0] 38) = W0 at *
  refine wpIn_rangeFunc_ownH (α := DuT) (encs := encV) (Kp := KeepsWalks) (F := Fence.wide) (n := n) rfl (by omega) (gf := gf) (lb := lb) rfl trivial eg hseq walksK_t walksK_b hB0 (fun _ => rfl) (Row w.heap.size w.heap.size w) (fun _ _ _ => False) ?own (fun _ _ _ _ _ h _ _ => h) hI0 (LoopV w.heap.size lb gf) ?hax ?assign ?body ?done ?stop
  case own =>
    exact OwnFrom.and (Own.from (holdsRow_own w.heap.size w.heap.size 38 42 2 (fun pre : List DuT => pre.length) (fun pre => flatD pre) (fun pre v => v = .slice none 0 0 ↔ pre = [])) _) (ownFrom_below (Nat.le_refl _) (by omega))
  case hax =>
    rintro x a' s X Y row ⟨Bx, h1, h2, h3⟩ hg hr
    exact ⟨Bx, h1, lay_own (β := Unit) Bx _ _ () X Y row h2 hg (fun r e => (hr r e).2), h3⟩
  case assign =>
    rintro l pre x W K ⟨⟨v, hv, hrow, hnil⟩, hB⟩ hK
    have hlt := hv.lt
    dsimp only [encV]
    gi_wp2
    exact hK _ _ ((KeepsOthers.alloc _ _).from _) (KeepsOthers.alloc _ _).walks ⟨⟨v, hv.alloc _, hrow.alloc _, hnil⟩, hB.alloc hB.size _⟩ ⟨W.heap.size, hlt, Lay.new W 42 (encD x), rfl⟩
  case body =>
    rintro l pre x a' W hl hr ⟨⟨v, hv, hrow, hnil⟩, hB⟩ ⟨Bx, hBx, hL, rfl⟩ hlt
    have hc := hv.cell
    have k0 := hL.cell 0
    have k1 := hL.cell 1
    simp only [encD, List.getElem?_cons_zero, List.getElem?_cons_succ] at k0 k1
    gi_wp2_with (gi_at_builtin; refine wpListIn_append_own _ rfl _ _ 38 rfl w.heap.size 42 i0 (dV (0, 0)) 2 16 Try.underlying38 hi hz0 hz1 hz2 rfl (by decide) _ _ _ rfl (hrow.alloc _) ⟨W.heap.size, 0, none⟩ 1 1 (encD x) rfl rfl (World.news_of_block (cs := (encD x).toArray) (t := 42) (fr := (0, 0)) (heap_alloc_new W _)) (by simp [encD, Value.oneCell']) (by unfold maxLen; omega) (by omega) (by have := hB.size; simp; omega) ?_; intro v' w1 hown' hgrow _; obtain ⟨g', cap', rfl⟩ := ownsRow_succ hown'; obtain ⟨hv1, hv2, hr2, hk2, hb2⟩ := hv.appended (by decide) hrow hB.size (Nat.le_refl _) hown' hgrow; have hc1 := hv1.cell; have hf1 := hv1.frozen)
    exact ⟨hk2.from _, hk2.walks, ⟨⟨_, hv2, by rw [flatD_snoc]; simpa using hr2, by simp⟩, hB.trans hb2⟩⟩
  case done =>
    rintro D xs W hD hxs ⟨⟨v, hv, hrow, hnil⟩, hB⟩ hK
    have hc := hv.cell
    gi_wp2
    refine ⟨by simp, .inl ⟨_, _, rfl, run_takeDeferred hK, ?_⟩⟩
    exact ⟨_, results_tmp rfl _ _ _, v, xs, rfl, hxs, ownsRow_putObj hrow _ hK rfl, hnil, hB.trans (belowK_b (w := w) (Nat.le_refl _) W D _ _ (by omega) hK rfl rfl)⟩
  case stop =>
    rintro D c pre W _ _ h _
    exact h.elim
/-- What slices.Collect hands back of what comes. -/
def Got (S : List DuT → Prop) (w : World) (e : Ending) (w' : World) : Prop :=
  ∃ v xs, e = .returned v ∧ S xs ∧ w'.ownsRow w.heap.size 42 2 v xs.length (flatD xs) ∧ (v = .slice none 0 0 ↔ xs = []) ∧ Below w.heap.size w w'
theorem collect_any (gf : Nat) (lb : Array Value) (S : List DuT → Prop) (N : Nat) (hN : N ≤ 1000) (w : World) (eg : ∀ args w, (callFunc gf args).run Try.prog w = .ok (.enter gf args) w)
    (hseq : SeqStopsK Fence.wide 2 Try.prog gf lb encV KeepsWalks S (fun _ => True) N w) : Calls Try.prog 30 #[.func (.func gf) #[] lb] w (Got S w) := by
  have hc := (callsIn_wide (n := 3)).1 (append_in 3 gf (Nat.le_refl _) lb S N hN w eg hseq)
  clear hseq
  go_enter Try.func30, Try.ntmps30
  go_wp2_with (go_at_call 39; refine hc.mono ?_; rintro e w' ⟨v, xs, rfl, hx⟩)
  go_ret
  exact ⟨v, xs, rfl, hx⟩
end Wh
end Go.Proofs.Ytddiapihopgpbaa
