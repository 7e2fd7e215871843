/-
  What slices.AppendSeq and slices.Collect make of the numbers that an iterator hands over, and what the pool's Taken answers. Conditions: that a pool lies there.
-/
import Derived.Test.YtcpadnedfnkieaaVmLeast
namespace Go.Proofs.Ytcpadnedfnkieaa
open Go.RowKit Go.Shelf
attribute [local go_sem] Oper.semAt_some
namespace Vm
open Ph (Only)

/-- The row that has come so far lies in a box. -/
def Acc (n₀ : Nat) (w : World) (pre : List Nat) (W : World) : Prop :=
  (∃ v, Boxed W n₀ 36 v ∧ W.ownsRow n₀ 3 1 v pre.length (ints pre) ∧ True) ∧ Below n₀ w W
set_option maxRecDepth 100000 in
set_option maxHeartbeats 1000000 in
theorem append_in (gf : Nat) (lb : Array Value) (S : List Nat → Prop) (Sp : List Nat → Prop) (N : Nat) (hN : N ≤ 255) (w : World) (eg : ∀ args w, (callFunc gf args).run Try.prog w = .ok (.enter gf args) w)
    (hseq : SeqStopsK Fence.wide 2 Try.prog gf lb encN (Below w.heap.size) S Sp N w) :
    Calls Try.prog 32 #[.slice none 0 0, .func (.func gf) #[] lb] w fun e w' =>
      ∃ v xs, e = .returned v ∧ S xs ∧ w'.ownsRow w.heap.size 3 1 v xs.length (ints xs) ∧ Below w.heap.size w w' := by
  obtain ⟨i0, hi, hz0, hz1, hz2⟩ := info_parts infoInt
  refine (callsIn_wide (n := 3)).1 ?_
  refine callsIn_of_wp_marks Try.func32 rfl trivial ?_ rfl
  simp only [Try.ntmps32, List.size_toArray, List.length_cons, List.length_nil, Nat.reduceAdd, Nat.reduceSub, Array.replicate_succ, Array.replicate_zero, List.push_toArray, List.append_toArray, List.nil_append, List.cons_append]
  gi_wp2
  have b0 := Boxed.new w 36 (.slice none 0 0)
  have hB0 : Below w.heap.size w (w.alloc (.cells #[.slice none 0 0] 36)) := (Below.refl _ w).alloc (Nat.le_refl _) _
  have hsz : (w.alloc (.cells #[.slice none 0 0] 36)).heap.size = w.heap.size + 1 := World.size_alloc _ _
  have hI0 : Acc w.heap.size w [] (w.alloc (.cells #[.slice none 0 0] 36)) := ⟨⟨_, b0, World.ownsRow_nil _ _ _ _, trivial⟩, hB0⟩
  clear b0
  generalize w.alloc (.cells #[.slice none 0 0] 36) = W0 at *
  refine wpIn_rangeFunc_ownF (α := Nat) (encs := encN) (Kp := Below w.heap.size) (F := Fence.wide) (n := 3) rfl (by omega) (gf := gf) (lb := lb) rfl trivial eg hseq (fun h k => h.trans k) (belowK_b (by omega)) hB0 (fun _ => rfl) (Acc w.heap.size w) (fun _ _ _ => False) ?own (fun _ _ _ _ _ h _ _ => h) hI0
    (fun x => { tmps := #[.slice none 0 0, .func (.func gf) #[] lb, .pointer (some ⟨w.heap.size, 0, none⟩), undef, .slice none 0 0, .int .i64 (x : Nat), .func (.func gf) #[] lb, .int .i64 (x : Nat), undef, undef, undef, undef, undef], defers := [] }) ?assign ?body ?done ?stop
  case own =>
    exact OwnFrom.and (Own.from (holdsRow_own w.heap.size w.heap.size 36 3 1 (fun pre : List Nat => pre.length) (fun pre => ints pre) (fun _ _ => True)) _) (ownFrom_below (Nat.le_refl _) (by omega))
  case assign =>
    intro l x W K hK
    dsimp only [encN]
    gi_wp2
    exact hK
  case body =>
    rintro l pre x W ⟨⟨v, hv, hrow, _⟩, hB⟩ hlt
    have hc := hv.cell
    gi_wp2_with (gi_at_builtin; refine wpListIn_append_own _ rfl _ _ 36 rfl w.heap.size 3 i0 (.int .i64 0) 1 8 Try.underlying36 hi hz0 hz1 hz2 rfl (by decide) _ _ _ rfl (hrow.alloc _) ⟨W.heap.size, 0, none⟩ 1 1 [.int .i64 (x : Int)] rfl rfl (World.news_of_block (cs := #[.int .i64 (x : Int)]) (t := 3) (fr := (0, 0)) (heap_alloc_new W _)) (by simp [Value.oneCell']) (by unfold maxLen; omega) (by omega) (by have := hB.size; simp; omega) ?_; intro v' w1 hown' hgrow _; obtain ⟨g', cap', rfl⟩ := ownsRow_succ hown'; obtain ⟨hv1, hv2, hr2, hk2, hb2⟩ := hv.appended (by decide) hrow hB.size (Nat.le_refl _) hown' hgrow; have hc1 := hv1.cell; have hf1 := hv1.frozen)
    exact ⟨hk2, hb2, ⟨⟨_, hv2, by rw [ints_snoc]; simpa using hr2, trivial⟩, hB.trans hb2⟩⟩
  case done =>
    rintro D xs W hD hxs ⟨⟨v, hv, hrow, _⟩, hB⟩ hK
    have hc := hv.cell
    gi_wp2
    refine ⟨by simp, .inl ⟨_, _, rfl, run_takeDeferred hK, ?_⟩⟩
    exact ⟨_, results_tmp rfl _ _ _, v, xs, rfl, hxs, ownsRow_putObj hrow _ hK rfl, hB.trans (belowK_b (w := w) (Nat.le_refl _) W D _ _ (by omega) hK rfl rfl)⟩
  case stop =>
    rintro D c pre W _ _ h _
    exact h.elim
theorem collect_any (gf : Nat) (lb : Array Value) (S : List Nat → Prop) (Sp : List Nat → Prop) (N : Nat) (hN : N ≤ 255) (w : World) (eg : ∀ args w, (callFunc gf args).run Try.prog w = .ok (.enter gf args) w)
    (hseq : SeqStopsK Fence.wide 2 Try.prog gf lb encN (Below w.heap.size) S Sp N w) : Calls Try.prog 25 #[.func (.func gf) #[] lb] w fun e w' =>
      ∃ v xs, e = .returned v ∧ S xs ∧ w'.ownsRow w.heap.size 3 1 v xs.length (ints xs) ∧ Below w.heap.size w w' := by
  have hc := Lib.hid (append_in gf lb S Sp N hN w eg hseq)
  clear hseq
  go_enter Try.func25, Try.ntmps25
  go_wp2_with (go_at_call 32; refine hc.out.mono ?_; rintro e w' ⟨v, xs, rfl, hx⟩)
  go_ret
  exact ⟨v, xs, rfl, hx⟩
theorem taken_any (p B m : Nat) (s : Nat → Int) (w : World) (hm : m ≤ 255) (hP : Pl w p B m s) :
    Calls Try.prog 18 #[.pointer (some ⟨p, 0, none⟩)] w fun e w' => ∃ v, e = .returned v ∧ Seen w.heap.size w' v (tnL s m) ∧ Only [] w w' := by
  have HS := Lib.hid (src_new hP 1 24 3)
  have eg := enters_of Try.func31 (by kernel_rfl) rfl
  have hsz : ((w.alloc (.cells #[.pointer (some ⟨p, 0, none⟩)] 24)).alloc (.cells #[.int .i64 1] 3)).heap.size = w.heap.size + 2 := by simp
  have ho : Only [] w ((w.alloc (.cells #[.pointer (some ⟨p, 0, none⟩)] 24)).alloc (.cells #[.int .i64 1] 3)) := (Only.alloc [] w _).trans (Only.alloc [] _ _)
  clear hP
  go_enter Try.func18, Try.ntmps18
  go_wp2_with (first
    | (go_at_call 24; refine (in_any _ _ _).mono ?_; rintro e w1 ⟨rfl, rfl⟩)
    | (go_at_call 25; refine (collect_any _ _ _ _ m hm _ eg (in1_stops 2 (by omega) _ _ p B m 1 s hm _ HS.out)).mono ?_; rintro e w2 ⟨v, xs, rfl, rfl, hr, hB⟩))
  go_ret
  rw [← nums_tn]
  rw [hsz] at hr hB
  exact ⟨v, rfl, (row_seen hr).mono (by omega), ho.trans ((Only.of (by rw [hsz]; exact hB) []))⟩
end Vm
end Go.Proofs.Ytcpadnedfnkieaa
