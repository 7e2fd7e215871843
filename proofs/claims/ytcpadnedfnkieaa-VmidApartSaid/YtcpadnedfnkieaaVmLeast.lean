/-
  What the pool's least, Taken and slices.Collect of its numbers answer. Conditions: that a pool lies there.
-/
import Derived.Test.YtcpadnedfnkieaaVmIn
namespace Go.Proofs.Ytcpadnedfnkieaa
open Go.RowKit Go.Shelf
attribute [local go_sem] Oper.semAt_some
namespace Vm
open Ph (Only)

/-- The least number of a state, 0 if there is none. -/
def leastP (st : Int) (s : Nat → Int) (m : Nat) : Int := match lst st s m with
  | some i => (i : Int) + 1
  | none => 0
set_option maxRecDepth 100000 in
set_option maxHeartbeats 1000000 in
theorem least_any (p B m : Nat) (st : Int) (s : Nat → Int) (w : World) (hm : m ≤ 255) (hP : Pl w p B m s) :
    Calls Try.prog 23 #[.pointer (some ⟨p, 0, none⟩), .int .i64 st] w fun e w' => e = .returned (.int .i64 (leastP st s m)) ∧ Only [] w w' := by
  have HP := Lib.hid hP
  clear hP
  refine (callsIn_wide (n := 3)).1 ?_
  refine callsIn_of_wp_marks Try.func23 rfl trivial ?_ rfl
  simp only [Try.ntmps23, List.size_toArray, List.length_cons, List.length_nil, Nat.reduceAdd, Nat.reduceSub, Array.replicate_succ, Array.replicate_zero, List.push_toArray, List.append_toArray, List.nil_append, List.cons_append]
  gi_wp2
  refine ⟨trivial, (callsIn_wide.2 (in_any _ _ _)).mono ?_⟩
  rintro e w' ⟨rfl, rfl⟩
  gi_wp2
  have b0 := Boxed.new w 3 (.int .i64 0)
  have o0 := Only.alloc [] w (.cells #[.int .i64 0] 3)
  have HS := Lib.hid (src_new (HP.out.kept o0 (by simp) (by simp)) st 24 3)
  have hB0 : Below w.heap.size w (((w.alloc (.cells #[.int .i64 0] 3)).alloc (.cells #[.pointer (some ⟨p, 0, none⟩)] 24)).alloc (.cells #[.int .i64 st] 3)) := (((Below.refl _ w).alloc (Nat.le_refl _) _).alloc (by simp) _).alloc (by simp; omega) _
  have b2 := (b0.alloc (.cells #[.pointer (some ⟨p, 0, none⟩)] 24)).alloc (.cells #[.int .i64 st] 3)
  have hsz : (((w.alloc (.cells #[.int .i64 0] 3)).alloc (.cells #[.pointer (some ⟨p, 0, none⟩)] 24)).alloc (.cells #[.int .i64 st] 3)).heap.size = w.heap.size + 3 := by simp
  clear b0 o0
  have hsrc := HS.out
  rw [World.size_alloc] at hsrc
  have HST := Lib.hid (in1_stops 2 (by omega) _ _ p B m st s hm _ hsrc)
  clear HS hsrc
  generalize (((w.alloc (.cells #[.int .i64 0] 3)).alloc (.cells #[.pointer (some ⟨p, 0, none⟩)] 24)).alloc (.cells #[.int .i64 st] 3)) = W0 at *
  refine wpIn_rangeFunc_ownF (α := Nat) (encs := encN) (Kp := Below W0.heap.size) (F := Fence.wide) (n := 3) rfl (by decide) (gf := 31) (lb := #[.pointer (some ⟨w.heap.size + 1, 0, none⟩), .pointer (some ⟨w.heap.size + 1 + 1, 0, none⟩)]) rfl trivial ?h2 HST.out (fun h k => h.trans k) (belowK_b (Nat.le_refl _)) (Below.refl _ _) (fun _ => rfl)
    (fun pre W => (pre = [] ∧ Boxed W w.heap.size 3 (.int .i64 0)) ∧ Below w.heap.size w W) (fun c pre W => ((c = .ret ∧ pre = [pre.headD 0]) ∧ Boxed W w.heap.size 3 (.int .i64 (pre.headD 0 : Nat))) ∧ Below w.heap.size w W) ?h7 ?h8 ⟨⟨rfl, b2⟩, hB0⟩
    (fun x => { tmps := #[.pointer (some ⟨p, 0, none⟩), .int .i64 st, undef, undef, .pointer (some ⟨w.heap.size, 0, none⟩), .int .i64 (x : Nat), .pointer (some ⟨p, 0, none⟩), .int .i64 st, .func (.func 31) #[] #[.pointer (some ⟨w.heap.size + 1, 0, none⟩), .pointer (some ⟨w.heap.size + 1 + 1, 0, none⟩)], .int .i64 (x : Nat), undef], defers := [] }) ?assign ?body ?done ?stop
  case h2 => exact enters_of Try.func31 (by kernel_rfl) rfl
  case h7 => exact OwnFrom.and (OwnFrom.and (ownFrom_pure _ _) ((boxed_own w.heap.size 3 (fun _ => .int .i64 0)).from _)) (ownFrom_below (Nat.le_refl _) (by omega))
  case h8 => exact fun c => OwnFrom.and (OwnFrom.and (ownFrom_pure _ _) ((boxed_own w.heap.size 3 (fun pre : List Nat => .int .i64 (pre.headD 0 : Nat))).from _)) (ownFrom_below (Nat.le_refl _) (by omega))
  case assign =>
    intro l x W K hK
    dsimp only [encN]
    gi_wp2
    exact hK
  case body =>
    rintro l pre x W ⟨⟨rfl, hb⟩, hB⟩ _
    have hc := hb.cell
    have hf := hb.frozen
    gi_wp2
    refine ⟨KeepsOthers.setCell _ _ _, ⟨⟨rfl, rfl⟩, ?_⟩, hB.setCell (p := ⟨w.heap.size, 0, none⟩) (Nat.le_refl _) _⟩
    exact hb.set _
  case stop =>
    rintro D c pre W hD ⟨i, hi, hs, hp⟩ ⟨⟨⟨rfl, he⟩, hb⟩, hB⟩ hK
    have hn : nums st s i = [] ∧ pre.headD 0 = i + 1 := by
      rw [hp, nums_yes hs] at he
      cases hx : nums st s i with
      | nil => rw [hp, nums_yes hs, hx]; exact ⟨rfl, rfl⟩
      | cons y r => rw [hx] at he; simp at he
    have e1 : leastP st s m = ((pre.headD 0 : Nat) : Int) := by
      unfold leastP
      rw [nums_one hi hs hn.1, hn.2]
      push_cast
      rfl
    have hb2 := hb.kept (grownBy_putObj' W D (.deferred none)) (fun e => by cases e; rw [hb] at hK; cases hK)
    have c0 := hb2.cell
    have c1 := hb.cell
    gi_wp2
    refine ⟨by simp, .inl ⟨_, _, rfl, run_takeDeferred hK, ?_⟩⟩
    refine ⟨.int .i64 (pre.headD 0 : Nat), ?_, by rw [e1], Only.of (hB.trans (belowK_b (w := w) (Nat.le_refl _) W D _ _ (by omega) hK rfl rfl)) []⟩
    simp [results, Try.f23, go_sem, c0]
  case done =>
    rintro D xs W hD hx ⟨⟨rfl, hb⟩, hB⟩ hK
    have e1 : leastP st s m = 0 := by
      unfold leastP
      rw [nums_first hx.symm]
    have c0 := hb.cell
    have f0 := hb.frozen
    have HE := Lib.hid e1
    clear e1
    gi_wp2
    have hb1 := hb.set (.int .i64 0)
    have K4 := (KeepsOthers.setCell W ⟨w.heap.size, 0, none⟩ (.int .i64 0)).same D _ hK rfl
    have hb2 := hb1.kept (grownBy_putObj' _ D (.deferred none)) (fun e => by cases e; rw [hb1] at K4; cases K4)
    have c2 := hb2.cell
    refine ⟨by simp, .inl ⟨_, _, rfl, run_takeDeferred K4, ?_⟩⟩
    refine ⟨.int .i64 0, ?_, by rw [HE.out], Only.of ((hB.setCell (p := ⟨w.heap.size, 0, none⟩) (Nat.le_refl _) _).trans (belowK_b (w := w) (Nat.le_refl _) _ D _ _ (by omega) K4 rfl rfl)) []⟩
    simp [results, Try.f23, go_sem, c2]
end Vm
end Go.Proofs.Ytcpadnedfnkieaa
