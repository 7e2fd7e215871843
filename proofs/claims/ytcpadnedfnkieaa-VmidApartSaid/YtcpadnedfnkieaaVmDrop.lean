/-
  What the pool's Dropped answers, and leaves: its iterator reads the states that its rounds write. Conditions: that a pool lies there.
-/
import Derived.Test.YtcpadnedfnkieaaVmOps
namespace Go.Proofs.Ytcpadnedfnkieaa
open Go.RowKit Go.Shelf
attribute [local go_sem] Oper.semAt_some
namespace Vm
open Ph (Only)

/-- The states, where the numbers of a row are free. -/
def off (s : Nat → Int) (pre : List Nat) : Nat → Int := fun j => if j + 1 ∈ pre then 0 else s j
theorem off_nil (s : Nat → Int) : off s [] = s := by funext j; unfold off; simp
theorem off_snoc (s : Nat → Int) (pre : List Nat) (i : Nat) : off s (pre ++ [i + 1]) = upd (off s pre) i 0 := by
  funext j
  unfold off upd
  by_cases e : j = i
  · subst e; simp
  · rw [if_neg e]
    have : (j + 1 ∈ pre ++ [i + 1]) ↔ j + 1 ∈ pre := by simp; omega
    simp only [this]
theorem off_here (s : Nat → Int) (i : Nat) : off s (nums 2 s i) i = s i := by
  unfold off
  rw [if_neg]
  intro h
  obtain ⟨k, e, hk, _⟩ := nums_mem h
  omega
theorem nums_has {v : Int} {s : Nat → Int} : ∀ {n j : Nat}, j < n → s j = v → j + 1 ∈ nums v s n
  | 0, j, h, _ => by omega
  | n + 1, j, h, hs => by
    unfold nums
    by_cases e : j = n
    · subst e; rw [if_pos hs]; simp
    · exact List.mem_append_left _ (nums_has (by omega) hs)
theorem off_all (s : Nat → Int) (m j : Nat) (hj : j < m) : off s (nums 2 s m) j = drN s m j := by
  unfold off drN
  by_cases h : s j = 2
  · rw [if_pos (nums_has hj h), if_pos ⟨hj, h⟩]
  · rw [if_neg (fun x => by obtain ⟨k, e, _, hk⟩ := nums_mem x; obtain rfl : k = j := by omega
                            exact h hk), if_neg (fun x => h x.2)]
/-- What a turn of a block that holds no cells leaves. -/
theorem turn_only {X X' : World} {row : Option Nat} (hg : X.grownBy X' row) : Only row.toList X X' :=
  ⟨hg.os, hg.tape, hg.output, hg.size, fun k hk hn => hg.block k hk (fun e => hn (by rw [← e]; simp))⟩
theorem turn_not {n : Nat} {X : World} {row : Option Nat} (hr : ∀ r, row = some r → n ≤ r ∧ ∃ o : Obj, X.heap[r]? = some o ∧ o.isCells = false) {b : Nat} (hb : b < n) : b ∉ row.toList := by
  intro h
  have := (hr b (by simpa using h)).1
  omega
/-- What the rounds keep: the pool with the numbers that have come free, the boxes, the count. -/
structure Off (n₀ p B m : Nat) (s : Nat → Int) (w : World) (pre : List Nat) (W : World) : Prop where
  src : Src W (n₀ + 2) (n₀ + 3) p B m 2 (off s pre)
  box : Bx1 W n₀ (.pointer (some ⟨p, 0, none⟩))
  cnt : Boxed W (n₀ + 1) 3 (.int .i64 (pre.length : Nat))
  only : Only [B] w W
theorem Off.own (n₀ p B m : Nat) (s : Nat → Int) (w : World) (hn : n₀ = w.heap.size) (hp : p < n₀) (hB : B < n₀) (n : Nat) (hn4 : n = n₀ + 4) : OwnFrom n (fun pre W => Off n₀ p B m s w pre W) := by
  intro pre X X' row h hg hr
  have ho := turn_only hg
  refine ⟨h.src.kept ho (turn_not hr (by omega)) (turn_not hr (by omega)) (turn_not hr (by omega)) (turn_not hr (by omega)), h.box.kept ho (turn_not hr (by omega)), h.cnt.kept hg (fun e => by have := (hr _ e.symm).1; omega), ?_⟩
  exact ((h.only.mono (S' := B :: row.toList) (by simp)).trans (ho.mono (fun x hx => List.mem_cons_of_mem _ hx))).back (S' := [B]) (n := n₀) (fun x hx => by
    rcases List.mem_cons.1 hx with rfl | hx
    · exact Or.inl (by simp)
    · exact Or.inr (by have := (hr x (by simpa using hx)).1; omega)) (by omega)
/-- A round: the number's state is put, the count goes up. -/
theorem Off.next {n₀ p B m : Nat} {s : Nat → Int} {w W : World} {pre : List Nat} (h : Off n₀ p B m s w pre W) (hp : p < n₀) (hB : B < n₀) (hw : n₀ = w.heap.size) {i : Nat} (hi : i < m) :
    Off n₀ p B m s w (pre ++ [i + 1]) ((W.setCell ⟨B, i, none⟩ (.int .i64 0)).setCell ⟨n₀ + 1, 0, none⟩ (.int .i64 ((pre.length : Nat) + 1))) := by
  obtain ⟨h1, o1⟩ := h.src.pl.set i 0 hi
  have o2 : Only [n₀ + 1] (W.setCell ⟨B, i, none⟩ (.int .i64 0)) ((W.setCell ⟨B, i, none⟩ (.int .i64 0)).setCell ⟨n₀ + 1, 0, none⟩ (.int .i64 ((pre.length : Nat) + 1))) := Only.setCell _ (by simp) _ _
  have k := fun (b : Nat) (v : Value) (hb : Bx1 W b v) (h1 : b ∉ [B]) (h2 : b ∉ [n₀ + 1]) => (hb.kept o1 h1).kept o2 h2
  refine ⟨⟨k _ _ h.src.b0 (by simp; omega) (by simp), k _ _ h.src.b1 (by simp; omega) (by simp), ?_⟩, k _ _ h.box (by simp; omega) (by simp), ?_, ?_⟩
  · rw [off_snoc]
    exact h1.kept o2 (by simp; omega) (by simp; omega)
  · have hc := Boxed.set (.int .i64 ((pre.length : Nat) + 1)) (show Boxed (W.setCell ⟨B, i, none⟩ (.int .i64 0)) (n₀ + 1) 3 _ from (o1.block (n₀ + 1) h.cnt.lt (by simp; omega)).trans h.cnt)
    rw [List.length_append, List.length_singleton]
    push_cast
    exact hc
  · exact ((h.only.trans o1).mono (S' := [B, n₀ + 1]) (by simp)).trans (o2.mono (by simp)) |>.back (S' := [B]) (n := n₀) (fun x hx => by simp at hx; rcases hx with rfl | rfl <;> simp) (by omega)
theorem off_begin (w : World) (p B m : Nat) (s : Nat → Int) (h : Pl w p B m s) :
    Off w.heap.size p B m s w [] ((((w.alloc (.cells #[.pointer (some ⟨p, 0, none⟩)] 24)).alloc (.cells #[.int .i64 0] 3)).alloc (.cells #[.pointer (some ⟨p, 0, none⟩)] 24)).alloc (.cells #[.int .i64 2] 3)) := by
  have b0 := Bx1.new w (.pointer (some ⟨p, 0, none⟩)) 24 rfl
  have o1 := Only.alloc [] w (.cells #[.pointer (some ⟨p, 0, none⟩)] 24)
  have h1 := h.kept o1 (by simp) (by simp)
  have z1 : (w.alloc (.cells #[.pointer (some ⟨p, 0, none⟩)] 24)).heap.size = w.heap.size + 1 := by simp
  generalize w.alloc (.cells #[.pointer (some ⟨p, 0, none⟩)] 24) = w1 at *
  have b1 := Boxed.new w1 3 (.int .i64 0)
  have o2 := Only.alloc [] w1 (.cells #[.int .i64 0] 3)
  have h2 := h1.kept o2 (by simp) (by simp)
  have z2 : (w1.alloc (.cells #[.int .i64 0] 3)).heap.size = w.heap.size + 2 := by simp [z1]
  rw [z1] at b1
  generalize w1.alloc (.cells #[.int .i64 0] 3) = w2 at *
  have hs := src_new h2 2 24 3
  rw [z2] at hs
  have o3 : Only [] w2 ((w2.alloc (.cells #[.pointer (some ⟨p, 0, none⟩)] 24)).alloc (.cells #[.int .i64 2] 3)) := (Only.alloc [] _ _).trans (Only.alloc [] _ _)
  exact ⟨by rw [off_nil]; exact hs, (b0.kept o2 (by simp)).kept o3 (by simp), (b1.alloc _).alloc _, ((o1.trans o2).trans o3).mono (by simp)⟩
set_option maxRecDepth 100000 in
set_option maxHeartbeats 1000000 in
theorem dropped_any (p B m : Nat) (s : Nat → Int) (w : World) (hm : m ≤ 255) (hP : Pl w p B m s) :
    Calls Try.prog 14 #[.pointer (some ⟨p, 0, none⟩)] w fun e w' => e = .returned (.int .i64 (drP s m).1) ∧ Pl w' p B m (drP s m).2 ∧ Only [B] w w' := by
  have hp := hP.lt
  have hB := hP.row.lt
  have hne := hP.ne
  have HP := Lib.hid hP
  clear hP
  refine (callsIn_wide (n := 3)).1 ?_
  refine callsIn_of_wp_marks Try.func14 rfl trivial ?_ rfl
  simp only [Try.ntmps14, List.size_toArray, List.length_cons, List.length_nil, Nat.reduceAdd, Nat.reduceSub, Array.replicate_succ, Array.replicate_zero, List.push_toArray, List.append_toArray, List.nil_append, List.cons_append]
  gi_wp2
  refine ⟨trivial, (callsIn_wide.2 (in_any _ _ _)).mono ?_⟩
  rintro e w' ⟨rfl, rfl⟩
  gi_wp2
  have hsz : ((((w.alloc (.cells #[.pointer (some ⟨p, 0, none⟩)] 24)).alloc (.cells #[.int .i64 0] 3)).alloc (.cells #[.pointer (some ⟨p, 0, none⟩)] 24)).alloc (.cells #[.int .i64 2] 3)).heap.size = w.heap.size + 4 := by simp
  have HI := Lib.hid (off_begin w p B m s HP.out)
  generalize ((((w.alloc (.cells #[.pointer (some ⟨p, 0, none⟩)] 24)).alloc (.cells #[.int .i64 0] 3)).alloc (.cells #[.pointer (some ⟨p, 0, none⟩)] 24)).alloc (.cells #[.int .i64 2] 3)) = W0 at *
  refine range_told (α := Nat) (encs := encN) (F := Fence.wide) (n := 3) rfl (by decide) (gf := 31) (lb := #[.pointer (some ⟨w.heap.size + 2, 0, none⟩), .pointer (some ⟨w.heap.size + 3, 0, none⟩)]) rfl trivial ?h2 (fun _ => rfl)
    (I := fun pre W => Off w.heap.size p B m s w pre W) (Off.own w.heap.size p B m s w rfl hp hB _ hsz) HI.out
    (in1_tells 2 (by omega) _ _ p B m 2 s (off s) (off_here s) hm _ _ (fun pre X h => h.src))
    (fun x => { tmps := #[.pointer (some ⟨p, 0, none⟩), .pointer (some ⟨w.heap.size, 0, none⟩), .int .i64 0, .pointer (some ⟨w.heap.size + 1, 0, none⟩), .int .i64 (x : Nat), .pointer (some ⟨p, 0, none⟩), .func (.func 31) #[] #[.pointer (some ⟨w.heap.size + 2, 0, none⟩), .pointer (some ⟨w.heap.size + 3, 0, none⟩)], .int .i64 (x : Nat), undef, undef, undef, undef, undef, undef, undef, undef, undef, undef], defers := [] }) ?assign ?body ?done
  case h2 => exact enters_of Try.func31 (by kernel_rfl) rfl
  case assign =>
    intro l x W K hK
    dsimp only [encN]
    gi_wp2
    exact hK
  case body =>
    rintro l pre x W h ⟨i, hi, hs, hpre, rfl⟩
    have H := Lib.hid h
    have hl : pre.length ≤ 255 := by rw [hpre, nums_len]; have := cnt_le (v := 2) (s := s) i; omega
    have hbx := h.box.c
    have hh := h.src.pl.head
    have hf := h.src.pl.row.free i hi
    have hc := h.src.pl.row.cell i hi
    have hlt := h.src.pl.row.lt
    have hq := ((h.cnt).cell)
    have hq2 := ((h.cnt).frozen)
    have hq3 := h.cnt.lt
    clear h hpre hs
    push_cast
    gi_wp2
    exact ⟨((KeepsOthers.setCell _ _ _).trans (KeepsOthers.setCell _ _ _)).from _, H.out.next hp hB rfl hi⟩
  case done =>
    rintro D xs W hD rfl h hK
    have H := Lib.hid h
    have hq := h.cnt.cell
    have h2 : (drP s m).1 = ((nums 2 s m).length : Nat) := by unfold drP; rw [nums_len]
    have H2 := Lib.hid h2
    clear h h2
    gi_wp2
    refine ⟨by simp, .inl ⟨_, _, rfl, run_takeDeferred hK, ?_⟩⟩
    have hD1 := turn_only (grownBy_putObj' W D (.deferred none))
    have hnd : ∀ b, b < w.heap.size → b ∉ (some D).toList := fun b hb hx => by simp at hx; omega
    refine ⟨_, results_tmp rfl _ _ _, by rw [H2.out]; rfl, ?_, ?_⟩
    · exact ((H.out.src.pl.kept hD1 (hnd p hp) (hnd B hB))).congr (fun j hj => off_all s m j hj)
    · exact ((H.out.only.mono (S' := [B, D]) (by simp)).trans (hD1.mono (by simp))).back (S' := [B]) (n := w.heap.size) (fun x hx => by simp at hx; rcases hx with rfl | rfl <;> simp; omega) (Nat.le_refl _)
end Vm
end Go.Proofs.Ytcpadnedfnkieaa
