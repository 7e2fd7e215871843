/-
  What the program's heap's List answers. Conditions: that a heap lies there.
-/
import Derived.Test.YtmeadkllbjkjbaaHqRem
import Derived.Test.YtmeadkllbjkjbaaHqSort
namespace Go.Proofs.Ytmeadkllbjkjbaa
open Go.RowKit Go.Shelf Go.Sort
namespace Hq
open Ph (Only)
open Wh (Srt Uni ins del has mem_ins srt_ins uni_ins srt_filter uni_filter has_iff len_ins)
open Hp (lt lt_irr lt_asym le_trans lt_total)

/-- The items' cells, one by one. -/
def fl (a : Nat → ItT) (j : Nat) : Value := if j % 2 = 0 then .int .i64 ((a (j / 2)).1 : Nat) else .int .u64 ((a (j / 2)).2 : Nat)
def flL (a : Nat → ItT) : List Value := (List.range 130).map (fl a)
theorem flL_len (a : Nat → ItT) : (flL a).length = 130 := by simp [flL]
theorem flL_at (a : Nat → ItT) {j : Nat} (h : j < 130) : (flL a)[j]? = some (fl a j) := by simp [flL, h]
theorem flL_lt {a : Nat → ItT} {j : Nat} {v : Value} (h : (flL a)[j]? = some v) : j < 130 ∧ v = fl a j := by
  have h1 := (List.getElem?_eq_some_iff.1 h).1
  rw [flL_len] at h1
  rw [flL_at a h1] at h
  exact ⟨h1, by injection h with h; exact h.symm⟩
theorem flL_one (a : Nat → ItT) : ∀ v ∈ flL a, v.oneCell' = true := fun v hv => by
  obtain ⟨j, _, rfl⟩ := List.mem_map.1 hv
  unfold fl
  split <;> rfl
theorem Bk.range {w : World} {p n : Nat} {a : Nat → ItT} {q : Nat → Nat} (h : Bk w p n a q) : w.rangeAt p 1 (flL a) := fun j v hv => by
  obtain ⟨hj, rfl⟩ := flL_lt hv
  unfold fl
  split
  · have := h.ci (j / 2) (by omega)
    rwa [show 1 + j / 2 * 2 = 1 + j by omega] at this
  · have := h.ck (j / 2) (by omega)
    rwa [show 1 + j / 2 * 2 + 1 = 1 + j by omega] at this
def zeroI : Array Value := (flL (fun _ => (0, 0))).toArray
theorem zeroI_size : zeroI.size = 130 := by kernel_rfl
theorem row_at {a : Nat → ItT} {n i : Nat} {x : ItT} (h : (rowOf a n)[i]? = some x) : i < n ∧ x = a (i + 1) := by
  have h1 := (List.getElem?_eq_some_iff.1 h).1
  have hl : (rowOf a n).length = n := by simp [rowOf]
  rw [hl] at h1
  unfold rowOf at h
  rw [List.getElem?_map, List.getElem?_range h1] at h
  exact ⟨h1, by injection h with h; exact h.symm⟩
theorem row_len (a : Nat → ItT) (n : Nat) : (rowOf a n).length = n := by simp [rowOf]
theorem sorted_one {l ys : List ItT} (hs : Srt l) (hy : ys.Pairwise (fun a b => ¬ lt b a)) (hp : ys.Perm l) : ys = l :=
  List.Perm.eq_of_pairwise (le := fun a b => ¬ lt b a) (fun _ _ _ _ h1 h2 => lt_total h2 h1) hy (hs.imp (fun h => lt_asym h)) hp
/-- A copy of the items in a block of its own. -/
structure Cpy (w0 w : World) (L : Nat) (a : Nat → ItT) : Prop where
  lo : w0.heap.size ≤ L
  lt : L < w.heap.size
  cell : ∀ j, j < 130 → w.cell? ⟨L, j, none⟩ = some (fl a j)
  fz : ∀ j, w.frozen? ⟨L, j, none⟩ = false
  old : Only [] w0 w
theorem only_setCs (L : Nat) : ∀ (vs : List Value) (o : Nat) (w : World), Only [L] w (w.setCells L o vs)
  | [], _, w => Only.refl _ w
  | v :: vs, o, w => (Only.setCell w (by simp) o v).trans (only_setCs L vs (o + 1) _)
theorem there_new (w : World) (cs : Array Value) (t : TypeId) : (w.alloc (.cells cs t)).there w.heap.size 0 cs.size := fun j hj => by
  rw [Nat.zero_add, World.cell?_alloc_new]
  exact ⟨by simp [hj], World.frozen?_alloc_new w _ _ _⟩
theorem Cpy.new (w : World) (a : Nat → ItT) (t : TypeId) : Cpy w ((w.alloc (.cells zeroI t)).setCells w.heap.size 0 (flL a)) w.heap.size a := by
  have ht : (w.alloc (.cells zeroI t)).there w.heap.size 0 (flL a).length := by
    rw [flL_len, ← zeroI_size]
    exact there_new w zeroI t
  have hr := World.rangeAt_setCells_same _ _ _ _ ht
  have ho := only_setCs w.heap.size (flL a) 0 (w.alloc (.cells zeroI t))
  refine ⟨Nat.le_refl _, Nat.lt_of_lt_of_le (by simp) ho.size, fun j hj => ?_, fun j => ?_, ((Only.alloc _ w _).trans ho).back (S' := []) (n := w.heap.size) (fun x hx => Or.inr (by simp at hx; omega)) (Nat.le_refl _)⟩
  · have := hr j _ (flL_at a hj)
    rwa [Nat.zero_add] at this
  · rw [World.frozen?_setCells]
    exact World.frozen?_alloc_new w _ _ _
theorem Cpy.holds {w0 w : World} {L : Nat} {a : Nat → ItT} (h : Cpy w0 w L a) {n : Nat} (hn : n ≤ 64) : HoldsK encI 2 w L 2 (rowOf a n).toArray :=
  holds_of (fun i x hx => by
    obtain ⟨h1, rfl⟩ := row_at hx
    have e0 := h.cell (2 + i * 2) (by omega)
    have e1 := h.cell (2 + i * 2 + 1) (by omega)
    unfold fl at e0 e1
    rw [if_pos (by omega), show (2 + i * 2) / 2 = i + 1 by omega] at e0
    rw [if_neg (by omega), show (2 + i * 2 + 1) / 2 = i + 1 by omega] at e1
    exact ⟨e0, e1⟩) h.fz
/-- Numbers laid one by one. -/
def gN (l : List ItT) (i j : Nat) : Nat := if j < i then ((l[j]?).map (·.1)).getD 0 else 0
structure Nms (w0 w : World) (L R : Nat) (l : List ItT) (i : Nat) : Prop where
  lo : w0.heap.size ≤ R
  ltL : L < w.heap.size
  ltR : R < w.heap.size
  loL : w0.heap.size ≤ L
  ne : L ≠ R
  src : ∀ j x, l[j]? = some x → w.cell? ⟨L, 2 + j * 2, none⟩ = some (.int .i64 (x.1 : Nat)) ∧ w.cell? ⟨L, 2 + j * 2 + 1, none⟩ = some (.int .u64 (x.2 : Nat))
  dst : ∀ j, j < l.length → w.cell? ⟨R, j, none⟩ = some (.int .i64 (gN l i j : Nat))
  fz : ∀ j, w.frozen? ⟨R, j, none⟩ = false
  old : Only [] w0 w
theorem Nms.quiet {w0 w w' : World} {L R i : Nat} {l : List ItT} (h : Nms w0 w L R l i) (ho : Only [] w w') : Nms w0 w' L R l i :=
  { h with
    ltL := Nat.lt_of_lt_of_le h.ltL ho.size
    ltR := Nat.lt_of_lt_of_le h.ltR ho.size
    src := fun j x hx => ⟨(ho.cell h.ltL (by simp) _).trans (h.src j x hx).1, (ho.cell h.ltL (by simp) _).trans (h.src j x hx).2⟩
    dst := fun j hj => (ho.cell h.ltR (by simp) _).trans (h.dst j hj)
    fz := fun j => (ho.frozen h.ltR (by simp) j).trans (h.fz j)
    old := h.old.trans ho }
theorem Nms.put {w0 w : World} {L R i : Nat} {l : List ItT} {x : ItT} (h : Nms w0 w L R l i) (hx : l[i]? = some x) : Nms w0 (w.setCell ⟨R, i, none⟩ (.int .i64 (x.1 : Nat))) L R l (i + 1) := by
  have hi : i < l.length := (List.getElem?_eq_some_iff.1 hx).1
  have ho : Only [R] w (w.setCell ⟨R, i, none⟩ (.int .i64 (x.1 : Nat))) := Only.setCell w (by simp) _ _
  have hL : L ∉ [R] := by simpa using h.ne
  exact { h with
    ltL := Nat.lt_of_lt_of_le h.ltL ho.size
    ltR := Nat.lt_of_lt_of_le h.ltR ho.size
    src := fun j x hx => ⟨(ho.cell h.ltL hL _).trans (h.src j x hx).1, (ho.cell h.ltL hL _).trans (h.src j x hx).2⟩
    dst := fun j hj => by
      rw [cell_put w R i j _ (by rw [h.dst i hi]; rfl)]
      by_cases e : j = i
      · subst e
        rw [if_pos rfl]
        unfold gN
        rw [if_pos (by omega), hx]
        rfl
      · rw [if_neg e, h.dst j hj]
        unfold gN
        by_cases e2 : j < i
        · rw [if_pos e2, if_pos (by omega)]
        · rw [if_neg e2, if_neg (by omega)]
    fz := fun j => by rw [World.frozen?_setCell]; exact h.fz j
    old := (h.old.mono (S' := [R]) (by simp)).trans ho |>.back (n := w0.heap.size) (fun y hy => Or.inr (by simp at hy; rw [hy]; exact h.lo)) (Nat.le_refl _) }
theorem infoInt : (Try.prog.info? 3).map (fun i => (i.zero, i.size, i.bytes)) = some (some (.int .i64 0), 1, 8) := by kernel_rfl
theorem infoI_parts {t : TypeId} {z : Value} {k b : Nat} (h : (Try.prog.info? t).map (fun i => (i.zero, i.size, i.bytes)) = some (some z, k, b)) : ∃ i, Try.prog.info? t = some i ∧ i.zero = some z ∧ i.size = k ∧ i.bytes = b := by
  obtain ⟨i, hi, hx⟩ := Option.map_eq_some_iff.1 h
  simp only [Prod.mk.injEq] at hx
  exact ⟨i, hi, hx⟩
theorem made_ints (n : Nat) (wx : World) (hn : n ≤ 64) :
    (Instr.makeSlice 47 (.int .i64 (n : Int)) (.int .i64 (n : Int))).run Try.prog wx = .ok (.slice (some ⟨wx.heap.size, 0, none⟩) n n) (wx.alloc (.cells (madeCells #[.int .i64 0] n) 3)) := by
  obtain ⟨i, hi, hz0, hz1, hz2⟩ := infoI_parts infoInt
  have hr := run_make (P := Try.prog) wx 47 3 i _ Try.underlying47 hi hz0 .i64 .i64 n n (by omega) (Int.le_refl _) (by rw [hz2]; omega) (by omega)
  simp only [Int.toNat_natCast, hz1, Nat.mul_one] at hr
  exact hr
theorem Nms.new {w0 w : World} {L : Nat} {l : List ItT} (h1 : w0.heap.size ≤ L) (h2 : L < w.heap.size) (h3 : HoldsK encI 2 w L 2 l.toArray) (ho : Only [] w0 w) (t : TypeId) : Nms w0 (w.alloc (.cells (madeCells #[.int .i64 0] l.length) t)) L w.heap.size l 0 := by
  have oo := Only.alloc [] w (.cells (madeCells #[.int .i64 0] l.length) t)
  refine ⟨by omega, Nat.lt_of_lt_of_le h2 oo.size, by simp, h1, by omega, fun j x hx => ?_, fun j hj => ?_, fun j => World.frozen?_alloc_new w _ _ _, ho.trans oo⟩
  · have := holds_at h3 hx
    exact ⟨(oo.cell h2 (by simp) _).trans this.1, (oo.cell h2 (by simp) _).trans this.2⟩
  · rw [World.cell?_alloc_new]
    unfold madeCells gN
    rw [Array.getElem?_map, Array.getElem?_range, if_pos hj, if_neg (by omega)]
    simp [Nat.mod_one]
theorem slice_items (L n : Nat) (hn : n ≤ 64) (W : World) : (Instr.sliceAt 54 (.pointer (some ⟨L, 0, none⟩)) (some (.int .i64 1)) (some (.int .i64 ((n : Int) + 1))) none).run Try.prog W = .ok (.slice (some ⟨L, 2, none⟩) n 64) W := by
  have hal : Try.prog.arrayLen 54 = 65 := by kernel_rfl
  have hsz : ∀ W, (Go.sizeOf (Try.prog.elem 54)).run Try.prog W = .ok 2 W := fun W => by kernel_rfl
  rw [run_sliceAt_array_lh W 54 ⟨L, 0, none⟩ (by kernel_rfl) .i64 .i64 1 ((n : Int) + 1) (by omega) (by omega) (by rw [hal]; omega), hsz, hal]
  show Result.ok (slicedAt ⟨L, 0, none⟩ 1 ((n : Int) + 1).toNat 65 2) W = _
  rw [show ((n : Int) + 1).toNat = n + 1 by omega]
  unfold slicedAt
  rw [if_neg (by omega), Nat.add_sub_cancel]
  rfl
set_option maxRecDepth 100000 in
set_option maxHeartbeats 1000000 in
theorem tList (w : World) (p : Nat) (F : List Nat) (l : List ItT) (h : HpT w p F l) : Calls Try.prog 19 #[.pointer (some ⟨p, 0, none⟩)] w fun e w' => ∃ v, e = .returned v ∧ Seen w.heap.size w' v (l.map (·.1)) ∧ Only [] w w' := by
  obtain ⟨rfl, a, q, hb, hr, ho, hf⟩ := h
  have hzv : ∀ W : World, (zeroValue 54).run Try.prog W = .ok (.agg zeroI) W := fun W => by kernel_rfl
  have hz0 : (zeroI = #[]) = False := eq_false (fun e => by have := congrArg Array.size e; rw [zeroI_size] at this; cases this)
  have hz1 := zeroI_size
  have HR := Lib.hid hb.range
  have hlen := hf.len
  have HN := Lib.hid (Cpy.new w a 54)
  have HT := Lib.hid (show (w.alloc (.cells zeroI 54)).there w.heap.size 0 (flL a).toArray.size from by rw [show (flL a).toArray.size = zeroI.size by rw [List.size_toArray, flL_len, zeroI_size]]; exact there_new w zeroI _)
  have c1 := (hb.quiet HN.out.old).cn
  have HH := Lib.hid (And.intro hr hf)
  clear hb hr ho hf
  generalize hnn : l.length = n at *
  have HNN := Lib.hid hnn
  clear hnn
  go_enter Try.func19, Try.ntmps19
  go_wp2_with (first
    | (with_reducible (show wpList _ _ _ (⟨_, .load _ (.tmp 10), _, _, _, _⟩ :: _) _ _); refine wpList_load_mid rfl _ (.tmp 10) rfl p 1 rfl (flL a) _ HR.out Try.underlying54 rfl (by rw [flL_len]; kernel_rfl) ?_)
    | (with_reducible (show wpList _ _ _ (⟨_, .store _ (.tmp 3) (.tmp 11), _, _, _, _⟩ :: _) _ _); refine wpList_store_mid rfl _ (.tmp 3) (.tmp 11) rfl w.heap.size 0 (flL a).toArray rfl rfl HT.out (by rw [List.size_toArray, flL_len]; kernel_rfl) (all_oneCell_toArray (flL_one a)) ?_; rw [List.toList_toArray]; clear HR HT hzv hz0 hz1; generalize ((w.alloc (.cells zeroI 54)).setCells w.heap.size 0 (flL a)) = w1 at *; have hL := HN.out.lt; have hsl := slice_items w.heap.size n hlen; have HS := Lib.hid (sort_items w1 w.heap.size 2 64 (rowOf a n) (HN.out.holds hlen) hL (by rw [row_len]; omega)); rw [row_len] at HS)
    | (go_at_call 27; refine HS.out.mono ?_; rintro e w2 ⟨rfl, ys, hp, hsrt, hy, ho2⟩; have HY := Lib.hid (And.intro hp (And.intro hsrt (And.intro hy ho2))); clear hp hsrt hy ho2 HS hL hsl c1; have hmk := fun wx => made_ints n wx hlen))
  obtain rfl : ys = l := sorted_one HH.out.2.srt HY.out.2.1 (HY.out.1.trans (HH.out.1.perm HH.out.2.uni))
  have hX := Nms.new (w0 := w) (w := w2) (L := w.heap.size) (l := ys) (Nat.le_refl _) (Nat.lt_of_lt_of_le HN.out.lt HY.out.2.2.2.size) HY.out.2.2.1 (((HN.out.old.mono (S' := [w.heap.size]) (by simp)).trans HY.out.2.2.2).back (S' := []) (n := w.heap.size) (fun x hx => Or.inr (by simp at hx; omega)) (Nat.le_refl _)) 3
  rw [HNN.out] at hX
  have HX := Lib.hid hX
  clear HY HH hX hmk HN
  generalize (w2.alloc (.cells (madeCells #[.int .i64 0] n) 3)) = w3 at *
  generalize hR : w2.heap.size = R at *
  clear hR w2 w1
  go_loopw [25] (fun c wr => ∃ i : Nat, c = .int .i64 i ∧ i ≤ n ∧ Hid (Nms w wr w.heap.size R ys i)) (fun c _ => n - (intOf c).toNat)
  case atStart => exact ⟨0, rfl, Nat.zero_le _, HX⟩
  case round =>
    clear HX
    obtain ⟨i, rfl, hi, hm⟩ := hrel
    by_cases hil : i < n
    · obtain ⟨x, hx⟩ : ∃ x, ys[i]? = some x := ⟨ys[i]'(by rw [HNN.out]; exact hil), List.getElem?_eq_getElem _⟩
      have s0 := (hm.out.src i x hx).1
      have s1 := (hm.out.src i x hx).2
      have hA := hm.out.quiet (Only.alloc [] wr (.cells #[.int .i64 (x.1 : Nat), .int .u64 (x.2 : Nat)] 53))
      have d0 := hA.dst i (by rw [HNN.out]; exact hil)
      have f0 := hA.fz i
      have HA := Lib.hid (hA.put hx)
      have hi2 : (i : Int) < (n : Int) := by omega
      clear hA
      go_wp2_with fail
      refine ⟨⟨i + 1, rfl, by omega, HA⟩, ?_⟩
      have e1 : ((i : Int) + 1).toNat = i + 1 := by omega
      simp only [intOf, e1, Int.toNat_natCast]
      omega
    · have hi2 : ¬ ((i : Int) < (n : Int)) := by omega
      obtain rfl : i = n := by omega
      go_wp2_with fail
      go_ret
      refine ⟨_, rfl, ⟨some ⟨R, 0, none⟩, i, by rw [List.length_map, HNN.out]; rfl, by simp, fun _ => ⟨R, 0, rfl, hm.out.lo, hm.out.ltR, fun j x hx => ?_⟩⟩, hm.out.old⟩
      rw [List.getElem?_map] at hx
      obtain ⟨y, hy, rfl⟩ := Option.map_eq_some_iff.1 hx
      have hj := (List.getElem?_eq_some_iff.1 hy).1
      have := hm.out.dst j hj
      unfold gN at this
      rw [if_pos (by have := HNN.out; omega), hy] at this
      rwa [Nat.zero_add]
end Hq
end Go.Proofs.Ytmeadkllbjkjbaa
