/-
  What slices.SortedFunc and (*Tlb).List answer. Conditions: that a TLB lies there.
-/
import Derived.Test.YtcpadnedfnkieaaTlSort
import Derived.Test.YtcpadnedfnkieaaTlRow
import Derived.Laws.MakeOwn
namespace Go.Proofs.Ytcpadnedfnkieaa
open Go.RowKit Go.Maps Go.Shelf Go.Sort
namespace Tl
open Ph (Only)

/-- What slices.Collect hands back of what comes. -/
def Got (S : List HeldT → Prop) (w : World) (e : Ending) (w' : World) : Prop :=
  ∃ v xs, e = .returned v ∧ S xs ∧ w'.ownsRow w.heap.size 65 6 v xs.length (flatH xs) ∧ (v = .slice none 0 0 ↔ xs = []) ∧ Below w.heap.size w w'
theorem collect_any (gf : Nat) (lb : Array Value) (S : List HeldT → Prop) (N : Nat) (hN : N ≤ 64) (w : World) (eg : ∀ args w, (callFunc gf args).run Try.prog w = .ok (.enter gf args) w)
    (hseq : SeqStopsK Fence.wide 2 Try.prog gf lb encV KeepsWalks S (fun _ => True) N w) : Calls Try.prog 33 #[.func (.func gf) #[] lb] w (Got S w) := by
  have hc := (callsIn_wide (n := 3)).1 (append_in 3 gf (Nat.le_refl _) lb S N hN w eg hseq)
  clear hseq
  go_enter Try.func33, Try.ntmps33
  go_wp2_with (go_at_call 39; refine hc.mono ?_; rintro e w' ⟨v, xs, rfl, hx⟩)
  go_ret
  exact ⟨v, xs, rfl, hx⟩
/-- What slices.SortedFunc hands back. -/
def GotSorted (S : List HeldT → Prop) (w : World) (e : Ending) (w' : World) : Prop :=
  ∃ v xs ys, e = .returned v ∧ S xs ∧ ys.Perm xs ∧ ys.Pairwise (fun a b => a.1 ≤ b.1) ∧ RowH w.heap.size w' v ys ∧ Below w.heap.size w w'
theorem sorted_any (gf : Nat) (lb : Array Value) (S : List HeldT → Prop) (N : Nat) (hN : N ≤ 64) (w : World) (eg : ∀ args w, (callFunc gf args).run Try.prog w = .ok (.enter gf args) w)
    (hseq : SeqStopsK Fence.wide 2 Try.prog gf lb encV KeepsWalks S (fun _ => True) N w) (hS : ∀ xs, S xs → xs.length ≤ 64) :
    Calls Try.prog 26 #[.func (.func gf) #[] lb, .func (.func 28) #[] #[]] w (GotSorted S w) := by
  have hc := collect_any gf lb S N hN w eg hseq
  have HS := Lib.hid hS
  clear hseq hS
  go_enter Try.func26, Try.ntmps26
  go_wp2_with (first | (go_at_call 33; refine hc.mono ?_; rintro e w1 ⟨v, xs, rfl, hx, hr, hn, hB⟩) | (go_at_call 34; refine (sort_row w.heap.size v xs _ hB.size hr (HS.out _ hx) hn).mono ?_; rintro e w2 ⟨rfl, ys, hp, hs, hR, hB2⟩))
  go_ret
  exact ⟨v, xs, ys, rfl, hx, hp, hs, hR, hB.trans hB2⟩
theorem helds_slots : ∀ (i : Nat) (ps : List (Option SlotT)), (helds i ps).map (fun h => h.2) = slots ps
  | _, [] => rfl
  | i, none :: r => helds_slots (i + 1) r
  | i, some s :: r => by
    have := helds_slots (i + 1) r
    simp only [helds, List.map_cons, this]
    rfl
theorem mem_helds {h : HeldT} : ∀ {i : Nat} {ps : List (Option SlotT)}, h ∈ helds i ps → ∃ (k : Nat) (s : SlotT), ps[k]? = some (some s) ∧ h = (((i + k : Nat) : Int), s)
  | i, [], e => by simp [helds] at e
  | i, none :: r, e => by
    obtain ⟨k, s, h1, h2⟩ := mem_helds (i := i + 1) (ps := r) e
    exact ⟨k + 1, s, by simpa using h1, by rw [h2]; congr 2; omega⟩
  | i, some t :: r, e => by
    simp only [helds, List.mem_cons] at e
    rcases e with rfl | e
    · exact ⟨0, t, by simp, by simp⟩
    · obtain ⟨k, s, h1, h2⟩ := mem_helds (i := i + 1) (ps := r) e
      exact ⟨k + 1, s, by simpa using h1, by rw [h2]; congr 2; omega⟩
theorem helds_sorted : ∀ (i : Nat) (ps : List (Option SlotT)), (helds i ps).Pairwise (fun a b => a.1 ≤ b.1)
  | _, [] => List.Pairwise.nil
  | i, none :: r => helds_sorted (i + 1) r
  | i, some s :: r => List.pairwise_cons.2 ⟨fun b hb => by
      obtain ⟨k, t, _, rfl⟩ := mem_helds hb
      simp only
      omega, helds_sorted (i + 1) r⟩
theorem sorted_one {ys : List HeldT} {ps : List (Option SlotT)} (hp : ys.Perm (helds 0 ps)) (hs : ys.Pairwise (fun a b => a.1 ≤ b.1)) : ys = helds 0 ps := by
  refine List.Perm.eq_of_pairwise (le := fun a b : HeldT => a.1 ≤ b.1) (fun a b ha hb h1 h2 => ?_) hs (helds_sorted 0 ps) hp
  obtain ⟨k, s, e1, rfl⟩ := mem_helds (hp.mem_iff.1 ha)
  obtain ⟨j, t, e2, rfl⟩ := mem_helds hb
  simp only [Nat.zero_add] at h1 h2
  obtain rfl : k = j := by omega
  rw [e1] at e2
  injection e2 with e2
  injection e2 with e2
  rw [e2]
theorem infoSlot : (Try.prog.info? 49).map (fun i => (i.zero, i.size, i.bytes)) = some (some (.agg (encSlot (0, 0, 0, false, false)).toArray), 5, 32) := by kernel_rfl
theorem made_k {α : Type} (k : Nat) (enc : α → List Value) (z : α) (hz : (enc z).length = k) (n : Nat) (t : TypeId) (w : World) : KRow k enc (w.alloc (.cells (madeCells (enc z).toArray (n * k)) t)) w.heap.size (List.replicate n z) := by
  have at' : ∀ i j, i < n → j < k → (madeCells (enc z).toArray (n * k))[i * k + j]? = some ((enc z)[j]!) := by
    intro i j hi hj
    have hb : i * k + j < n * k := by
      have := Nat.mul_le_mul_right k (show i + 1 ≤ n from hi)
      rw [Nat.add_mul, Nat.one_mul] at this
      omega
    unfold madeCells
    rw [Array.getElem?_map, Array.getElem?_range, if_pos hb]
    simp only [Option.map_some, List.size_toArray, hz]
    rw [show (i * k + j) % k = j by rw [Nat.mul_comm, Nat.mul_add_mod, Nat.mod_eq_of_lt hj]]
    simp
  refine ⟨by simp, fun i x hx j v hv => ?_, fun i hi j hj => ⟨?_, World.frozen?_alloc_new w _ _ _⟩⟩
  · have hi : i < n := by simpa using (List.getElem?_eq_some_iff.1 hx).1
    obtain rfl : z = x := by rw [List.getElem?_replicate, if_pos hi] at hx; injection hx
    have hj : j < k := by rw [← hz]; exact (List.getElem?_eq_some_iff.1 hv).1
    rw [World.cell?_alloc_new, at' i j hi hj]
    have : (enc z)[j]! = v := by rw [List.getElem!_eq_getElem?_getD, hv]; rfl
    rw [this]
  · rw [World.cell?_alloc_new, at' i j (by simpa using hi) hj]; rfl
theorem made_slots (n : Nat) (wx : World) (hn : n ≤ 64) :
    (Instr.makeSlice 46 (.int .i64 (n : Int)) (.int .i64 (n : Int))).run Try.prog wx = .ok (.slice (some ⟨wx.heap.size, 0, none⟩) n n) (wx.alloc (.cells (madeCells (encSlot (0, 0, 0, false, false)).toArray (n * 5)) 49)) := by
  obtain ⟨i, hi, hz0, hz1, hz2⟩ := info_parts infoSlot
  have hr := run_make (P := Try.prog) wx 46 49 i _ Try.underlying46 hi hz0 .i64 .i64 n n (by omega) (Int.le_refl _) (by rw [hz2]; omega) (by omega)
  simp only [Int.toNat_natCast, hz1] at hr
  exact hr
theorem set_next {α : Type} {l : List α} {i : Nat} {x z : α} (h : l[i]? = some x) : (l.take i ++ List.replicate (l.length - i) z).set i x = l.take (i + 1) ++ List.replicate (l.length - (i + 1)) z := by
  have hi : i < l.length := (List.getElem?_eq_some_iff.1 h).1
  have hx : l[i] = x := (List.getElem?_eq_some_iff.1 h).2
  have ht : (l.take i).length = i := by simp; omega
  rw [show l.length - i = (l.length - (i + 1)) + 1 by omega, List.replicate_succ, List.set_append_right _ _ (by omega), ht, Nat.sub_self, List.set_cons_zero, List.take_succ_eq_append_getElem hi, hx]
  simp
set_option maxRecDepth 100000 in
theorem list_any (p m room next : Nat) (ps : List (Option SlotT)) (w : World) (hT : Tlb w p m room next ps) :
    Calls Try.prog 20 #[.pointer (some ⟨p, 0, none⟩)] w fun e w' => ∃ L, e = .returned (.slice (some ⟨L, 0, none⟩) (slots ps).length (slots ps).length) ∧ KRow 5 encSlot w' L (slots ps) ∧ w.heap.size ≤ L ∧ Below w.heap.size w w' := by
  have hlt := hT.lt
  have k2 := hT.c2
  obtain ⟨es, hown, hperm⟩ := hT.map.own
  have hB := Lay.new w 59 [.map (some m)]
  have hes : (es.map fun p => unD p.2).Perm (helds 0 ps) := by rw [← helds_ents]; exact hperm.map _
  have hel : es.length ≤ 64 := by rw [hperm.length_eq, ents_len]; exact Nat.le_trans (count_le ps) (by rw [hT.len]; exact hT.high)
  have HC := Lib.hid (sorted_any 35 #[.pointer (some ⟨w.heap.size, 0, none⟩)] (fun xs => xs.Perm (es.map fun p => unD p.2)) es.length hel (w.alloc (.cells #[.map (some m)] 59)) (enters_of Try.func35 (by kernel_rfl) rfl)
    (values_stops 2 (by omega) w.heap.size m 64 es _ hB.lt (hB.cell 0) (hown.alloc _)) (fun xs hx => by rw [hx.length_eq]; simpa using hel))
  clear hown hT hB
  go_enter Try.func20, Try.ntmps20
  go_wp2_with (first | (go_at_call 27; refine (values_any _ _).mono ?_; rintro e w1 ⟨rfl, rfl⟩) | fail)
  refine HC.out.mono ?_
  rintro e w1 ⟨v, xs, ys, rfl, hx, hp, hs, hR, hB⟩
  have hy : ys = helds 0 ps := sorted_one (hp.trans (hx.trans hes)) hs
  have hsl : ys.map (fun h => h.2) = slots ps := by rw [hy]; exact helds_slots 0 ps
  have hn : ys.length ≤ 64 := by rw [hp.length_eq, hx.length_eq]; simpa using hel
  have HSL := Lib.hid hsl
  have hB1 : Below w.heap.size w w1 := ((Below.refl _ w).alloc (Nat.le_refl _) (.cells #[.map (some m)] 59)).trans (hB.mono (by simp))
  have HB := Lib.hid hB1
  have hmk := fun wx => made_slots ys.length wx hn
  have hk5 : ∀ x, (encSlot x).length = 5 := fun _ => rfl
  rcases hR with ⟨rfl, rfl⟩ | ⟨g, cap, rfl, hng, hg, hH⟩
  · have hmk0 : ∀ wx : World, (Instr.makeSlice 46 (.int .i64 0) (.int .i64 0)).run Try.prog wx = .ok (.slice (some ⟨wx.heap.size, 0, none⟩) 0 0) (wx.alloc (.cells (madeCells (encSlot (0, 0, 0, false, false)).toArray 0) 49)) := fun wx => made_slots 0 wx (by omega)
    clear hmk hx hp hs hy hsl hB hB1 hperm hes hel HC hn hk5
    go_wp2
    refine wp_loop_rounds 1 ?_
    rw [rounds_succ]
    go_wp2
    go_ret
    have hL := made_k 5 encSlot (0, 0, 0, false, false) rfl 0 49 w1
    rw [← HSL.out]
    exact ⟨w1.heap.size, rfl, hL, HB.out.size, HB.out.alloc HB.out.size _⟩
  · have hK : KRow 6 encHeld w1 g ys := by
      refine ⟨hg, fun i x hx j v hv => ?_, fun i hi j hj => ?_⟩
      · have hi : i < ys.length := (List.getElem?_eq_some_iff.1 hx).1
        have hj : j < 6 := (List.getElem?_eq_some_iff.1 hv).1
        have := (hH.cell (i := i) (c := j) (by simpa using hi) hj).1
        rw [Nat.zero_add] at this
        rw [this]
        have e1 : (ys.toArray)[i]! = x := by simp [hi, (List.getElem?_eq_some_iff.1 hx).2]
        rw [e1, List.getElem!_eq_getElem?_getD, hv]
        rfl
      · have := hH.cell (i := i) (c := j) (by simpa using hi) hj
        rw [Nat.zero_add] at this
        exact ⟨by rw [this.1]; rfl, this.2⟩
    have HK := Lib.hid hK
    have hL := Lib.hid (made_k 5 encSlot (0, 0, 0, false, false) rfl ys.length 49 w1)
    have hgw : w.heap.size < g := by rw [World.size_alloc] at hng; omega
    clear hx hp hs hy hsl hB hB1 hperm hes hel HC hng hH hK
    go_wp2
    have hK1 := HK.out.kept (Only.alloc [] w1 (.cells (madeCells (encSlot (0, 0, 0, false, false)).toArray (ys.length * 5)) 49)) (by simp)
    have hB2 := HB.out.alloc HB.out.size (.cells (madeCells (encSlot (0, 0, 0, false, false)).toArray (ys.length * 5)) 49)
    have hL1 := hL.out
    have hwL := HB.out.size
    clear hL HK HB hmk
    generalize w1.alloc (.cells (madeCells (encSlot (0, 0, 0, false, false)).toArray (ys.length * 5)) 49) = w2 at *
    go_loopw [18] (fun c wr => ∃ i : Nat, c = .int .i64 i ∧ i ≤ ys.length ∧ KRow 6 encHeld wr g ys ∧ KRow 5 encSlot wr w1.heap.size ((ys.map (fun h => h.2)).take i ++ List.replicate (ys.length - i) (0, 0, 0, false, false)) ∧ Below w.heap.size w wr) (fun c _ => ys.length - (intOf c).toNat)
    case atStart => exact ⟨0, rfl, Nat.zero_le _, hK1, by simpa using hL1, hB2⟩
    case round =>
      obtain ⟨i, rfl, hi, hK, hL, hB⟩ := hrel
      by_cases hlt' : i < ys.length
      · obtain ⟨h, hyi⟩ : ∃ h, ys[i]? = some h := ⟨ys[i], List.getElem?_eq_getElem hlt'⟩
        have k0 := hK.range i h hyi 0 _ rfl
        have k1 := hK.range i h hyi 1 _ rfl
        have k2 := hK.range i h hyi 2 _ rfl
        have k3 := hK.range i h hyi 3 _ rfl
        have k4 := hK.range i h hyi 4 _ rfl
        have k5 := hK.range i h hyi 5 _ rfl
        rw [Nat.add_zero] at k0
        have hli : i < ((ys.map (fun h => h.2)).take i ++ List.replicate (ys.length - i) ((0, 0, 0, false, false) : SlotT)).length := by simp; omega
        obtain ⟨v0, c0⟩ := Option.isSome_iff_exists.1 (hL.free i hli 0 (by omega)).1
        obtain ⟨v1, c1⟩ := Option.isSome_iff_exists.1 (hL.free i hli 1 (by omega)).1
        obtain ⟨v2, c2⟩ := Option.isSome_iff_exists.1 (hL.free i hli 2 (by omega)).1
        obtain ⟨v3, c3⟩ := Option.isSome_iff_exists.1 (hL.free i hli 3 (by omega)).1
        obtain ⟨v4, c4⟩ := Option.isSome_iff_exists.1 (hL.free i hli 4 (by omega)).1
        have f0 := (hL.free i hli 0 (by omega)).2
        have f1 := (hL.free i hli 1 (by omega)).2
        have f2 := (hL.free i hli 2 (by omega)).2
        have f3 := (hL.free i hli 3 (by omega)).2
        have f4 := (hL.free i hli 4 (by omega)).2
        rw [Nat.add_zero] at c0 f0
        have hgl := hK.lt
        have hLl := hL.lt
        have hbl := hB.size
        have HK := Lib.hid hK
        have HL := Lib.hid hL
        have HB := Lib.hid hB
        have HI := Lib.hid hyi
        have HLI := Lib.hid hli
        clear hK hL hB hyi hli hi hK1 hB2 hL1
        go_wp2
        have hS := HL.out.set hk5 i h.2 HLI.out
        rw [show ys.length = (ys.map (fun h => h.2)).length by simp, set_next (by rw [List.getElem?_map, HI.out]; rfl)] at hS
        have hO : Only [w1.heap.size] wr (wr.setCells w1.heap.size (i * 5) (encSlot h.2)) := only_setC (by simp) _ _ _
        have hB' := hO.below (B := w.heap.size) HB.out.size (by simp; omega)
        refine ⟨⟨i + 1, by simp, by omega, ?_, ?_, ?_⟩, by simp only [intOf, Int.toNat_natCast]; omega⟩
        · exact (HK.out.kept hO (by simp; omega)).kept (Only.alloc [] _ _) (by simp)
        · rw [show ys.length = (ys.map (fun h => h.2)).length by simp]
          exact hS.kept (Only.alloc [] _ _) (by simp)
        · exact (HB.out.trans hB').alloc (HB.out.trans hB').size _
      · obtain rfl : i = ys.length := by omega
        have HL := Lib.hid hL
        have HB := Lib.hid hB
        clear hK hL hB hi hK1 hB2 hL1
        go_wp2
        go_ret
        have hL := HL.out
        rw [Nat.sub_self, List.replicate_zero, List.append_nil, List.take_of_length_le (by simp), HSL.out] at hL
        have hln : ys.length = (slots ps).length := by rw [← HSL.out]; simp
        exact ⟨w1.heap.size, by rw [hln]; rfl, hL, hwL, HB.out⟩
end Tl
end Go.Proofs.Ytcpadnedfnkieaa
