/-
  What a wheel's place and slotOf answer, what put, Add and Cancel do. Conditions: that a wheel lies there; numbers are in their kind's range.
-/
import Derived.Test.YtddiapihopgpbaaWhTieOps
import Derived.BigQuiet
import Derived.Laws.Bits64
namespace Go.Proofs.Ytddiapihopgpbaa
open Go.RowKit Go.Maps
namespace Wh
open Ph (Only)

set_option maxRecDepth 100000 in
theorem place_any (w : World) (p t a : Nat) (hc : w.cell? ⟨p, 0, none⟩ = some (.int .u64 (t : Nat))) (ht : t < 2 ^ 63) (ha : a < 2 ^ 63) :
    Calls Try.prog 31 #[.pointer (some ⟨p, 0, none⟩), .int .u64 (a : Nat)] w fun e w' => e = .returned (.tuple #[.int .i64 (dg t (max a t) : Nat), .int .i64 (sl t (max a t) : Nat)]) ∧ Only [] w w' := by
  have hx : max a t < 2 ^ 63 := by omega
  have hm1 : (if (a : Int) < (t : Int) then (t : Int) else (a : Int)) = ((max a t : Nat) : Int) := by split <;> omega
  have hm2 : (if a < t then (t : Int) else (a : Int)) = ((max a t : Nat) : Int) := by split <;> omega
  have hd := (dg_char ht hx).2.2
  have hdd : dg t (max a t) = (Lib.bitLen (max a t ^^^ t) - 1) / 3 := rfl
  have hss : sl t (max a t) = max a t / 2 ^ (dg t (max a t) * 3) % 8 := rfl
  have hlt := sl_lt t (max a t)
  generalize max a t = x at *
  generalize sl t x = s at *
  generalize dg t x = d at *
  have hxo := bits_xor_u64_nat x t (by omega) (by omega)
  have hxl : x ^^^ t < 2 ^ 63 := Nat.xor_lt_two_pow hx ht
  have hL : Lib.bitLen (x ^^^ t) ≤ 63 := by
    by_cases h0 : x ^^^ t = 0
    · rw [h0]; decide +kernel
    · exact (len_bounds 63 _ hxl (by decide) h0).2.2.2
  have hlen : ∀ W : World, Calls Try.prog 40 #[.int .u64 ((x ^^^ t : Nat) : Int)] W fun e w' => e = .returned (.int .i64 ((Lib.bitLen (x ^^^ t) : Nat) : Int)) ∧ W = w' := fun W => by
    have := len64_any ((x ^^^ t : Nat) : Int) W (by omega) (by omega)
    rwa [Int.toNat_natCast] at this
  generalize Lib.bitLen (x ^^^ t) = L at *
  have hw1 : wrap64 ((L : Int) - 1) = (L : Int) - 1 := by unfold wrap64; omega
  have hm3 : (if (L : Int) - 1 < 0 then (0 : Int) else (L : Int) - 1) = ((L - 1 : Nat) : Int) := by split <;> omega
  have hm4 : (if (L : Int) < 1 then (0 : Int) else (L : Int) - 1) = ((L - 1 : Nat) : Int) := by split <;> omega
  have hq2 : ((L - 1 : Nat) : Int) / 3 = ((d : Nat) : Int) := by rw [hdd]; omega
  have hq : Int.tdiv ((L - 1 : Nat) : Int) 3 = ((d : Nat) : Int) := by rw [Int.tdiv_eq_ediv_of_nonneg (by omega)]; exact hq2
  have hdL : d ≤ 20 := hd
  have Hss := Lib.hid hss
  clear hdd hss hx ht ha
  go_enter Try.func31, Try.ntmps31
  go_wp2_with (go_at_call 40; refine (hlen _).mono ?_; rintro e w' ⟨rfl, rfl⟩)
  have hsl : wrap64 (((x : Int) / 2 ^ (d * 3)).tmod 8) = ((s : Nat) : Int) := by
    rw [Int.tmod_eq_emod_of_nonneg (Int.ediv_nonneg (by omega) (by exact_mod_cast Nat.zero_le _)), Hss.out]
    have : (x : Int) / 2 ^ (d * 3) = ((x / 2 ^ (d * 3) : Nat) : Int) := by push_cast; rfl
    rw [this]
    unfold wrap64
    omega
  go_quiet (fail)
  rw [hsl]
  go_wp2
  go_ret2
  exact ⟨rfl, Only.drewN _ _ _⟩
set_option maxRecDepth 100000 in
theorem slotOf_any (w : World) (p t a : Nat) (hc : w.cell? ⟨p, 0, none⟩ = some (.int .u64 (t : Nat))) (ht : t < 2 ^ 63) (ha : a < 2 ^ 63) :
    Calls Try.prog 24 #[.pointer (some ⟨p, 0, none⟩), .int .u64 (a : Nat)] w fun e w' => e = .returned (.pointer (some ⟨p, 2 + pl t a, none⟩)) ∧ Only [] w w' := by
  have HC := Lib.hid (place_any w p t a hc ht ha)
  have hd := (dg_char ht (show max a t < 2 ^ 63 by omega)).2.2
  have hs := sl_lt t (max a t)
  have HP := Lib.hid (show pl t a = dg t (max a t) * 8 + sl t (max a t) from rfl)
  generalize dg t (max a t) = d at *
  generalize sl t (max a t) = s at *
  go_enter Try.func24, Try.ntmps24
  go_wp2_with (go_at_call 31; refine HC.out.mono ?_; rintro e w' ⟨rfl, ho⟩)
  go_ret
  rw [HP.out, ← Nat.add_assoc]
  exact ⟨rfl, ho⟩
/-- A block's cells, told as a whole. -/
def Lay (w : World) (b : Nat) (t : TypeId) (cs : List Value) : Prop := w.heap[b]? = some (.cells cs.toArray t (0, 0))
theorem Lay.new (w : World) (t : TypeId) (cs : List Value) : Lay (w.alloc (.cells cs.toArray t)) w.heap.size t cs := (MapKept.heap_alloc w _).1
theorem Lay.lt {w : World} {b : Nat} {t : TypeId} {cs : List Value} (h : Lay w b t cs) : b < w.heap.size := (Array.getElem?_eq_some_iff.1 h).1
theorem Lay.kept {w w' : World} {b : Nat} {t : TypeId} {cs : List Value} {S : List Nat} (h : Lay w b t cs) (ho : Only S w w') (hb : b ∉ S) : Lay w' b t cs := (ho.block b h.lt hb).trans h
theorem Lay.cell {w : World} {b : Nat} {t : TypeId} {cs : List Value} (h : Lay w b t cs) (j : Nat) : w.cell? ⟨b, j, none⟩ = cs[j]? := by
  unfold Lay at h
  simp [World.cell?, h]
theorem Lay.free {w : World} {b : Nat} {t : TypeId} {cs : List Value} (h : Lay w b t cs) (j : Nat) : w.frozen? ⟨b, j, none⟩ = false := by
  unfold Lay at h
  simp [World.frozen?, h]
theorem grown_drewN (w : World) (n : Nat) (row : Option Nat) : w.grownBy (w.drewN n) row := ⟨rfl, rfl, rfl, Nat.le_refl _, fun _ _ _ => rfl⟩
theorem eq_some (W : World) (b : Nat) : (binOp BinOp.eql 57 (.map (some b)) (.map none)).run Try.prog W = .ok (.bool false) W := by kernel_rfl
theorem eq_none (W : World) : (binOp BinOp.eql 57 (.map none) (.map none)).run Try.prog W = .ok (.bool true) W := by kernel_rfl
set_option maxRecDepth 100000 in
theorem put_some (w : World) (p A t : Nat) (la : List DuT) (m : Nat → Option Nat) (L : Nat → List DuT) (x : DuT) (b : Nat) (h : Wx w p A t la m L) (ht : t < 2 ^ 63) (hx2 : x.2 < 2 ^ 63) (hx1 : x.1 ≤ 999) (hm : m (pl t x.2) = some b)
    (hf : Fit (L (pl t x.2))) (hn : has x.1 (L (pl t x.2)) = false) (hl : (L (pl t x.2)).length < 1000) :
    Calls Try.prog 22 #[.pointer (some ⟨p, 0, none⟩), dV x] w fun e w' => e = .returned (.tuple #[]) ∧ Wx w' p A t la m (updL L (pl t x.2) (x :: L (pl t x.2))) ∧ Only [b] w w' := by
  have hk := pl_lt ht hx2
  have HW := Lib.hid h
  have hbx := Lay.new w 42 [.int .i64 (x.1 : Nat), .int .u64 (x.2 : Nat)]
  have hO1 : Only [] w (w.alloc (.cells #[.int .i64 (x.1 : Nat), .int .u64 (x.2 : Nat)] 42)) := Only.alloc [] w _
  have h1 := h.quiet hO1
  have HS := Lib.hid (slotOf_any _ p t x.2 h1.c0 ht hx2)
  have HX := Lib.hid (And.intro hx1 (And.intro hf (And.intro hn hl)))
  have HM := Lib.hid hm
  have HK := Lib.hid hk
  have HH := Lib.hid h1
  have HB := Lib.hid hbx
  have hx264 : x.2 < 18446744073709551616 := by omega
  have HX2 := Lib.hid hx264
  clear h h1 hbx hx1 hf hn hl hm ht
  generalize pl t x.2 = k at *
  go_enter Try.func22, Try.ntmps22
  go_wp2_with (go_at_call 24; refine HS.out.mono ?_; rintro e w2 ⟨rfl, ho2⟩; have h2 := HH.out.quiet ho2; have hc2 := h2.ck k HK.out; rw [HM.out] at hc2; have hq := eq_some w2 b; have hb2 := HB.out.kept ho2 (by simp); have b0 := hb2.cell 0; have b1 := hb2.cell 1; simp only [List.getElem?_cons_zero, List.getElem?_cons_succ] at b0 b1; have hbl := hb2.lt; have hpl := h2.lt)
  obtain ⟨w3, hrun, hm3, hg3⟩ := (show Mp w2.drew b (L k) from (h2.some_ k b HK.out HM.out).kept (Only.drewN [] w2 1) (by simp)).put HX.out.2.1 HX.out.1 HX.out.2.2.1 HX2.out HX.out.2.2.2
  have H2 := Lib.hid (show Wx w2.drew p A t la m L from h2.quiet (Only.drewN [] w2 1))
  have HG := Lib.hid hg3
  have HM3 := Lib.hid hm3
  have HO := Lib.hid ((hO1.trans ho2).trans (Only.drewN [] w2 1))
  clear h2 hm3 hg3 hb2 ho2 hO1 hq
  go_region
  go_wp2
  go_end0
  exact ⟨rfl, H2.out.turnK HK.out HM.out HG.out HM3.out, (HO.out.mono (by simp)).trans (only_grown HG.out)⟩
set_option maxRecDepth 100000 in
theorem put_none (w : World) (p A t : Nat) (la : List DuT) (m : Nat → Option Nat) (L : Nat → List DuT) (x : DuT) (h : Wx w p A t la m L) (ht : t < 2 ^ 63) (hx2 : x.2 < 2 ^ 63) (hx1 : x.1 ≤ 999) (hm : m (pl t x.2) = none) :
    Calls Try.prog 22 #[.pointer (some ⟨p, 0, none⟩), dV x] w fun e w' => e = .returned (.tuple #[]) ∧ ∃ b, w.heap.size ≤ b ∧ Wx w' p A t la (updM m (pl t x.2) (some b)) (updL L (pl t x.2) [x]) ∧ Only [p] w w' := by
  have hk := pl_lt ht hx2
  have hp0 := h.lt
  have HW := Lib.hid h
  have hbx := Lay.new w 42 [.int .i64 (x.1 : Nat), .int .u64 (x.2 : Nat)]
  have hO1 : Only [] w (w.alloc (.cells #[.int .i64 (x.1 : Nat), .int .u64 (x.2 : Nat)] 42)) := Only.alloc [] w _
  have h1 := h.quiet hO1
  have HS := Lib.hid (slotOf_any _ p t x.2 h1.c0 ht hx2)
  have HX := Lib.hid hx1
  have HM := Lib.hid hm
  have HK := Lib.hid hk
  have HH := Lib.hid h1
  have HB := Lib.hid hbx
  have hx264 : x.2 < 18446744073709551616 := by omega
  have HX2 := Lib.hid hx264
  clear h h1 hbx hx1 hm ht
  generalize pl t x.2 = k at *
  go_enter Try.func22, Try.ntmps22
  go_wp2_with (go_at_call 24; refine HS.out.mono ?_; rintro e w2 ⟨rfl, ho2⟩; have h2 := HH.out.quiet ho2; have hc2 := h2.ck k HK.out; rw [HM.out] at hc2; have hq := eq_none w2; have hb2 := HB.out.kept ho2 (by simp); have b0 := hb2.cell 0; have b1 := hb2.cell 1; simp only [List.getElem?_cons_zero, List.getElem?_cons_succ] at b0 b1; have hbl := hb2.lt; have hpl := h2.lt; have hmm := @run_makeMap Try.prog; have hfz := h2.fz (2 + k))
  have hcm : (w2.setCell ⟨p, 2 + k, none⟩ (.map (some w2.heap.size))).alloc (.map #[] 0) = (w2.alloc (.map #[] 0)).setCell ⟨p, 2 + k, none⟩ (.map (some w2.heap.size)) := (World.setCell_alloc_past _ _ _ _ hpl).symm
  have h3 := (h2.quiet (Only.alloc [] w2 (.map #[] 0))).newK HK.out HM.out (Mp.made w2) (fun e => by have := h2.blk_lt e; omega)
  have o3 : Only [p] w2 ((w2.alloc (.map #[] 0)).setCell ⟨p, 2 + k, none⟩ (.map (some w2.heap.size))) := (Only.alloc _ w2 _).trans (Only.setCell _ (by simp) _ _)
  have hls := hO1.size
  have hls2 := ho2.size
  rw [hcm]
  rw [← hcm] at h3 o3
  rw [hcm] at h3 o3
  have hb3 := hb2.kept o3 (by simp; omega)
  have HO := Lib.hid (((hO1.trans ho2).mono (by simp)).trans o3)
  have H3 := Lib.hid h3
  have hsz : w.heap.size ≤ w2.heap.size := by omega
  generalize w2.heap.size = b at *
  clear b0 b1
  have b0 := hb3.cell 0
  have b1 := hb3.cell 1
  simp only [List.getElem?_cons_zero, List.getElem?_cons_succ] at b0 b1
  have hc3 := h3.ck k HK.out
  rw [updM_at] at hc3
  have hp3 := h3.lt
  have hb3l := hb3.lt
  clear h2 h3 ho2 hO1 hq hcm hb2 hc2 hb3 o3 hfz hbl hpl
  generalize ((w2.alloc (.map #[] 0)).setCell ⟨p, 2 + k, none⟩ (.map (some b))) = w4 at *
  have hL0 : L k = [] := HW.out.none_ k HK.out HM.out
  obtain ⟨w3, hrun, hm3, hg3⟩ := (show Mp w4.drew b [] from (hL0 ▸ H3.out.some_ k b HK.out (updM_at _ _ _)).kept (Only.drewN [] w4 1) (by simp)).put ⟨List.Pairwise.nil, by simp, by simp⟩ HX.out rfl HX2.out (by simp)
  have HG := Lib.hid hg3
  have HM3 := Lib.hid hm3
  clear hm3 hg3
  go_region
  go_wp2
  go_end0
  exact ⟨rfl, b, hsz, (show Wx w4.drew p A t la (updM m k (some b)) L from H3.out.quiet (Only.drewN [] w4 1)).turnK HK.out (updM_at _ _ _) HG.out HM3.out,
    ((HO.out.trans (Only.drewN _ w4 1)).mono (S' := [p, b]) (by simp)).trans ((only_grown HG.out).mono (by simp)) |>.back (n := w.heap.size) (fun x hx => by simp at hx; rcases hx with rfl | rfl <;> simp [hsz]) (Nat.le_refl _)⟩
theorem put_any (w : World) (p A t : Nat) (la : List DuT) (m : Nat → Option Nat) (L : Nat → List DuT) (x : DuT) (h : Wx w p A t la m L) (ht : t < 2 ^ 63) (hx2 : x.2 < 2 ^ 63) (hx1 : x.1 ≤ 999)
    (hf : Fit (L (pl t x.2))) (hn : has x.1 (L (pl t x.2)) = false) (hl : (L (pl t x.2)).length < 1000) :
    Calls Try.prog 22 #[.pointer (some ⟨p, 0, none⟩), dV x] w fun e w' => e = .returned (.tuple #[]) ∧ ∃ m', Wx w' p A t la m' (updL L (pl t x.2) (x :: L (pl t x.2))) ∧ Only (blks p A m) w w' ∧ ∀ y ∈ blks p A m', y ∈ blks p A m ∨ w.heap.size ≤ y := by
  have hk := pl_lt ht hx2
  cases hm : m (pl t x.2) with
  | some b =>
    refine (put_some w p A t la m L x b h ht hx2 hx1 hm hf hn hl).mono ?_
    rintro e w' ⟨he, h1, h2⟩
    exact ⟨he, m, h1, h2.mono (by simp; exact mem_blks.2 (Or.inr (Or.inr ⟨_, hk, hm⟩))), fun y hy => Or.inl hy⟩
  | none =>
    refine (put_none w p A t la m L x h ht hx2 hx1 hm).mono ?_
    rintro e w' ⟨he, b, hb, h1, h2⟩
    rw [h.none_ _ hk hm]
    refine ⟨he, _, h1, h2.mono (by simp; exact mem_blks.2 (Or.inl rfl)), fun y hy => ?_⟩
    rcases blks_upd hy with hy | hy
    · exact Or.inl hy
    · injection hy with hy; subst hy; exact Or.inr hb
end Wh
end Go.Proofs.Ytddiapihopgpbaa
