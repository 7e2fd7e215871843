/-
  The walk of warderlaw01.WordBytes, at slices of at most 2,000 bytes and 300 words.
-/
import Derived.Test.YtlbdklkocjlobaaBytesLaw
namespace Go.Proofs.Ytlbdklkocjlobaa
open Go.RowKit
namespace Cp
theorem bl_at (z : Nat → Int) (k j : Nat) (h : j < 4 * k) : (bl z k).getD j 0 = byteOf z j := by
  unfold bl
  rw [List.getD_eq_getElem?_getD, List.getElem?_map, List.getElem?_range h]
  rfl
theorem bytes_all (pl : Option Addr) (m capl : Nat) (z : Nat → Int) (w : World) (hm : m ≤ 1000000) (hz : ∀ j, j < m → 0 ≤ z j ∧ z j < 4294967296) (hr : ReadsW w pl m z) :
    Calls Try.prog 22 #[.slice pl m capl] w fun e w' => e = .returned (.slice (some ⟨w.heap.size, 0, none⟩) (4 * m) (4 * m)) ∧ (∀ j, j < 4 * m → w'.cell? ⟨w.heap.size, j, none⟩ = some (.int .u8 (byteOf z j))) ∧ Below w.heap.size w w' := by
  by_cases h0 : 0 < m
  · obtain ⟨b, off, rfl, hc⟩ := hr h0
    refine (bytes_any b off m capl z w hm hz (World.block_lt_of_cell? w _ (hc 0 h0)) hc).mono ?_
    rintro e w' ⟨rfl, hrow, hb⟩
    exact ⟨rfl, fun j hj => hrow.cell hj, hb⟩
  · have e : m = 0 := by omega
    subst e
    refine (bytes_zero pl capl w).mono ?_
    rintro e w' ⟨rfl, hb⟩
    exact ⟨rfl, fun j hj => absurd hj (by omega), hb⟩
set_option maxRecDepth 100000 in
set_option maxHeartbeats 3200000 in
theorem walk_no (pa pl : Option Addr) (n cap m capl : Nat) (zs : List Int) (z : Nat → Int) (i x : Int) (w : World) (hn : n ≤ 2000) (hm : m ≤ 300) (hr : Reads w pa n zs) (hrw : ReadsW w pl m z)
    (hz : ∀ j, j < m → 0 ≤ z j ∧ z j < 4294967296) (hi : ¬ (0 ≤ i ∧ i ≤ (n : Int) - 4)) :
    Calls Try.prog 4 #[.slice pa n cap, .int .i64 i, .int .u32 x, .slice pl m capl] w fun e w' => e = .returned (.bool true) ∧ Below w.heap.size w w' := by
  obtain ⟨i0, hinf, hz0, hz1, hz2⟩ := info_parts info5
  have t1 : decide ((2000 : Int) < (n : Int)) = false := by simp; omega
  have t2 : decide ((300 : Int) < (m : Int)) = false := by simp; omega
  have HZ := Lib.hid hz
  have HI := Lib.hid hi
  have R := Lib.hid hr
  have RW := Lib.hid hrw
  have HL := Lib.hid hr.1
  clear hz hi hr hrw
  go_enter Try.func4, Try.ntmps4
  go_wp2_with fail
  refine (alive_any _).mono ?_
  rintro e wa ⟨rfl, ba⟩
  have R2 := Lib.hid (R.out.keep ba)
  have RW2 := Lib.hid (RW.out.keep ba)
  have BA := Lib.hid ba
  clear ba R RW
  go_wp2_with fail
  refine (get_no _ _ _ _ _ HI.out (by omega)).mono ?_
  rintro e wb ⟨rfl, rfl⟩
  go_wp2_with fail
  refine (rget_no _ _ _ _ _ HI.out hn).mono ?_
  rintro e wb ⟨rfl, rfl⟩
  go_wp2_with fail
  refine (copy_any pa n cap zs _ hn R2.out).mono ?_
  rintro e wb ⟨g1, c1, rfl, o1, bb⟩
  have R3 := Lib.hid (R2.out.keep bb)
  have RW3 := Lib.hid (RW2.out.keep bb)
  have O1 := Lib.hid o1
  have BB := Lib.hid (BA.out.trans (bb.mono BA.out.size))
  clear bb R2 RW2 BA o1
  go_wp2_with fail
  refine (set_no _ _ _ _ _ _ HI.out (by omega)).mono ?_
  rintro e wc ⟨rfl, rfl⟩
  go_wp2_with fail
  refine (copy_any pa n cap zs _ hn R3.out).mono ?_
  rintro e W0 ⟨g2, c2, rfl, o2, bc⟩
  have RW := Lib.hid (RW3.out.keep bc)
  have O3 := Lib.hid (own_keep O1.out bc)
  have O2 := Lib.hid o2
  have BC := Lib.hid (BB.out.trans (bc.mono BB.out.size))
  clear bc R3 RW3 BB o2 O1
  -- the loop over the words, and the end
  have BL := Lib.hid (Below.refl W0.heap.size W0)
  go_wp2_with fail
  go_loopw [16, 17] (fun v k wr => ∃ j : Nat, j ≤ m ∧ k = .int .i64 j ∧ (∃ g c, v = .slice (some ⟨g, 0, none⟩) (4 * j) c ∧ wr.ownsRow W0.heap.size 5 1 (.slice (some ⟨g, 0, none⟩) (4 * j) c) (4 * j) (vs (bl z j))) ∧ Below W0.heap.size W0 wr) (fun _ k _ => m - (intOf k).toNat)
  case atStart => exact ⟨0, Nat.zero_le _, rfl, ⟨W0.heap.size, 0, rfl, World.ownsRow_lit W0 #[] 0 (Nat.le_refl _) (by decide) rfl⟩, (Below.refl _ _).alloc (Nat.le_refl _) _⟩
  case round =>
    obtain ⟨j, hj, rfl, ⟨g, c, rfl, hown⟩, hbel⟩ := hrel
    have OW := Lib.hid hown
    have BE := Lib.hid hbel
    clear hown hbel
    by_cases hlt : j < m
    · obtain ⟨bb, off, rfl, hcell⟩ := RW.out (by omega)
      have hc0 := hcell j hlt
      have hcx := (BE.out.cell (p := ⟨bb, off + j, none⟩) (World.block_lt_of_cell? W0 _ hc0)).trans hc0
      obtain ⟨zl, zh⟩ := HZ.out j hlt
      clear hcell hc0
      go_wp2_with fail
      refine (four_any _ _ zl zh).mono ?_
      rintro e wf ⟨rfl, rfl⟩
      have nw : ∀ k u, (vs [byte4 (z j) 0, byte4 (z j) 1, byte4 (z j) 2, byte4 (z j) 3])[k]? = some u → (wr.alloc (.cells #[.int .u8 (byte4 (z j) 0), .int .u8 (byte4 (z j) 1), .int .u8 (byte4 (z j) 2), .int .u8 (byte4 (z j) 3)] 5)).cell? ((⟨wr.heap.size, 0, none⟩ : Addr).add k) = some u :=
        World.news_of_block (cs := #[.int .u8 (byte4 (z j) 0), .int .u8 (byte4 (z j) 1), .int .u8 (byte4 (z j) 2), .int .u8 (byte4 (z j) 3)]) (t := 5) (fr := (0, 0)) (heap_alloc_new wr _)
      have NW := Lib.hid nw
      clear nw hcx
      have ob : W0.heap.size ≤ wr.heap.size := BE.out.size
      go_wp2_with (at_builtin; refine wpList_append_lies _ rfl (.tmp 68) (.tmp 73) 28 rfl W0.heap.size 5 i0 (.int .u8 0) 1 1 Try.underlying28 hinf hz0 hz1 hz2 rfl (by decide) (.slice (some ⟨g, 0, none⟩) (4 * j) c) (4 * j) (vs (bl z j)) rfl (OW.out.alloc _) ⟨wr.heap.size, 0, none⟩ 4 4 (vs [byte4 (z j) 0, byte4 (z j) 1, byte4 (z j) 2, byte4 (z j) 3]) rfl rfl NW.out (by unfold vs; intro u hu; simp at hu; rcases hu with rfl | rfl | rfl | rfl <;> rfl) (by decide) (by unfold maxLen; omega) (by omega) (by simp; omega) _ rfl ?_; intro g3 c3 w1 hown hgrow hat hlt2)
      have lt := OW.out.lt g rfl
      have e4 : 4 * j + 4 = 4 * (j + 1) := by omega
      rw [e4, ← vs_append, ← bl_succ] at hown
      have OW2 := Lib.hid hown
      have BE2 := Lib.hid ((BE.out.alloc BE.out.size _).grown hgrow (by simp; omega) (by intro k hk; simp [Value.ownBlock] at hk; omega))
      clear hown hgrow hat hlt2 lt
      go_wp2
      go_roundw
      case rel => exact ⟨j + 1, by omega, by go_num, ⟨g3, c3, by rw [e4], OW2.out⟩, BE2.out⟩
      case measure => simp [intOf]; omega
    · have ej : j = m := by omega
      subst ej
      have P1 := Lib.hid (own_keep O3.out BE.out)
      have P2 := Lib.hid (own_keep O2.out BE.out)
      have RW4 := Lib.hid (RW.out.keep BE.out)
      go_wp2_with fail
      refine (same_own g1 g2 n c1 c2 _ _ zs _ HL.out (by omega) P1.out P2.out).mono ?_
      rintro e ws ⟨rfl, ks, rfl⟩
      go_wp2_with fail
      refine (bytes_all pl j capl z (wr.drewN ks) (by omega) HZ.out RW4.out).mono ?_
      rintro e wt ⟨rfl, hcells, bt⟩
      have Q1 := Lib.hid (own_keep (w := wr.drewN ks) OW.out bt)
      have Q2 := Lib.hid hcells
      have BT := Lib.hid ((below_drewN BE.out ks).trans (bt.mono BE.out.size))
      clear hcells bt
      go_wp2_with fail
      refine (same_row _ 0 g 0 (4 * j) _ c (byteOf z) _ (by omega) (fun k hk => by rw [Nat.zero_add]; exact Q2.out k hk) (fun k hk => by rw [Nat.zero_add, Q1.out.cellAt k (by omega), vs_at _ _ (by rw [bl_len]; exact hk), bl_at z j k hk])).mono ?_
      rintro e wu ⟨rfl, ku, rfl⟩
      go_wp2
      go_ret
      exact ⟨rfl, below_drewN (BC.out.trans (BT.out.mono BC.out.size)) _⟩
theorem Reads.cells {w : World} {b off n : Nat} {zs : List Int} (h : Reads w (some ⟨b, off, none⟩) n zs) : ∀ k, k < n → w.cell? ⟨b, off + k, none⟩ = some (.int .u8 (zs.getD k 0)) := by
  intro k hk
  obtain ⟨b', off', e, hc⟩ := h.2 (by omega)
  injection e with e
  injection e with e1 e2
  subst e1 e2
  exact hc k hk
theorem Reads.take {w : World} {b off n : Nat} {zs : List Int} (h : Reads w (some ⟨b, off, none⟩) n zs) (i : Nat) (hi : i ≤ n) : Reads w (some ⟨b, off, none⟩) i (zs.take i) := by
  refine ⟨by rw [List.length_take, h.1, Nat.min_eq_left hi], fun _ => ⟨b, off, rfl, fun j hj => ?_⟩⟩
  rw [h.cells j (by omega), List.getD_eq_getElem?_getD, List.getD_eq_getElem?_getD, List.getElem?_take_of_lt hj]
theorem Reads.news {w : World} {b off n : Nat} {zs : List Int} (h : Reads w (some ⟨b, off, none⟩) n zs) (k : Nat) : ∀ j u, (vs (zs.drop k))[j]? = some u → w.cell? ((⟨b, off + k, none⟩ : Addr).add j) = some u := by
  intro j u hu
  have hl := h.1
  have hj : j < n - k := by
    rcases Nat.lt_or_ge j (n - k) with g | g
    · exact g
    · rw [List.getElem?_eq_none (by rw [vs_len]; simp; omega)] at hu
      cases hu
  rw [vs_at _ _ (by simp; omega)] at hu
  rw [add_eq, Nat.add_assoc, h.cells (k + j) (by omega), ← hu, List.getD_eq_getElem?_getD, List.getD_eq_getElem?_getD, List.getElem?_drop]
theorem one_vs (l : List Int) : ∀ u ∈ vs l, u.oneCell' = true := by
  unfold vs
  intro u hu
  simp at hu
  obtain ⟨z, _, rfl⟩ := hu
  rfl
theorem grow1 {B : Nat} {w : World} {o : Obj} (h : B ≤ w.heap.size) : B ≤ (w.alloc o).heap.size := by simp; omega
theorem own_ge {w : World} {base n c g : Nat} {t : TypeId} {xs : List Value} (h : w.ownsRow base t 1 (.slice (some ⟨g, 0, none⟩) n c) n xs) : ∀ k, (Value.slice (some ⟨g, 0, none⟩) n c).ownBlock = some k → base ≤ k := fun k hk => (h.lt k hk).1
/-- An append of some bytes, or none, onto bytes of the call's own, at a step of a region that draws. -/
theorem step_more {ops : Array Oper} {o : Oper} {a : Act} {K : Act → World → Prop} {Q : Exit → Act → World → Prop} {E : Prop} {w : World} (hgd : o.guard = none) (s x : Operand)
    (ho : o.op = .call { callee := .builtin .append, args := #[s, x], argTypes := #[28, 28] }) (base g n c : Nat) (xs : List Value) (hs : a.eval s = .slice (some ⟨g, 0, none⟩) n c)
    (hown : w.ownsRow base 5 1 (.slice (some ⟨g, 0, none⟩) n c) n xs) (ad : Addr) (m c' : Nat) (news : List Value) (hx : a.eval x = .slice (some ad) m c') (hl : news.length = m)
    (hnews : ∀ j u, news[j]? = some u → w.cell? (ad.add j) = some u) (h1 : ∀ u ∈ news, u.oneCell' = true) (hn : 0 < n) (h2 : n + m ≤ 4000) (hbase : base ≤ w.heap.size)
    (h : ∀ g' cap w', w'.ownsRow base 5 1 (.slice (some ⟨g', 0, none⟩) (n + m) cap) (n + m) (xs ++ news) → w.grownBy w' (Value.slice (some ⟨g, 0, none⟩) n c).ownBlock → K (a.put o.dst (.slice (some ⟨g', 0, none⟩) (n + m) cap)) w') :
    if Region.wanted o (yielded ops a.tmps) = true then Oper.wp Try.prog o a w K Q else E := by
  obtain ⟨i0, hinf, hz0, hz1, hz2⟩ := info_parts info5
  obtain ⟨v', w', hr, hown', hgrow, _, _⟩ := run_append_own_at (P := Try.prog) w base 28 o.type 5 i0 (.int .u8 0) 1 1 Try.underlying28 hinf hz0 hz1 hz2 rfl (by decide) _ n xs hown ad m c' news (by omega) hnews h1 (by unfold maxLen; omega) (by omega) hbase
  obtain ⟨g', cap, rfl, _, _⟩ := hown'.form (by omega)
  rw [if_pos (by simp [Region.wanted, hgd])]
  unfold Oper.wp execOp
  simp only [ho, resolve, invoke, builtin, Sem.run_bind, Sem.run_pure, Result.andThen_ok, List.map_toArray, List.map_cons, List.map_nil, hs, hx, hr]
  exact h g' cap w' hown' hgrow
set_option maxRecDepth 100000 in
set_option maxHeartbeats 3200000 in
theorem walk_yes1 (b off n cap i m capl : Nat) (pl : Option Addr) (zs : List Int) (z : Nat → Int) (x : Int) (w : World) (hn : n ≤ 2000) (hcap : n ≤ cap) (hm : m ≤ 300) (hr : Reads w (some ⟨b, off, none⟩) n zs) (h8 : ∀ j, j < n → B8 (zs.getD j 0)) (hrw : ReadsW w pl m z)
    (hz : ∀ j, j < m → 0 ≤ z j ∧ z j < 4294967296) (x0 : 0 ≤ x) (x1 : x < 4294967296) (hcase : i + 4 ≤ n) (nc : cap ≠ i + 4) :
    Calls Try.prog 4 #[.slice (some ⟨b, off, none⟩) n cap, .int .i64 i, .int .u32 x, .slice pl m capl] w fun e w' => e = .returned (.bool true) ∧ Below w.heap.size w w' := by
  obtain ⟨i0, hinf, hz0, hz1, hz2⟩ := info_parts info5
  have t1 : decide ((2000 : Int) < (n : Int)) = false := by simp; omega
  have t2 : decide ((300 : Int) < (m : Int)) = false := by simp; omega
  have HZ := Lib.hid hz
  have R := Lib.hid hr
  have RW0 := Lib.hid hrw
  have HL := Lib.hid hr.1
  have H8 := Lib.hid h8
  clear hz hr hrw h8
  have i1 : (0 : Int) ≤ (i : Int) := by omega
  have i2 : (i : Int) + 4 ≤ (n : Int) := by omega
  go_enter Try.func4, Try.ntmps4
  go_wp2_with fail
  refine (alive_any _).mono ?_
  rintro e wa ⟨rfl, ba⟩
  have R2 := Lib.hid (R.out.keep ba)
  have RW2 := Lib.hid (RW0.out.keep ba)
  have BA := Lib.hid ba
  clear ba R RW0
  have cs : ∀ k, k < n → wa.cell? ⟨b, off + k, none⟩ = some (.int .u8 (zs.getD k 0)) := by
    obtain ⟨b', off', e, hc⟩ := R2.out.2 (by omega)
    injection e with e
    injection e with e1 e2
    subst e1 e2
    exact hc
  have k0 := cs i (by omega)
  have k1 := cs (i + 1) (by omega)
  have k2 := cs (i + 2) (by omega)
  have k3 := cs (i + 3) (by omega)
  have CS := Lib.hid cs
  clear cs
  go_wp2_with fail
  refine (get_yes b off n cap (i : Int) _ _ _ _ wa i1 i2 (by omega) (H8.out i (by omega)) (H8.out (i + 1) (by omega)) (H8.out (i + 2) (by omega)) (H8.out (i + 3) (by omega)) k0 k1 k2 k3).mono ?_
  rintro e wb ⟨rfl, ka, rfl⟩
  go_wp2_with fail
  refine (rget_yes b off n cap (i : Int) _ _ _ _ (wa.drewN ka) i1 i2 hn (H8.out i (by omega)) (H8.out (i + 1) (by omega)) (H8.out (i + 2) (by omega)) (H8.out (i + 3) (by omega)) k0 k1 k2 k3).mono ?_
  rintro e wb ⟨rfl, rfl⟩
  clear k0 k1 k2 k3
  go_wp2_with fail
  refine (copy_any (some ⟨b, off, none⟩) n cap zs (wa.drewN ka) hn R2.out).mono ?_
  rintro e wb ⟨g1, c1, rfl, o1, bb⟩
  have O1 := Lib.hid o1
  have gb : wa.heap.size ≤ g1 := by
    obtain ⟨f, _, _, _, hg, _⟩ := row_of_own o1
    exact hg
  clear o1
  go_wp2_with fail
  refine (set_own g1 n c1 _ zs (i : Int) x _ HL.out i1 i2 hn x0 x1 O1.out).mono ?_
  rintro e wc ⟨rfl, o1, rfl⟩
  rw [Int.toNat_natCast] at o1
  have bc : Below wa.heap.size wa (set4 wb g1 i x) := set4_below ((below_drewN (Below.refl _ _) ka).trans bb) gb _ _
  have R3 := Lib.hid (R2.out.keep bc)
  have RW3 := Lib.hid (RW2.out.keep bc)
  have BB := Lib.hid (BA.out.trans (bc.mono BA.out.size))
  have O2 := Lib.hid o1
  clear bb bc R2 RW2 BA o1 O1 gb CS
  simp only [Int.toNat_natCast]
  generalize set4 wb g1 i x = wc at *
  go_wp2_with fail
  refine (copy_any (some ⟨b, off, none⟩) n cap zs _ hn R3.out).mono ?_
  rintro e wd ⟨g2, c2, rfl, o2, bd⟩
  have R4 := Lib.hid (R3.out.keep bd)
  have RW4 := Lib.hid (RW3.out.keep bd)
  have O3 := Lib.hid (own_keep O2.out bd)
  have BD := Lib.hid (BB.out.trans (bd.mono BB.out.size))
  clear bd R3 RW3 BB o2 O2
  go_wp2_with fail
  have rt : Reads wd.drew (some ⟨b, off, none⟩) i (zs.take i) := R4.out.take i (by omega)
  have RT := Lib.hid rt
  have rt4 : Reads wd.drew (some ⟨b, off, none⟩) n zs := R4.out
  have R4D := Lib.hid rt4
  clear rt rt4
  have f1 : (0 : Int) ≤ (i : Int) + 4 := by omega
  have f2 : (i : Int) + 4 ≤ (n : Int) := by omega
  have f3 : (i : Int) ≤ (cap : Int) := by omega
  have f4 : (i : Int) ≤ (n : Int) := by omega
  have f5 : (n : Int) ≤ (cap : Int) := by omega
  have f7 : (i : Int) + 4 ≤ (cap : Int) := by omega
  have f6 : (((i : Int) + 4)).toNat = i + 4 := by omega
  have v1 : i ≤ 2000 := by omega
  have u1 : i + 4 ≤ maxLen := by unfold maxLen; omega
  have u2 : (i + 4) * 1 ≤ 140737488355328 := by omega
  have u3 : 0 < i + 4 := by omega
  have u4 : i + 4 + (n - (i + 4)) ≤ 4000 := by omega
  have u6 : (vs (zs.drop (i + 4))).length = n - (i + 4) := by rw [vs_len, List.length_drop, HL.out]
  have U6 := Lib.hid u6
  clear u6
  have hw : IntKind.i64.wrap ((i : Int) + 4) = (i : Int) + 4 := IntWalk.i64_in _ (by omega)
  go_region_held3 (fun _ => True) (trivial)
    (first
      | (go_at_call 18; refine (copy_any (some ⟨b, off, none⟩) i cap (zs.take i) _ v1 RT.out).mono ?_; rintro e wx ⟨g3, c3, rfl, o3, b3⟩; have O4 := Lib.hid o3; have B4 := Lib.hid b3; clear o3 b3)
      | (go_at_call 20; refine (four_any _ _ x0 x1).mono ?_; rintro e wy ⟨rfl, rfl⟩)
      | (refine step_append_lies _ (by rfl) (.tmp 52) (.tmp 54) 28 (by rfl) wd.heap.size 5 i0 (.int .u8 0) 1 1 Try.underlying28 hinf hz0 hz1 hz2 rfl (by decide) (.slice (some ⟨g3, 0, none⟩) i c3) i (vs (zs.take i)) (by rfl) (O4.out.alloc _) ⟨wx.heap.size, 0, none⟩ 4 4 (vs [byte4 x 0, byte4 x 1, byte4 x 2, byte4 x 3]) (by rfl) rfl (World.news_of_block (cs := #[.int .u8 (byte4 x 0), .int .u8 (byte4 x 1), .int .u8 (byte4 x 2), .int .u8 (byte4 x 3)]) (t := 5) (fr := (0, 0)) (heap_alloc_new wx _)) (one_vs _) (by decide) u1 u2 (grow1 B4.out.size) _ rfl ?_; intro g4 c4 w4 hown hgrow hat hlt4; have O5 := Lib.hid hown; have BW4 := Lib.hid ((B4.out.alloc B4.out.size _).grown hgrow (grow1 B4.out.size) (own_ge O4.out)); clear hown hgrow hat hlt4)
      | (refine step_more (by rfl) (.tmp 55) (.tmp 59) (by rfl) wd.heap.size g4 (i + 4) c4 (vs (zs.take i) ++ vs [byte4 x 0, byte4 x 1, byte4 x 2, byte4 x 3]) (by rfl) O5.out ⟨b, off + (i + 4), none⟩ (n - (i + 4)) (cap - (i + 4)) (vs (zs.drop (i + 4))) (by rfl) U6.out ((R4D.out.keep BW4.out).news (i + 4)) (one_vs _) u3 u4 BW4.out.size ?_; intro g5 c5 w5 hown hgrow; have O6 := Lib.hid hown; have BW5 := Lib.hid (BW4.out.grown hgrow BW4.out.size (own_ge O5.out)); clear hown hgrow))
  rename_i hHeld
  clear hw f1 f2 f3 f4 f5 f6 f7 u1 u2 u3 u4 hHeld
  have nn : i + 4 + (n - (i + 4)) = n := by omega
  have o7 : w5.ownsRow wd.heap.size 5 1 (.slice (some ⟨g5, 0, none⟩) n c5) n (vs (putL zs i x)) := by
    have h := O6.out
    rw [nn, ← vs_append, ← vs_append] at h
    exact h
  have rw5 : ReadsW w5 pl m z := (show ReadsW wd.drew pl m z from RW4.out).keep BW5.out
  have o3k := own_keep (w := wd.drew) O3.out BW5.out
  have bc : Below w.heap.size w w5 := BD.out.drew.trans (BW5.out.mono BD.out.drew.size)
  have hlp : (putL zs i x).length = n := by
    have h := HL.out
    rw [putL_len zs i x (by omega)]
    exact h
  have O7 := Lib.hid o7
  have RW := Lib.hid rw5
  have O3k := Lib.hid o3k
  have BC := Lib.hid bc
  have HLP := Lib.hid hlp
  rw [nn]
  clear o7 rw5 o3k bc hlp O6 RW4 O3 BW5 BD R4 R4D RT U6 nn O5 BW4 O4 B4
  -- the loop over the words, and the end
  have BL := Lib.hid (Below.refl w5.heap.size w5)
  go_wp2_with fail
  go_loopw [16, 17] (fun v k wr => ∃ j : Nat, j ≤ m ∧ k = .int .i64 j ∧ (∃ g c, v = .slice (some ⟨g, 0, none⟩) (4 * j) c ∧ wr.ownsRow w5.heap.size 5 1 (.slice (some ⟨g, 0, none⟩) (4 * j) c) (4 * j) (vs (bl z j))) ∧ Below w5.heap.size w5 wr) (fun _ k _ => m - (intOf k).toNat)
  case atStart => exact ⟨0, Nat.zero_le _, rfl, ⟨w5.heap.size, 0, rfl, World.ownsRow_lit w5 #[] 0 (Nat.le_refl _) (by decide) rfl⟩, (Below.refl _ _).alloc (Nat.le_refl _) _⟩
  case round =>
    obtain ⟨j, hj, rfl, ⟨g, c, rfl, hown⟩, hbel⟩ := hrel
    have OW := Lib.hid hown
    have BE := Lib.hid hbel
    clear hown hbel
    by_cases hlt : j < m
    · obtain ⟨bb, offl, rfl, hcell⟩ := RW.out (by omega)
      have hc0 := hcell j hlt
      have hcx := (BE.out.cell (p := ⟨bb, offl + j, none⟩) (World.block_lt_of_cell? w5 _ hc0)).trans hc0
      obtain ⟨zl, zh⟩ := HZ.out j hlt
      clear hcell hc0
      go_wp2_with fail
      refine (four_any _ _ zl zh).mono ?_
      rintro e wf ⟨rfl, rfl⟩
      have nw : ∀ k u, (vs [byte4 (z j) 0, byte4 (z j) 1, byte4 (z j) 2, byte4 (z j) 3])[k]? = some u → (wr.alloc (.cells #[.int .u8 (byte4 (z j) 0), .int .u8 (byte4 (z j) 1), .int .u8 (byte4 (z j) 2), .int .u8 (byte4 (z j) 3)] 5)).cell? ((⟨wr.heap.size, 0, none⟩ : Addr).add k) = some u :=
        World.news_of_block (cs := #[.int .u8 (byte4 (z j) 0), .int .u8 (byte4 (z j) 1), .int .u8 (byte4 (z j) 2), .int .u8 (byte4 (z j) 3)]) (t := 5) (fr := (0, 0)) (heap_alloc_new wr _)
      have NW := Lib.hid nw
      clear nw hcx
      have ob : w5.heap.size ≤ wr.heap.size := BE.out.size
      go_wp2_with (at_builtin; refine wpList_append_lies _ rfl (.tmp 68) (.tmp 73) 28 rfl w5.heap.size 5 i0 (.int .u8 0) 1 1 Try.underlying28 hinf hz0 hz1 hz2 rfl (by decide) (.slice (some ⟨g, 0, none⟩) (4 * j) c) (4 * j) (vs (bl z j)) rfl (OW.out.alloc _) ⟨wr.heap.size, 0, none⟩ 4 4 (vs [byte4 (z j) 0, byte4 (z j) 1, byte4 (z j) 2, byte4 (z j) 3]) rfl rfl NW.out (by unfold vs; intro u hu; simp at hu; rcases hu with rfl | rfl | rfl | rfl <;> rfl) (by decide) (by unfold maxLen; omega) (by omega) (by simp; omega) _ rfl ?_; intro g3 c3 w1 hown hgrow hat hlt2)
      have lt := OW.out.lt g rfl
      have e4 : 4 * j + 4 = 4 * (j + 1) := by omega
      rw [e4, ← vs_append, ← bl_succ] at hown
      have OW2 := Lib.hid hown
      have BE2 := Lib.hid ((BE.out.alloc BE.out.size _).grown hgrow (by simp; omega) (by intro k hk; simp [Value.ownBlock] at hk; omega))
      clear hown hgrow hat hlt2 lt
      go_wp2
      go_roundw
      case rel => exact ⟨j + 1, by omega, by go_num, ⟨g3, c3, by rw [e4], OW2.out⟩, BE2.out⟩
      case measure => simp [intOf]; omega
    · have ej : j = m := by omega
      subst ej
      have P1 := Lib.hid (own_keep O3k.out BE.out)
      have P2 := Lib.hid (own_keep O7.out BE.out)
      have RW4 := Lib.hid (RW.out.keep BE.out)
      go_wp2_with fail
      refine (same_own g1 g5 n c1 c5 _ _ (putL zs i x) _ HLP.out (by omega) P1.out P2.out).mono ?_
      rintro e ws ⟨rfl, ks, rfl⟩
      go_wp2_with fail
      refine (bytes_all pl j capl z (wr.drewN ks) (by omega) HZ.out RW4.out).mono ?_
      rintro e wt ⟨rfl, hcells, bt⟩
      have Q1 := Lib.hid (own_keep (w := wr.drewN ks) OW.out bt)
      have Q2 := Lib.hid hcells
      have BT := Lib.hid ((below_drewN BE.out ks).trans (bt.mono BE.out.size))
      clear hcells bt
      go_wp2_with fail
      refine (same_row _ 0 g 0 (4 * j) _ c (byteOf z) _ (by omega) (fun k hk => by rw [Nat.zero_add]; exact Q2.out k hk) (fun k hk => by rw [Nat.zero_add, Q1.out.cellAt k (by omega), vs_at _ _ (by rw [bl_len]; exact hk), bl_at z j k hk])).mono ?_
      rintro e wu ⟨rfl, ku, rfl⟩
      go_wp2
      go_ret
      exact ⟨rfl, below_drewN (BC.out.trans (BT.out.mono BC.out.size)) _⟩
theorem no_news (b off : Nat) {W : World} : ∀ (j : Nat) (u : Value), ([] : List Value)[j]? = some u → W.cell? ((⟨b, off, none⟩ : Addr).add j) = some u := by
  intro j u hu
  cases hu
set_option maxRecDepth 100000 in
set_option maxHeartbeats 800000 in
theorem walk_yes0 (b off n i m capl : Nat) (pl : Option Addr) (zs : List Int) (z : Nat → Int) (x : Int) (w : World) (hn : n ≤ 2000) (hm : m ≤ 300) (hr : Reads w (some ⟨b, off, none⟩) n zs) (h8 : ∀ j, j < n → B8 (zs.getD j 0)) (hrw : ReadsW w pl m z)
    (hz : ∀ j, j < m → 0 ≤ z j ∧ z j < 4294967296) (x0 : 0 ≤ x) (x1 : x < 4294967296) (hcase : i + 4 ≤ n) (hge : n ≤ i + 4) :
    Calls Try.prog 4 #[.slice (some ⟨b, off, none⟩) n n, .int .i64 i, .int .u32 x, .slice pl m capl] w fun e w' => e = .returned (.bool true) ∧ Below w.heap.size w w' := by
  obtain ⟨i0, hinf, hz0, hz1, hz2⟩ := info_parts info5
  have t1 : decide ((2000 : Int) < (n : Int)) = false := by simp; omega
  have t2 : decide ((300 : Int) < (m : Int)) = false := by simp; omega
  have HZ := Lib.hid hz
  have R := Lib.hid hr
  have RW0 := Lib.hid hrw
  have HL := Lib.hid hr.1
  have H8 := Lib.hid h8
  clear hz hr hrw h8
  have i1 : (0 : Int) ≤ (i : Int) := by omega
  have i2 : (i : Int) + 4 ≤ (n : Int) := by omega
  go_enter Try.func4, Try.ntmps4
  go_wp2_with fail
  refine (alive_any _).mono ?_
  rintro e wa ⟨rfl, ba⟩
  have R2 := Lib.hid (R.out.keep ba)
  have RW2 := Lib.hid (RW0.out.keep ba)
  have BA := Lib.hid ba
  clear ba R RW0
  have cs : ∀ k, k < n → wa.cell? ⟨b, off + k, none⟩ = some (.int .u8 (zs.getD k 0)) := by
    obtain ⟨b', off', e, hc⟩ := R2.out.2 (by omega)
    injection e with e
    injection e with e1 e2
    subst e1 e2
    exact hc
  have k0 := cs i (by omega)
  have k1 := cs (i + 1) (by omega)
  have k2 := cs (i + 2) (by omega)
  have k3 := cs (i + 3) (by omega)
  have CS := Lib.hid cs
  clear cs
  go_wp2_with fail
  refine (get_yes b off n n (i : Int) _ _ _ _ wa i1 i2 (by omega) (H8.out i (by omega)) (H8.out (i + 1) (by omega)) (H8.out (i + 2) (by omega)) (H8.out (i + 3) (by omega)) k0 k1 k2 k3).mono ?_
  rintro e wb ⟨rfl, ka, rfl⟩
  go_wp2_with fail
  refine (rget_yes b off n n (i : Int) _ _ _ _ (wa.drewN ka) i1 i2 hn (H8.out i (by omega)) (H8.out (i + 1) (by omega)) (H8.out (i + 2) (by omega)) (H8.out (i + 3) (by omega)) k0 k1 k2 k3).mono ?_
  rintro e wb ⟨rfl, rfl⟩
  clear k0 k1 k2 k3
  go_wp2_with fail
  refine (copy_any (some ⟨b, off, none⟩) n n zs (wa.drewN ka) hn R2.out).mono ?_
  rintro e wb ⟨g1, c1, rfl, o1, bb⟩
  have O1 := Lib.hid o1
  have gb : wa.heap.size ≤ g1 := by
    obtain ⟨f, _, _, _, hg, _⟩ := row_of_own o1
    exact hg
  clear o1
  go_wp2_with fail
  refine (set_own g1 n c1 _ zs (i : Int) x _ HL.out i1 i2 hn x0 x1 O1.out).mono ?_
  rintro e wc ⟨rfl, o1, rfl⟩
  rw [Int.toNat_natCast] at o1
  have bc : Below wa.heap.size wa (set4 wb g1 i x) := set4_below ((below_drewN (Below.refl _ _) ka).trans bb) gb _ _
  have R3 := Lib.hid (R2.out.keep bc)
  have RW3 := Lib.hid (RW2.out.keep bc)
  have BB := Lib.hid (BA.out.trans (bc.mono BA.out.size))
  have O2 := Lib.hid o1
  clear bb bc R2 RW2 BA o1 O1 gb CS
  simp only [Int.toNat_natCast]
  generalize set4 wb g1 i x = wc at *
  go_wp2_with fail
  refine (copy_any (some ⟨b, off, none⟩) n n zs _ hn R3.out).mono ?_
  rintro e wd ⟨g2, c2, rfl, o2, bd⟩
  have R4 := Lib.hid (R3.out.keep bd)
  have RW4 := Lib.hid (RW3.out.keep bd)
  have O3 := Lib.hid (own_keep O2.out bd)
  have BD := Lib.hid (BB.out.trans (bd.mono BB.out.size))
  clear bd R3 RW3 BB o2 O2
  go_wp2_with fail
  have rt : Reads wd.drew (some ⟨b, off, none⟩) i (zs.take i) := R4.out.take i (by omega)
  have RT := Lib.hid rt
  have rt4 : Reads wd.drew (some ⟨b, off, none⟩) n zs := R4.out
  have R4D := Lib.hid rt4
  clear rt rt4
  have f1 : (0 : Int) ≤ (i : Int) + 4 := by omega
  have f2 : (i : Int) + 4 ≤ (n : Int) := by omega
  have f4 : (i : Int) ≤ (n : Int) := by omega
  have nc : (n = i + 4) = True := eq_true (by omega)
  have f6 : (((i : Int) + 4)).toNat = i + 4 := by omega
  have v1 : i ≤ 2000 := by omega
  have u1 : i + 4 ≤ maxLen := by unfold maxLen; omega
  have u2 : (i + 4) * 1 ≤ 140737488355328 := by omega
  have u3 : 0 < i + 4 := by omega
  have u4 : i + 4 + 0 ≤ 4000 := by omega
  have hw : IntKind.i64.wrap ((i : Int) + 4) = (i : Int) + 4 := IntWalk.i64_in _ (by omega)
  go_region_held3 (fun _ => True) (trivial)
    (first
      | (go_at_call 18; refine (copy_any (some ⟨b, off, none⟩) i n (zs.take i) _ v1 RT.out).mono ?_; rintro e wx ⟨g3, c3, rfl, o3, b3⟩; have O4 := Lib.hid o3; have B4 := Lib.hid b3; clear o3 b3)
      | (go_at_call 20; refine (four_any _ _ x0 x1).mono ?_; rintro e wy ⟨rfl, rfl⟩)
      | (refine step_append_lies _ (by rfl) (.tmp 52) (.tmp 54) 28 (by rfl) wd.heap.size 5 i0 (.int .u8 0) 1 1 Try.underlying28 hinf hz0 hz1 hz2 rfl (by decide) (.slice (some ⟨g3, 0, none⟩) i c3) i (vs (zs.take i)) (by rfl) (O4.out.alloc _) ⟨wx.heap.size, 0, none⟩ 4 4 (vs [byte4 x 0, byte4 x 1, byte4 x 2, byte4 x 3]) (by rfl) rfl (World.news_of_block (cs := #[.int .u8 (byte4 x 0), .int .u8 (byte4 x 1), .int .u8 (byte4 x 2), .int .u8 (byte4 x 3)]) (t := 5) (fr := (0, 0)) (heap_alloc_new wx _)) (one_vs _) (by decide) u1 u2 (grow1 B4.out.size) _ rfl ?_; intro g4 c4 w4 hown hgrow hat hlt4; have O5 := Lib.hid hown; have BW4 := Lib.hid ((B4.out.alloc B4.out.size _).grown hgrow (grow1 B4.out.size) (own_ge O4.out)); clear hown hgrow hat hlt4)
      | (refine step_more (by rfl) (.tmp 55) (.tmp 59) (by rfl) wd.heap.size g4 (i + 4) c4 (vs (zs.take i) ++ vs [byte4 x 0, byte4 x 1, byte4 x 2, byte4 x 3]) (by rfl) O5.out ⟨b, off, none⟩ 0 0 [] (by rfl) rfl (no_news b off) (one_vs []) u3 u4 BW4.out.size ?_; intro g5 c5 w5 hown hgrow; have O6 := Lib.hid hown; have BW5 := Lib.hid (BW4.out.grown hgrow BW4.out.size (own_ge O5.out)); clear hown hgrow))
  rename_i hHeld
  clear hw f1 f2 f4 nc f6 u1 u2 u3 u4 hHeld
  have nn : i + 4 = n := by omega
  have o7 : w5.ownsRow wd.heap.size 5 1 (.slice (some ⟨g5, 0, none⟩) n c5) n (vs (putL zs i x)) := by
    have h := O6.out
    rw [List.append_nil, ← vs_append, Nat.add_zero, nn] at h
    have e : putL zs i x = zs.take i ++ [byte4 x 0, byte4 x 1, byte4 x 2, byte4 x 3] := by
      have hl := HL.out
      unfold putL
      rw [List.drop_eq_nil_of_le (by omega), List.append_nil]
    rw [e]
    exact h
  have rw5 : ReadsW w5 pl m z := (show ReadsW wd.drew pl m z from RW4.out).keep BW5.out
  have o3k := own_keep (w := wd.drew) O3.out BW5.out
  have bc : Below w.heap.size w w5 := BD.out.drew.trans (BW5.out.mono BD.out.drew.size)
  have hlp : (putL zs i x).length = n := by
    have h := HL.out
    rw [putL_len zs i x (by omega)]
    exact h
  have O7 := Lib.hid o7
  have RW := Lib.hid rw5
  have O3k := Lib.hid o3k
  have BC := Lib.hid bc
  have HLP := Lib.hid hlp
  (try simp only [Nat.add_zero])
  rw [nn]
  clear o7 rw5 o3k bc hlp O6 RW4 O3 BW5 BD R4 R4D RT nn O5 BW4 O4 B4
  -- the loop over the words, and the end
  have BL := Lib.hid (Below.refl w5.heap.size w5)
  go_wp2_with fail
  go_loopw [16, 17] (fun v k wr => ∃ j : Nat, j ≤ m ∧ k = .int .i64 j ∧ (∃ g c, v = .slice (some ⟨g, 0, none⟩) (4 * j) c ∧ wr.ownsRow w5.heap.size 5 1 (.slice (some ⟨g, 0, none⟩) (4 * j) c) (4 * j) (vs (bl z j))) ∧ Below w5.heap.size w5 wr) (fun _ k _ => m - (intOf k).toNat)
  case atStart => exact ⟨0, Nat.zero_le _, rfl, ⟨w5.heap.size, 0, rfl, World.ownsRow_lit w5 #[] 0 (Nat.le_refl _) (by decide) rfl⟩, (Below.refl _ _).alloc (Nat.le_refl _) _⟩
  case round =>
    obtain ⟨j, hj, rfl, ⟨g, c, rfl, hown⟩, hbel⟩ := hrel
    have OW := Lib.hid hown
    have BE := Lib.hid hbel
    clear hown hbel
    by_cases hlt : j < m
    · obtain ⟨bb, offl, rfl, hcell⟩ := RW.out (by omega)
      have hc0 := hcell j hlt
      have hcx := (BE.out.cell (p := ⟨bb, offl + j, none⟩) (World.block_lt_of_cell? w5 _ hc0)).trans hc0
      obtain ⟨zl, zh⟩ := HZ.out j hlt
      clear hcell hc0
      go_wp2_with fail
      refine (four_any _ _ zl zh).mono ?_
      rintro e wf ⟨rfl, rfl⟩
      have nw : ∀ k u, (vs [byte4 (z j) 0, byte4 (z j) 1, byte4 (z j) 2, byte4 (z j) 3])[k]? = some u → (wr.alloc (.cells #[.int .u8 (byte4 (z j) 0), .int .u8 (byte4 (z j) 1), .int .u8 (byte4 (z j) 2), .int .u8 (byte4 (z j) 3)] 5)).cell? ((⟨wr.heap.size, 0, none⟩ : Addr).add k) = some u :=
        World.news_of_block (cs := #[.int .u8 (byte4 (z j) 0), .int .u8 (byte4 (z j) 1), .int .u8 (byte4 (z j) 2), .int .u8 (byte4 (z j) 3)]) (t := 5) (fr := (0, 0)) (heap_alloc_new wr _)
      have NW := Lib.hid nw
      clear nw hcx
      have ob : w5.heap.size ≤ wr.heap.size := BE.out.size
      go_wp2_with (at_builtin; refine wpList_append_lies _ rfl (.tmp 68) (.tmp 73) 28 rfl w5.heap.size 5 i0 (.int .u8 0) 1 1 Try.underlying28 hinf hz0 hz1 hz2 rfl (by decide) (.slice (some ⟨g, 0, none⟩) (4 * j) c) (4 * j) (vs (bl z j)) rfl (OW.out.alloc _) ⟨wr.heap.size, 0, none⟩ 4 4 (vs [byte4 (z j) 0, byte4 (z j) 1, byte4 (z j) 2, byte4 (z j) 3]) rfl rfl NW.out (by unfold vs; intro u hu; simp at hu; rcases hu with rfl | rfl | rfl | rfl <;> rfl) (by decide) (by unfold maxLen; omega) (by omega) (by simp; omega) _ rfl ?_; intro g3 c3 w1 hown hgrow hat hlt2)
      have lt := OW.out.lt g rfl
      have e4 : 4 * j + 4 = 4 * (j + 1) := by omega
      rw [e4, ← vs_append, ← bl_succ] at hown
      have OW2 := Lib.hid hown
      have BE2 := Lib.hid ((BE.out.alloc BE.out.size _).grown hgrow (by simp; omega) (by intro k hk; simp [Value.ownBlock] at hk; omega))
      clear hown hgrow hat hlt2 lt
      go_wp2
      go_roundw
      case rel => exact ⟨j + 1, by omega, by go_num, ⟨g3, c3, by rw [e4], OW2.out⟩, BE2.out⟩
      case measure => simp [intOf]; omega
    · have ej : j = m := by omega
      subst ej
      have P1 := Lib.hid (own_keep O3k.out BE.out)
      have P2 := Lib.hid (own_keep O7.out BE.out)
      have RW4 := Lib.hid (RW.out.keep BE.out)
      go_wp2_with fail
      refine (same_own g1 g5 n c1 c5 _ _ (putL zs i x) _ HLP.out (by omega) P1.out P2.out).mono ?_
      rintro e ws ⟨rfl, ks, rfl⟩
      go_wp2_with fail
      refine (bytes_all pl j capl z (wr.drewN ks) (by omega) HZ.out RW4.out).mono ?_
      rintro e wt ⟨rfl, hcells, bt⟩
      have Q1 := Lib.hid (own_keep (w := wr.drewN ks) OW.out bt)
      have Q2 := Lib.hid hcells
      have BT := Lib.hid ((below_drewN BE.out ks).trans (bt.mono BE.out.size))
      clear hcells bt
      go_wp2_with fail
      refine (same_row _ 0 g 0 (4 * j) _ c (byteOf z) _ (by omega) (fun k hk => by rw [Nat.zero_add]; exact Q2.out k hk) (fun k hk => by rw [Nat.zero_add, Q1.out.cellAt k (by omega), vs_at _ _ (by rw [bl_len]; exact hk), bl_at z j k hk])).mono ?_
      rintro e wu ⟨rfl, ku, rfl⟩
      go_wp2
      go_ret
      exact ⟨rfl, below_drewN (BC.out.trans (BT.out.mono BC.out.size)) _⟩
set_option maxRecDepth 100000 in
set_option maxHeartbeats 800000 in
theorem walk_long (pa pl : Option Addr) (n cap m capl : Nat) (i x : Int) (w : World) (h : 2000 < n ∨ 300 < m) :
    Calls Try.prog 4 #[.slice pa n cap, .int .i64 i, .int .u32 x, .slice pl m capl] w fun e w' => e = .returned (.bool true) ∧ Below w.heap.size w w' := by
  by_cases h1 : 2000 < n
  · have t1 : decide ((2000 : Int) < (n : Int)) = true := by simp; omega
    clear h h1
    go_enter Try.func4, Try.ntmps4
    go_wp2_with fail
    refine (alive_any _).mono ?_
    rintro e wa ⟨rfl, ba⟩
    go_wp2
    go_ret
    exact ⟨rfl, ba⟩
  · have t1 : decide ((2000 : Int) < (n : Int)) = false := by simp; omega
    have t2 : decide ((300 : Int) < (m : Int)) = true := by simp; omega
    clear h h1
    go_enter Try.func4, Try.ntmps4
    go_wp2_with fail
    refine (alive_any _).mono ?_
    rintro e wa ⟨rfl, ba⟩
    go_wp2
    go_ret
    exact ⟨rfl, ba⟩
/-- WordBytes, at every slice of bytes, every place and word, and every slice of words. -/
theorem walk (pa pl : Option Addr) (n cap m capl : Nat) (zs : List Int) (z : Nat → Int) (i x : Int) (w : World) (hcap : n ≤ cap) (hr : Reads w pa n zs) (h8 : ∀ j, j < n → B8 (zs.getD j 0)) (hrw : ReadsW w pl m z)
    (hz : ∀ j, j < m → 0 ≤ z j ∧ z j < 4294967296) (x0 : 0 ≤ x) (x1 : x < 4294967296) :
    Calls Try.prog 4 #[.slice pa n cap, .int .i64 i, .int .u32 x, .slice pl m capl] w fun e w' => e = .returned (.bool true) ∧ Below w.heap.size w w' := by
  by_cases hl : 2000 < n ∨ 300 < m
  · exact walk_long pa pl n cap m capl i x w hl
  · by_cases hi : 0 ≤ i ∧ i ≤ (n : Int) - 4
    · obtain ⟨k, rfl⟩ := Int.eq_ofNat_of_zero_le hi.1
      obtain ⟨b, off, rfl, _⟩ := hr.2 (by omega)
      by_cases hc : cap = k + 4
      · have e : cap = n := by omega
        subst e
        exact walk_yes0 b off cap k m capl pl zs z x w (by omega) (by omega) hr h8 hrw hz x0 x1 (by omega) (by omega)
      · exact walk_yes1 b off n cap k m capl pl zs z x w (by omega) hcap (by omega) hr h8 hrw hz x0 x1 (by omega) hc
    · exact walk_no pa pl n cap m capl zs z i x w (by omega) (by omega) hr hrw hz hi
end Cp
end Go.Proofs.Ytlbdklkocjlobaa
