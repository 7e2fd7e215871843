/-
  What every statement of layer 8 asks first (great, alive): alive answers true, and changes nothing that was there. No condition but that each argument is of its Go type.
-/
import Derived.Test.YtdjglmfilhodlaaNsPlain
namespace Go.Proofs.Ytdjglmfilhodlaa
open Go.RowKit Nt
namespace Ns
open Ph En Wk
/-- Is it more than is looked at? -/
def gr (nf : Int) (len : Nat) : Bool := decide (nf < 1) || decide (100 < nf) || decide (120 < len)
theorem gr_false {nf : Int} {len : Nat} (h : gr nf len = false) : 1 ≤ nf ∧ nf ≤ 100 ∧ len ≤ 120 := by unfold gr at h; simp at h; omega
theorem great_any (nf : Int) (pa : Option Addr) (len cap : Nat) (w : World) (hl : len ≤ maxLen) :
    Calls Try.prog 9 #[.int .i64 nf, .slice pa len cap] w fun e w' => e = .returned (.bool (gr nf len)) ∧ w = w' := by
  unfold maxLen at hl
  by_cases h1 : nf < 1
  · have T := Lib.hid (show gr nf len = true by unfold gr; simp [h1])
    have d : decide (nf < 1) = true := by simpa using h1
    clear h1
    go_enter Try.func9, Try.ntmps9
    go_wp2
    go_ret
    exact ⟨by rw [T.out]; rfl, rfl⟩
  have d1 : decide (nf < 1) = false := by simpa using h1
  by_cases h2 : 100 < nf
  · have T := Lib.hid (show gr nf len = true by unfold gr; simp [h2])
    have d : decide (100 < nf) = true := by simpa using h2
    clear h2
    go_enter Try.func9, Try.ntmps9
    go_wp2
    go_ret
    exact ⟨by rw [T.out]; rfl, rfl⟩
  have d2 : decide (100 < nf) = false := by simpa using h2
  by_cases h3 : 120 < len
  · have T := Lib.hid (show gr nf len = true by unfold gr; simp [h3])
    have d : decide ((120 : Int) < (len : Int)) = true := by simp; omega
    clear h3
    go_enter Try.func9, Try.ntmps9
    go_wp2
    go_ret
    exact ⟨by rw [T.out]; rfl, rfl⟩
  have T := Lib.hid (show gr nf len = false by unfold gr; simp; omega)
  have d3 : decide ((120 : Int) < (len : Int)) = false := by simp; omega
  clear h1 h2 h3
  go_enter Try.func9, Try.ntmps9
  go_wp2
  go_ret
  exact ⟨by rw [T.out]; rfl, rfl⟩
/-! ### The words that alive puts, and what they come to -/
def zP : Nat → Int := zOf 30 xP 20
theorem tA : transS 30 zP 512 0 33568 2 = ⟨⟨0, 0, 0, false⟩, 6, 5, 2336, false, true⟩ := by kernel_rfl
theorem tB : transS 30 zP 512 0 33568 1 = ⟨⟨1, 4, 33568, false⟩, 4, 0, 0, false, false⟩ := by kernel_rfl
theorem tC : transS 30 zP 0 0 4128 0 = ⟨⟨2, 3, 4128, false⟩, 2, 0, 0, false, false⟩ := by kernel_rfl
theorem tD : fetchW 30 zP ⟨⟨0, 0, 0, false⟩, 6, 5, 2336, false, true⟩ = 77 := by kernel_rfl
theorem tE : transS 30 zP 0 0 291 1 = ⟨⟨0, 0, 0, false⟩, 2, 1, 1315, true, true⟩ := by kernel_rfl
set_option maxRecDepth 100000 in
theorem eqFlt (st kd ad : Int) (tb : Bool) (k : Nat) (w : World) : (Op.equalIn (k + 3) 36 (.agg #[.int .i64 st, .int .i64 kd, .int .u32 ad, .bool tb]) (.agg #[.int .i64 st, .int .i64 kd, .int .u32 ad, .bool tb])).run Try.prog w = .ok true w := by
  have hS : Try.prog.underlying 36 = some (.struct (Try.prog.fieldsOf 36)) := by kernel_rfl
  have u3 := Try.underlying4
  have a3' := Try.isAgg4
  have z3 := Try.sizeOf4
  have u4 := Try.underlying3
  have a4' := Try.isAgg3
  have z4 := Try.sizeOf3
  have u5 := Try.underlying23
  have a5' := Try.isAgg23
  have z5 := Try.sizeOf23
  rw [run_equalIn_struct w (k + 2) 36 _ _ hS (by kernel_rfl)]
  simp only [Program.fieldsOf, Try.underlying36]
  go_simp
set_option maxRecDepth 100000 in
theorem eqTold (t : Tld) (w : World) : (Op.equalIn 10000 38 t.val t.val).run Try.prog w = .ok true w := by
  obtain ⟨⟨st, kd, ad, tb⟩, r, P, A, W, X⟩ := t
  have hS : Try.prog.underlying 38 = some (.struct (Try.prog.fieldsOf 38)) := by kernel_rfl
  have u3 := Try.underlying4
  have a3' := Try.isAgg4
  have z3 := Try.sizeOf4
  have u4 := Try.underlying3
  have a4' := Try.isAgg3
  have z4 := Try.sizeOf3
  have u5 := Try.underlying23
  have a5' := Try.isAgg23
  have z5 := Try.sizeOf23
  have e1 := fun w => eqFlt st kd ad tb 9996 w
  simp only [Tld.val]
  rw [show (10000 : Nat) = 9999 + 1 from rfl, run_equalIn_struct w 9999 38 _ _ hS (by kernel_rfl)]
  simp only [Program.fieldsOf, Try.underlying38]
  go_simp
theorem fetch_at (m F n c : Nat) (z : Nat → Int) (root tb va : Int) (t : Tld) (v : Int) (w : World) (hM : Mem w m F n c z) (h0 : 0 ≤ va) (h1 : va < 4294967296) (k0 : 0 ≤ root) (k1 : root < 4294967296) (hT : transS n z root tb va 2 = t) (a0 : 0 ≤ t.A) (a1 : t.A < 4294967296) (hv : fetchW n z t = v) :
    Calls Try.prog 16 #[.pointer (some ⟨m, 0, none⟩), .int .u32 root, .int .i64 tb, .int .u32 va] w fun e w' => e = .returned (.tuple #[.int .u32 v, .agg #[.int .i64 t.f.st, .int .i64 t.f.kd, .int .u32 t.f.ad, .bool t.f.tb, .int .i64 t.r, .int .i64 t.P, .int .u32 t.A, .bool t.W, .bool t.X]]) ∧ Below w.heap.size w w' := by
  subst hv
  exact fetch_any m F n c z root tb va t w hM h0 h1 k0 k1 hT a0 a1
/-- A row that the call has made, as words at addresses. -/
theorem OwnPuts.puts {w : World} {B : Nat} {v : Value} {n : Nat} {x : Puts} (h : OwnPuts w B v n x) (hn : 0 < n) (hx : ∀ k, k < n → x.ad k < 4294967296 ∧ 0 ≤ x.vl k ∧ x.vl k < 4294967296) :
    ∃ g cap, v = .slice (some ⟨g, 0, none⟩) n cap ∧ B ≤ g ∧ PutsIn w.heap.size w (some ⟨g, 0, none⟩) n x := by
  rcases h.2 with ⟨_, h0⟩ | ⟨g, cap, cur, hv, hb, hg, hnc, hm, hs, ht⟩
  · omega
  · refine ⟨g, cap, hv, hb, fun _ => ⟨g, 0, rfl, (Array.getElem?_eq_some_iff.1 hg).1, fun k hk => ?_⟩⟩
    have hc := World.ownsRow.cells h (g := g) (by rw [hv]; rfl)
    obtain ⟨p1, p2⟩ := putsV_ad x n k hk
    have c0 := hc _ _ p1
    have c1 := hc _ _ p2
    obtain ⟨x1, x2, x3⟩ := hx k hk
    exact ⟨by by_cases hz : k * 2 = 0 <;> simpa [Addr.add, hz] using c0, by simpa [Addr.add, Nat.add_assoc] using c1, x1, x2, x3⟩
theorem xP_lt (k : Nat) (hk : k < 20) : xP.ad k < 4294967296 ∧ 0 ≤ xP.vl k ∧ xP.vl k < 4294967296 := by
  unfold xP
  simp only
  repeat' split
  all_goals refine ⟨by omega, by omega, by omega⟩
theorem cells6 (w : World) (a b c d e f : Value) (t : TypeId) : ∀ j y, [a, b, c, d, e, f][j]? = some y → (w.alloc (.cells #[a, b, c, d, e, f] t)).cell? ((⟨w.heap.size, 0, none⟩ : Addr).add j) = some y := by
  intro j y h
  match j, h with
  | 0, h => simp at h; subst h; simp [Addr.add]
  | 1, h => simp at h; subst h; simp [Addr.add]
  | 2, h => simp at h; subst h; simp [Addr.add]
  | 3, h => simp at h; subst h; simp [Addr.add]
  | 4, h => simp at h; subst h; simp [Addr.add]
  | 5, h => simp at h; subst h; simp [Addr.add]
theorem both_at (n : Nat) (N : Int) (pa : Option Addr) (len cap : Nat) (x : Puts) (w : World) (hN : N = n) (h1 : 1 ≤ n) (hn : n ≤ 100) (hl : len ≤ 1000) (hx : PutsIn w.heap.size w pa len x) :
    Calls Try.prog 10 #[.int .i64 N, .slice pa len cap] w (BothEnd n (zOf n x len) w) := by
  subst hN
  exact both_wide n pa len cap x w h1 hn hl hx
set_option maxRecDepth 100000 in
set_option maxHeartbeats 2000000 in
theorem alive_any (w : World) : Calls Try.prog 8 #[] w fun e w' => e = .returned (.bool true) ∧ Only [] w w' := by
  obtain ⟨i0, hi, hz0, hz1, hz2⟩ := info_parts infoP
  go_enter Try.func8, Try.ntmps8
  go_wp2_with fail
  refine (plain_any w).mono ?_
  rintro e w1 ⟨v, rfl, hI, hO⟩
  have IH := Lib.hid hI
  have WO := Lib.hid hO
  have hz2' := hO.size
  clear hI hO
  have C6 := Lib.hid (cells6 w1 (.int .u32 1544) (.int .u32 769) (.int .u32 1804) (.int .u32 1285) (.int .u32 2336) (.int .u32 77) 58)
  have PV := Lib.hid (show putsV xP 20 = putsV xP 17 ++ [.int .u32 1544, .int .u32 769, .int .u32 1804, .int .u32 1285, .int .u32 2336, .int .u32 77] by
    show ((putsV xP 17 ++ [_, _]) ++ [_, _]) ++ [_, _] = _
    simp [List.append_assoc]
    unfold xP
    simp)
  go_wp2_with (at_builtin; refine wpList_append_own _ rfl (.tmp 10) (.tmp 14) 22 rfl w.heap.size 58 i0 (.agg #[.int .u32 0, .int .u32 0]) 2 8 Try.underlying22 hi hz0 hz1 hz2 rfl (by decide) _ 17 (putsV xP 17) rfl (World.ownsRow.alloc IH.out _) ⟨w1.heap.size, 0, none⟩ 3 3 [.int .u32 1544, .int .u32 769, .int .u32 1804, .int .u32 1285, .int .u32 2336, .int .u32 77] rfl rfl C6.out (by simp [Value.oneCell']) (by decide) (by decide) (by simp; omega) ?_; intro v' w3 hown hgrow hnil; have OW := Lib.hid hown; have GR := Lib.hid hgrow; clear hown hgrow hnil)
  have O3 := Lib.hid (Only.of ((WO.out.below (Nat.le_refl _) (by simp)).alloc WO.out.size _ |>.grown GR.out (by simp; omega) (fun j hj => (World.ownsRow.lt IH.out j hj).1)) [])
  have hP : OwnPuts w3 w.heap.size v' 20 xP := by
    show World.ownsRow _ _ _ _ _ _ _
    rw [PV.out]
    exact OW.out
  obtain ⟨g, cap, rfl, _, hQ⟩ := hP.puts (by decide) xP_lt
  clear C6 PV OW GR IH WO hz2' hP
  refine (both_at 30 30 _ 20 cap xP w3 rfl (by decide) (by decide) (by decide) hQ).mono ?_
  rintro e w4 ⟨m, F, c, r, G, rfl, hB, hO, hm, hF, hr, hG⟩
  have M1 := Lib.hid (show Mem w4 m F 30 c zP from hB.mem)
  have O1 := Lib.hid (O3.out.next hO (by simp))
  clear hB hO hm hF hr hG hQ O3
  go_wp2_with fail
  refine (trans_at m F 30 c zP 512 0 33568 2 _ w4 M1.out (by decide) (by decide) (by decide) (by decide) tA).mono ?_
  rintro e w5 ⟨rfl, bx⟩
  have ho := Only.of bx []
  have ha := Only.alloc [] w5 (.cells #[.int .i64 0, .int .i64 0, .int .u32 0, .bool false, .int .i64 6, .int .i64 5, .int .u32 2336, .bool false, .bool true] 38)
  have HAn := Lib.hid (show Nine (w5.alloc (.cells #[.int .i64 0, .int .i64 0, .int .u32 0, .bool false, .int .i64 6, .int .i64 5, .int .u32 2336, .bool false, .bool true] 38)) w5.heap.size ⟨⟨0, 0, 0, false⟩, 6, 5, 2336, false, true⟩ from nine_new w5 ⟨⟨0, 0, 0, false⟩, 6, 5, 2336, false, true⟩ 38)
  have Mn := Lib.hid ((M1.out.kept ho (by simp) (by simp)).kept ha (by simp) (by simp))
  have On := Lib.hid ((O1.out.next ho (by simp)).next ha (by simp))
  clear M1 O1 ho ha bx 
  go_wp2_with fail
  generalize w5.alloc (.cells #[.int .i64 0, .int .i64 0, .int .u32 0, .bool false, .int .i64 6, .int .i64 5, .int .u32 2336, .bool false, .bool true] 38) = w6 at *
  generalize w5.heap.size = bHA at *
  have HA := HAn
  have M1 := Mn
  have O1 := On
  clear Mn On HAn
  refine (trans_at m F 30 c zP 512 0 33568 1 _ w6 M1.out (by decide) (by decide) (by decide) (by decide) tB).mono ?_
  rintro e w7 ⟨rfl, bx⟩
  have ho := Only.of bx []
  have ha := Only.alloc [] w7 (.cells #[.int .i64 1, .int .i64 4, .int .u32 33568, .bool false, .int .i64 4, .int .i64 0, .int .u32 0, .bool false, .bool false] 38)
  have HAn := Lib.hid ((HA.out.keptS ho (by simp)).keptS ha (by simp))
  have HBn := Lib.hid (show Nine (w7.alloc (.cells #[.int .i64 1, .int .i64 4, .int .u32 33568, .bool false, .int .i64 4, .int .i64 0, .int .u32 0, .bool false, .bool false] 38)) w7.heap.size ⟨⟨1, 4, 33568, false⟩, 4, 0, 0, false, false⟩ from nine_new w7 ⟨⟨1, 4, 33568, false⟩, 4, 0, 0, false, false⟩ 38)
  have Mn := Lib.hid ((M1.out.kept ho (by simp) (by simp)).kept ha (by simp) (by simp))
  have On := Lib.hid ((O1.out.next ho (by simp)).next ha (by simp))
  clear M1 O1 ho ha bx HA
  go_wp2_with fail
  generalize w7.alloc (.cells #[.int .i64 1, .int .i64 4, .int .u32 33568, .bool false, .int .i64 4, .int .i64 0, .int .u32 0, .bool false, .bool false] 38) = w8 at *
  generalize w7.heap.size = bHB at *
  have HA := HAn
  have HB := HBn
  have M1 := Mn
  have O1 := On
  clear Mn On HAn HBn
  refine (trans_at m F 30 c zP 0 0 4128 0 _ w8 M1.out (by decide) (by decide) (by decide) (by decide) tC).mono ?_
  rintro e w9 ⟨rfl, bx⟩
  have ho := Only.of bx []
  have ha := Only.alloc [] w9 (.cells #[.int .i64 2, .int .i64 3, .int .u32 4128, .bool false, .int .i64 2, .int .i64 0, .int .u32 0, .bool false, .bool false] 38)
  have HAn := Lib.hid ((HA.out.keptS ho (by simp)).keptS ha (by simp))
  have HBn := Lib.hid ((HB.out.keptS ho (by simp)).keptS ha (by simp))
  have HCn := Lib.hid (show Nine (w9.alloc (.cells #[.int .i64 2, .int .i64 3, .int .u32 4128, .bool false, .int .i64 2, .int .i64 0, .int .u32 0, .bool false, .bool false] 38)) w9.heap.size ⟨⟨2, 3, 4128, false⟩, 2, 0, 0, false, false⟩ from nine_new w9 ⟨⟨2, 3, 4128, false⟩, 2, 0, 0, false, false⟩ 38)
  have Mn := Lib.hid ((M1.out.kept ho (by simp) (by simp)).kept ha (by simp) (by simp))
  have On := Lib.hid ((O1.out.next ho (by simp)).next ha (by simp))
  clear M1 O1 ho ha bx HA HB
  go_wp2_with fail
  generalize w9.alloc (.cells #[.int .i64 2, .int .i64 3, .int .u32 4128, .bool false, .int .i64 2, .int .i64 0, .int .u32 0, .bool false, .bool false] 38) = w10 at *
  generalize w9.heap.size = bHC at *
  have HA := HAn
  have HB := HBn
  have HC := HCn
  have M1 := Mn
  have O1 := On
  clear Mn On HAn HBn HCn
  refine (fetch_at m F 30 c zP 512 0 33568 _ 77 w10 M1.out (by decide) (by decide) (by decide) (by decide) tA (by decide) (by decide) tD).mono ?_
  rintro e w11 ⟨rfl, bx⟩
  have ho := Only.of bx []
  have ha := Only.alloc [] w11 (.cells #[.int .i64 0, .int .i64 0, .int .u32 0, .bool false, .int .i64 6, .int .i64 5, .int .u32 2336, .bool false, .bool true] 38)
  have HAn := Lib.hid ((HA.out.keptS ho (by simp)).keptS ha (by simp))
  have HBn := Lib.hid ((HB.out.keptS ho (by simp)).keptS ha (by simp))
  have HCn := Lib.hid ((HC.out.keptS ho (by simp)).keptS ha (by simp))
  have HDn := Lib.hid (show Nine (w11.alloc (.cells #[.int .i64 0, .int .i64 0, .int .u32 0, .bool false, .int .i64 6, .int .i64 5, .int .u32 2336, .bool false, .bool true] 38)) w11.heap.size ⟨⟨0, 0, 0, false⟩, 6, 5, 2336, false, true⟩ from nine_new w11 ⟨⟨0, 0, 0, false⟩, 6, 5, 2336, false, true⟩ 38)
  have Mn := Lib.hid ((M1.out.kept ho (by simp) (by simp)).kept ha (by simp) (by simp))
  have On := Lib.hid ((O1.out.next ho (by simp)).next ha (by simp))
  clear M1 O1 ho ha bx HA HB HC
  go_wp2_with fail
  generalize w11.alloc (.cells #[.int .i64 0, .int .i64 0, .int .u32 0, .bool false, .int .i64 6, .int .i64 5, .int .u32 2336, .bool false, .bool true] 38) = w12 at *
  generalize w11.heap.size = bHD at *
  have HA := HAn
  have HB := HBn
  have HC := HCn
  have HD := HDn
  have M1 := Mn
  have O1 := On
  clear Mn On HAn HBn HCn HDn
  refine (ipa_any m F 30 c zP 0 291 1 _ w12 M1.out (by decide) (by decide) tE).mono ?_
  rintro e w13 ⟨rfl, bx⟩
  have ho := Only.of bx []
  have ha := Only.alloc [] w13 (.cells #[.int .i64 0, .int .i64 0, .int .u32 0, .bool false, .int .i64 2, .int .i64 1, .int .u32 1315, .bool true, .bool true] 38)
  have HAn := Lib.hid ((HA.out.keptS ho (by simp)).keptS ha (by simp))
  have HBn := Lib.hid ((HB.out.keptS ho (by simp)).keptS ha (by simp))
  have HCn := Lib.hid ((HC.out.keptS ho (by simp)).keptS ha (by simp))
  have HDn := Lib.hid ((HD.out.keptS ho (by simp)).keptS ha (by simp))
  have HEn := Lib.hid (show Nine (w13.alloc (.cells #[.int .i64 0, .int .i64 0, .int .u32 0, .bool false, .int .i64 2, .int .i64 1, .int .u32 1315, .bool true, .bool true] 38)) w13.heap.size ⟨⟨0, 0, 0, false⟩, 2, 1, 1315, true, true⟩ from nine_new w13 ⟨⟨0, 0, 0, false⟩, 2, 1, 1315, true, true⟩ 38)
  have Mn := Lib.hid ((M1.out.kept ho (by simp) (by simp)).kept ha (by simp) (by simp))
  have On := Lib.hid ((O1.out.next ho (by simp)).next ha (by simp))
  obtain ⟨a0, a1, a2, a3, a4, a5, a6, a7, a8⟩ := HAn.out
  obtain ⟨b0, b1, b2, b3, _, _, _, _, _⟩ := HBn.out
  obtain ⟨c0, c1, c2, c3, _, _, _, _, _⟩ := HCn.out
  obtain ⟨d0, d1, d2, d3, d4, d5, d6, d7, d8⟩ := HDn.out
  have e6 := HEn.out.c6
  have e7 := HEn.out.c7
  simp only at a0 a1 a2 a3 a4 a5 a6 a7 a8 b0 b1 b2 b3 c0 c1 c2 c3 d0 d1 d2 d3 d4 d5 d6 d7 d8 e6 e7
  have q1 := fun w => eqTold ⟨⟨0, 0, 0, false⟩, 6, 5, 2336, false, true⟩ w
  have q2 := fun w => eqFlt 1 4 33568 false 9997 w
  have q3 := fun w => eqFlt 2 3 4128 false 9997 w
  simp only [Tld.val] at q1
  clear M1 O1 ho ha bx HA HB HC HD HAn HBn HCn HDn HEn Mn
  go_wp2
  go_ret
  exact ⟨rfl, On.out⟩
end Ns
end Go.Proofs.Ytdjglmfilhodlaa
