/-
  What the document's own answers of layer 8 are (fault, last, read, Translate, as the statements have them), at every argument. Conditions: that the document's memory lies there, and that each argument is of its Go type.
-/
import Derived.Test.YtdjglmfilhodlaaNsAlive
namespace Go.Proofs.Ytdjglmfilhodlaa
open Go.RowKit Nt
namespace Ns
open Ph En Wk
/-- What is told, as the document has it. -/
def rv (t : Tld) : Value := .agg #[.int .i64 t.f.st, .int .i64 t.f.kd, .int .i64 t.r, .int .i64 t.P, .int .u32 t.f.ad, .int .u32 t.A, .bool t.f.tb, .bool t.W, .bool t.X]
/-- Its nine cells. -/
structure RNine (w : World) (b : Nat) (t : Tld) : Prop where
  c0 : w.cell? ⟨b, 0, none⟩ = some (.int .i64 t.f.st)
  c1 : w.cell? ⟨b, 1, none⟩ = some (.int .i64 t.f.kd)
  c2 : w.cell? ⟨b, 2, none⟩ = some (.int .i64 t.r)
  c3 : w.cell? ⟨b, 3, none⟩ = some (.int .i64 t.P)
  c4 : w.cell? ⟨b, 4, none⟩ = some (.int .u32 t.f.ad)
  c5 : w.cell? ⟨b, 5, none⟩ = some (.int .u32 t.A)
  c6 : w.cell? ⟨b, 6, none⟩ = some (.bool t.f.tb)
  c7 : w.cell? ⟨b, 7, none⟩ = some (.bool t.W)
  c8 : w.cell? ⟨b, 8, none⟩ = some (.bool t.X)
theorem RNine.keptS {w w' : World} {b : Nat} {t : Tld} {S : List Nat} (h : RNine w b t) (ho : Only S w w') (hn : b ∉ S) : RNine w' b t := by
  have hlt := block_lt_of_cell h.c0
  exact ⟨(ho.cell hlt hn 0).trans h.c0, (ho.cell hlt hn 1).trans h.c1, (ho.cell hlt hn 2).trans h.c2, (ho.cell hlt hn 3).trans h.c3, (ho.cell hlt hn 4).trans h.c4, (ho.cell hlt hn 5).trans h.c5, (ho.cell hlt hn 6).trans h.c6, (ho.cell hlt hn 7).trans h.c7, (ho.cell hlt hn 8).trans h.c8⟩
theorem rnine_new (w : World) (t : Tld) (ty : TypeId) : RNine (w.alloc (.cells #[.int .i64 t.f.st, .int .i64 t.f.kd, .int .i64 t.r, .int .i64 t.P, .int .u32 t.f.ad, .int .u32 t.A, .bool t.f.tb, .bool t.W, .bool t.X] ty)) w.heap.size t := by
  constructor <;> simp
/-- They are written. -/
def rset9 (w : World) (b : Nat) (t : Tld) : World :=
  ((((((((w.setCell ⟨b, 0, none⟩ (.int .i64 t.f.st)).setCell ⟨b, 1, none⟩ (.int .i64 t.f.kd)).setCell ⟨b, 2, none⟩ (.int .i64 t.r)).setCell ⟨b, 3, none⟩ (.int .i64 t.P)).setCell ⟨b, 4, none⟩ (.int .u32 t.f.ad)).setCell ⟨b, 5, none⟩ (.int .u32 t.A)).setCell ⟨b, 6, none⟩ (.bool t.f.tb)).setCell ⟨b, 7, none⟩ (.bool t.W)).setCell ⟨b, 8, none⟩ (.bool t.X)
theorem rset9_only (w : World) (b : Nat) (t : Tld) : Only [b] w (rset9 w b t) := by
  unfold rset9
  exact ((((((((Only.setCell w (by simp) _ _).trans (Only.setCell _ (by simp) _ _)).trans (Only.setCell _ (by simp) _ _)).trans (Only.setCell _ (by simp) _ _)).trans (Only.setCell _ (by simp) _ _)).trans (Only.setCell _ (by simp) _ _)).trans (Only.setCell _ (by simp) _ _)).trans (Only.setCell _ (by simp) _ _)).trans (Only.setCell _ (by simp) _ _)
theorem rset9_nine {w : World} {b : Nat} {t t' : Tld} (h : RNine w b t) : RNine (rset9 w b t') b t' := by
  obtain ⟨c0, c1, c2, c3, c4, c5, c6, c7, c8⟩ := h
  unfold rset9
  constructor <;> simp [go_sem, c0, c1, c2, c3, c4, c5, c6, c7, c8]
theorem fault_any (st kd ad : Int) (tb : Bool) (r : Int) (w : World) :
    Calls Try.prog 31 #[.int .i64 st, .int .i64 kd, .int .u32 ad, .bool tb, .int .i64 r] w fun e w' => e = .returned (.agg #[.int .i64 st, .int .i64 kd, .int .i64 r, .int .i64 0, .int .u32 ad, .int .u32 0, .bool tb, .bool false, .bool false]) ∧ Below w.heap.size w w' := by
  go_enter Try.func31, Try.ntmps31
  go_wp2
  refine bodyPost_ret (v := .agg #[.int .i64 st, .int .i64 kd, .int .i64 r, .int .i64 0, .int .u32 ad, .int .u32 0, .bool tb, .bool false, .bool false]) (by simp [results, Try.results31, go_sem]) rfl ⟨rfl, ?_⟩
  exact (Below.refl _ _).alloc (Nat.le_refl _) _
theorem of_any (t : Tld) (w : World) :
    Calls Try.prog 12 #[.agg #[.int .i64 t.f.st, .int .i64 t.f.kd, .int .u32 t.f.ad, .bool t.f.tb, .int .i64 t.r, .int .i64 t.P, .int .u32 t.A, .bool t.W, .bool t.X]] w fun e w' => e = .returned (.agg #[.int .i64 t.f.st, .int .i64 t.f.kd, .int .i64 t.r, .int .i64 t.P, .int .u32 t.f.ad, .int .u32 t.A, .bool t.f.tb, .bool t.W, .bool t.X]) ∧ Below w.heap.size w w' := by
  go_enter Try.func12, Try.ntmps12
  go_wp2
  refine bodyPost_ret (v := .agg #[.int .i64 t.f.st, .int .i64 t.f.kd, .int .i64 t.r, .int .i64 t.P, .int .u32 t.f.ad, .int .u32 t.A, .bool t.f.tb, .bool t.W, .bool t.X]) (by simp [results, Try.results12, go_sem]) rfl ⟨rfl, ?_⟩
  exact ((Below.refl _ _).alloc (Nat.le_refl _) _).alloc (by simp) _
/-- What the last stage tells. -/
def lastOf (ipa : Int) : Out Spot → Tld
  | .ok r s => ⟨⟨0, 0, 0, false⟩, r, ipa / 256, s.A, s.h.W, s.h.X⟩
  | .bad r f => ⟨f, r, 0, 0, false, false⟩
set_option maxHeartbeats 2000000 in
theorem last_any (rb G n : Nat) (z : Nat → Int) (tb ipa acc rd : Int) (w : World) (hM : RMem w rb G n z) (h0 : 0 ≤ ipa) (h1 : ipa < 4294967296) (r0 : 0 ≤ rd) (r1 : rd ≤ 100) :
    Calls Try.prog 32 #[.pointer (some ⟨rb, 0, none⟩), .int .i64 tb, .int .u32 ipa, .int .i64 acc, .int .i64 rd] w fun e w' => e = .returned (rv (lastOf ipa (placeS n z tb ipa acc false rd))) ∧ Below w.heap.size w w' := by
  have ha := Only.alloc [] w (.cells #[.int .i64 0, .int .i64 0, .int .i64 0, .int .i64 0, .int .u32 0, .int .u32 0, .bool false, .bool false, .bool false] 33)
  have M0 := Lib.hid (hM.kept ha (by simp) (by simp))
  have O0 := Lib.hid ha
  have Z0 := Lib.hid (show RNine (w.alloc (.cells #[.int .i64 0, .int .i64 0, .int .i64 0, .int .i64 0, .int .u32 0, .int .u32 0, .bool false, .bool false, .bool false] 33)) w.heap.size t0 from rnine_new w t0 33)
  have G0 := Lib.hid (free_new w #[.int .i64 0, .int .i64 0, .int .i64 0, .int .i64 0, .int .u32 0, .int .u32 0, .bool false, .bool false, .bool false] 33)
  have hn : n ≤ 1024 := hM.few
  clear ha hM
  obtain ⟨⟨f, r, F', W, X, B⟩, hH⟩ : ∃ H, walkS n z tb ipa acc = H := ⟨_, rfl⟩
  have hr := walkS_r n z tb ipa acc
  have hf0 : Hid (f = 0 → 0 ≤ F' ∧ F' < n) := Lib.hid (fun h => by have := walkS_F (n := n) (z := z) (root := tb) (a := ipa) (acc := acc) (by rw [hH]; exact h); rw [hH] at this; exact this)
  rw [hH] at hr
  have hr0 : 0 ≤ r := hr.1
  have hr2 : r ≤ 2 := hr.2
  have HH := Lib.hid hH
  clear hr hH
  go_enter Try.func32, Try.ntmps32
  go_wp2_with fail
  generalize w.alloc (.cells #[.int .i64 0, .int .i64 0, .int .i64 0, .int .i64 0, .int .u32 0, .int .u32 0, .bool false, .bool false, .bool false] 33) = u at *
  refine (rwalk_any rb G n z tb ipa acc u M0.out h0 h1).mono ?_
  rintro e w1 ⟨rfl, b1⟩
  rw [HH.out]
  simp only [Hit.val]
  have l0 := G0.out.1
  have l1 := b1.size
  have ho := Only.of b1 []
  have ha := Only.alloc [] w1 (.cells #[.int .i64 f, .int .i64 r, .int .i64 F', .bool W, .bool X, .bool B] 112)
  have O2 := Lib.hid ((O0.out.next ho (by simp)).next ha (by simp))
  have Z2 := Lib.hid ((Z0.out.keptS ho (by simp)).keptS ha (by simp))
  have G2 := Lib.hid ((G0.out.keptO ho (by simp)).keptO ha (by simp))
  have S2 := Lib.hid (six_new w1 f r F' W X B 112)
  have n1 := Lib.hid (show w1.heap.size ≠ w.heap.size by omega)
  clear M0 O0 Z0 G0 ho ha b1
  have z1 : IntKind.i64.wrap (rd + r) = rd + r := IntWalk.i64_in _ (by omega)
  by_cases hf : f = 0
  case neg =>
    have dk : (f != 0) = true := by simpa using hf
    have T := Lib.hid (place_f (t := false) (rd := rd) HH.out hf)
    obtain ⟨s0, s1, s2, s3, s4, s5⟩ := S2.out
    clear HH hf0 hf
    go_wp2_with fail
    clear s0 s1 s2 s3 s4 s5
    refine (fault_any 2 f ipa false (rd + r) _).mono ?_
    rintro e w3 ⟨rfl, b3⟩
    have ho := Only.of b3 []
    have Z3 := Z2.out.keptS ho (by simp)
    have G3 := G2.out.keptO ho (by simp)
    obtain ⟨t0', t1, t2, t3, t4, t5, t6, t7, t8⟩ := Z3
    simp only [Ns.t0] at t0' t1 t2 t3 t4 t5 t6 t7 t8
    have g0 := G3.2 0
    have g1 := G3.2 1
    have g2 := G3.2 2
    have g3 := G3.2 3
    have g4 := G3.2 4
    have g5 := G3.2 5
    have g6 := G3.2 6
    have g7 := G3.2 7
    have g8 := G3.2 8
    have h9 := rset9_only w3 w.heap.size ⟨⟨2, f, ipa, false⟩, rd + r, 0, 0, false, false⟩
    have O4 := Lib.hid ((O2.out.next ho (by simp)).next h9 (by simp))
    clear O2 Z2 G2 S2 G3 ho h9 b3
    go_wp2
    simp only [rset9] at O4
    refine bodyPost_ret (v := .agg #[.int .i64 2, .int .i64 f, .int .i64 (rd + r), .int .i64 0, .int .u32 ipa, .int .u32 0, .bool false, .bool false, .bool false]) (by simp [results, Try.results32, go_sem, t0', t1, t2, t3, t4, t5, t6, t7, t8]) rfl ⟨by rw [T.out]; rfl, O4.out.below (Nat.le_refl _) (by simp)⟩
  subst hf
  obtain ⟨f0, f1⟩ := hf0.out rfl
  have T := Lib.hid (place_0 (t := false) (rd := rd) HH.out rfl)
  have z2 : IntKind.i64.wrap (256 * F') = 256 * F' := IntWalk.i64_in _ (by omega)
  have z3 : IntKind.u32.wrap (256 * F') = 256 * F' := IntWalk.u32_in _ (by omega)
  have z4 : IntKind.u32.wrap (256 * F' + ipa % 256) = 256 * F' + ipa % 256 := IntWalk.u32_in _ (by omega)
  obtain ⟨s0, s1, s2, s3, s4, s5⟩ := S2.out
  obtain ⟨t0', t1, t2, t3, t4, t5, t6, t7, t8⟩ := Z2.out
  simp only [Ns.t0] at t0' t1 t2 t3 t4 t5 t6 t7 t8
  have g0 := G2.out.2 0
  have g1 := G2.out.2 1
  have g2 := G2.out.2 2
  have g3 := G2.out.2 3
  have g4 := G2.out.2 4
  have g5 := G2.out.2 5
  have g6 := G2.out.2 6
  have g7 := G2.out.2 7
  have g8 := G2.out.2 8
  have h9 := rset9_only (w1.alloc (.cells #[.int .i64 0, .int .i64 r, .int .i64 F', .bool W, .bool X, .bool B] 112)) w.heap.size ⟨⟨0, 0, 0, false⟩, rd + r, ipa / 256, 256 * F' + ipa % 256, W, X⟩
  have O4 := Lib.hid (O2.out.next h9 (by simp))
  clear HH hf0 h9 O2 Z2 G2 S2
  go_wp2
  simp only [rset9] at O4
  refine bodyPost_ret (v := .agg #[.int .i64 0, .int .i64 0, .int .i64 (rd + r), .int .i64 (ipa / 256), .int .u32 0, .int .u32 (256 * F' + ipa % 256), .bool false, .bool W, .bool X]) (by simp [results, Try.results32, go_sem, t0', t1, t2, t3, t4, t5, t6, t7, t8]) rfl ⟨by rw [T.out]; rfl, O4.out.below (Nat.le_refl _) (by simp)⟩
end Ns
end Go.Proofs.Ytdjglmfilhodlaa
