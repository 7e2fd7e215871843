/-
  What nest's Translate, Fetch and Ipa answer, at every argument. Conditions: that a memory lies there, and that each argument is of its Go type.
-/
import Derived.Test.YtdjglmfilhodlaaNsRun
import Derived.Tactics
import Derived.Tactics2
import Derived.Defers
import Derived.Recover
import Derived.Laws.Pointers
namespace Go.Proofs.Ytdjglmfilhodlaa
open Go.RowKit Nt
namespace Ns
open Ph En Wk
set_option maxRecDepth 100000 in
/-- The deferred closure where run has panicked: the fault is told. -/
theorem catch_panicking (cb tb' m : Nat) (tb va rd : Int) (f : Flt) (older : List PanicEntry) (w : World) (hC : Crs w cb m tb va rd) (hN : Nine w tb' t0) (hF : Free w tb') :
    CallsD Try.prog 29 #[.pointer (some ⟨cb, 0, none⟩), .pointer (some ⟨tb', 0, none⟩)] (.panicking ({ v := .iface 36 f.val, recovered := false } :: older)) w fun e u' w' =>
      e = .returned (.tuple #[]) ∧ u' = .panicking ({ v := .iface 36 f.val, recovered := true } :: older) ∧ Only [tb'] w w' ∧ Nine w' tb' ⟨f, rd, 0, 0, false, false⟩ := by
  refine callsD_of_wpS Try.func29 rfl fun c₀ cs hu => ?_
  obtain ⟨st, kd, ad, tbl⟩ := f
  have ha := Only.alloc [] w (.cells #[.int .i64 st, .int .i64 kd, .int .u32 ad, .bool tbl] 36)
  have HZ := Lib.hid (hN.keptS ha (by simp))
  have c3 := (hC.kept ha (by simp)).c3
  have hF' := hF.keptO ha (by simp)
  obtain ⟨t0, t1, t2, t3, t4, t5, t6, t7, t8⟩ := HZ.out
  simp only [Ns.t0] at t0 t1 t2 t3 t4 t5 t6 t7 t8
  have g0 := hF'.2 0
  have g1 := hF'.2 1
  have g2 := hF'.2 2
  have g3 := hF'.2 3
  have g4 := hF'.2 4
  have g5 := hF'.2 5
  have g6 := hF'.2 6
  have g7 := hF'.2 7
  have g8 := hF'.2 8
  have HA := Lib.hid ha
  clear ha hF' hF hN hC
  have ta : ∀ w, (Instr.typeAssert (.iface 36 (.agg #[.int .i64 st, .int .i64 kd, .int .u32 ad, .bool tbl])) 20 36 true).run Try.prog w = .ok (.tuple #[.agg #[.int .i64 st, .int .i64 kd, .int .u32 ad, .bool tbl], .bool true]) w := fun _ => by kernel_rfl
  have tm : #[Value.pointer (some ⟨cb, 0, none⟩), Value.pointer (some ⟨tb', 0, none⟩)] ++ Array.replicate (Try.f29.ntmps - #[Value.pointer (some ⟨cb, 0, none⟩), Value.pointer (some ⟨tb', 0, none⟩)].size) undef = #[Value.pointer (some ⟨cb, 0, none⟩), Value.pointer (some ⟨tb', 0, none⟩), undef, undef, undef, undef, undef, undef, undef, undef, undef, undef, undef, undef, undef, undef, undef, undef, undef] := by kernel_rfl
  rw [tm]
  clear tm
  apply wpS_seq
  apply wpS_region
  simp [wpOpsS, go_sem, recoverD, hu, Exit.thenS, Flt.val]
  refine wpS_of_wp ?_
  go_wp2
  simp only [bodyPostS]
  have hr : ∀ tm w, (results Try.f29 tm).run Try.prog w = .ok (.tuple #[]) w := fun tm w => by simp [results, Try.results29, go_sem]
  have h8 := (HA.out.mono (S' := [tb']) (by simp)).trans (set9_only (w.alloc (.cells #[.int .i64 st, .int .i64 kd, .int .u32 ad, .bool tbl] 36)) tb' ⟨⟨st, kd, ad, tbl⟩, rd, 0, 0, false, false⟩)
  have n8 := set9_nine (t' := ⟨⟨st, kd, ad, tbl⟩, rd, 0, 0, false, false⟩) HZ.out
  simp only [set9] at h8 n8
  refine And.intro True.intro ?_
  refine ⟨_, rfl, .tuple #[], hr _ _, rfl, rfl, h8, n8⟩
set_option maxRecDepth 100000 in
/-- The deferred closure where run has returned: nothing is told anew. -/
theorem catch_idle (cb tb' : Nat) (w : World) :
    CallsD Try.prog 29 #[.pointer (some ⟨cb, 0, none⟩), .pointer (some ⟨tb', 0, none⟩)] .returning w fun e u' w' =>
      e = .returned (.tuple #[]) ∧ u' = .returning ∧ Only [] w w' := by
  refine callsD_of_wpS Try.func29 rfl fun c₀ cs hu => ?_
  have ta : ∀ w, (Instr.typeAssert .nilIface 20 36 true).run Try.prog w = .ok (.tuple #[.agg #[.int .i64 0, .int .i64 0, .int .u32 0, .bool false], .bool false]) w := fun _ => by kernel_rfl
  have tm : #[Value.pointer (some ⟨cb, 0, none⟩), Value.pointer (some ⟨tb', 0, none⟩)] ++ Array.replicate (Try.f29.ntmps - #[Value.pointer (some ⟨cb, 0, none⟩), Value.pointer (some ⟨tb', 0, none⟩)].size) undef = #[Value.pointer (some ⟨cb, 0, none⟩), Value.pointer (some ⟨tb', 0, none⟩), undef, undef, undef, undef, undef, undef, undef, undef, undef, undef, undef, undef, undef, undef, undef, undef, undef] := by kernel_rfl
  rw [tm]
  clear tm
  apply wpS_seq
  apply wpS_region
  simp [wpOpsS, go_sem, recoverD, hu, Exit.thenS]
  refine wpS_of_wp ?_
  go_wp2
  have hr : ∀ tm w, (results Try.f29 tm).run Try.prog w = .ok (.tuple #[]) w := fun tm w => by simp [results, Try.results29, go_sem]
  have h8 := Only.alloc [] w (.cells #[.int .i64 0, .int .i64 0, .int .u32 0, .bool false] 36)
  simp only [bodyPostS]
  refine And.intro True.intro ?_
  refine ⟨.returning, by cases c₀; simp_all, .tuple #[], hr _ _, rfl, rfl, h8⟩
theorem crs_new (w : World) (m : Nat) (tb va rd : Int) (t : TypeId) : Crs (w.alloc (.cells #[.pointer (some ⟨m, 0, none⟩), .int .i64 tb, .int .u32 va, .int .i64 rd] t)) w.heap.size m tb va rd := by
  constructor <;> simp
/-- How Translate ends. -/
def TransEnd (t : Tld) (w : World) (e : Ending) (w' : World) : Prop := e = .returned t.val ∧ Below w.heap.size w w'
set_option maxRecDepth 100000 in
set_option maxHeartbeats 2000000 in
theorem trans_any (m F n c : Nat) (z : Nat → Int) (root tb va acc : Int) (w : World) (hM : Mem w m F n c z) (h0 : 0 ≤ va) (h1 : va < 4294967296) (k0 : 0 ≤ root) (k1 : root < 4294967296) :
    Calls Try.prog 13 #[.pointer (some ⟨m, 0, none⟩), .int .u32 root, .int .i64 tb, .int .u32 va, .int .i64 acc] w (TransEnd (transS n z root tb va acc) w) := by
  have hmf : ∀ (fn : Fn) (first cap : Array Value) (w : World), (Instr.makeFunc fn first cap).run Try.prog w = .ok (.func fn first cap) w := fun _ _ _ _ => rfl
  have ha := Only.alloc [] w (.cells #[.int .i64 0, .int .i64 0, .int .u32 0, .bool false, .int .i64 0, .int .i64 0, .int .u32 0, .bool false, .bool false] 38)
  have hb := Only.alloc [] (w.alloc (.cells #[.int .i64 0, .int .i64 0, .int .u32 0, .bool false, .int .i64 0, .int .i64 0, .int .u32 0, .bool false, .bool false] 38)) (.cells #[.pointer (some ⟨m, 0, none⟩), .int .i64 tb, .int .u32 va, .int .i64 0] 78)
  have M0 := Lib.hid ((hM.kept ha (by simp) (by simp)).kept hb (by simp) (by simp))
  have O0 := Lib.hid (ha.next hb (by simp))
  have Z0 := Lib.hid ((nine_new w t0 38).keptS hb (by simp))
  have G0 := Lib.hid ((free_new w #[.int .i64 0, .int .i64 0, .int .u32 0, .bool false, .int .i64 0, .int .i64 0, .int .u32 0, .bool false, .bool false] 38).keptO hb (by simp))
  have C0 := Lib.hid (show Crs ((w.alloc (.cells #[.int .i64 0, .int .i64 0, .int .u32 0, .bool false, .int .i64 0, .int .i64 0, .int .u32 0, .bool false, .bool false] 38)).alloc (.cells #[.pointer (some ⟨m, 0, none⟩), .int .i64 tb, .int .u32 va, .int .i64 0] 78)) (w.heap.size + 1) m tb va 0 from by have h := crs_new (w.alloc (.cells #[.int .i64 0, .int .i64 0, .int .u32 0, .bool false, .int .i64 0, .int .i64 0, .int .u32 0, .bool false, .bool false] 38)) m tb va 0 78; simpa using h)
  have hx := hM.lt
  have hy := hM.row.lt
  clear ha hb hM
  go_enter_defers Try.func13, Try.ntmps13
  go_wp2_with fail
  generalize (w.alloc (.cells #[.int .i64 0, .int .i64 0, .int .u32 0, .bool false, .int .i64 0, .int .i64 0, .int .u32 0, .bool false, .bool false] 38)).alloc (.cells #[.pointer (some ⟨m, 0, none⟩), .int .i64 tb, .int .u32 va, .int .i64 0] 78) = u at *
  refine (run_any m F n c (w.heap.size + 1) z tb va 0 root acc u M0.out C0.out (by omega) (by omega) h0 h1 k0 k1 (by omega) (by omega)).mono ?_
  intro e w1 hE
  have lz : w.heap.size < u.heap.size := G0.out.1
  have results_told : ∀ (tm : Array Value) (w' : World) (t : Tld), tm[10]? = some (.pointer (some ⟨w.heap.size, 0, none⟩)) → Nine w' w.heap.size t → (results Try.f13 tm).run Try.prog w' = .ok t.val w' := fun tm w' t ht hN => by
    obtain ⟨c0, c1, c2, c3, c4, c5, c6, c7, c8⟩ := hN
    simp [results, Try.results13, go_sem, ht, c0, c1, c2, c3, c4, c5, c6, c7, c8, Tld.val]
  cases hR : runS n z tb va root acc 0 with
  | bad r f =>
    have T : transS n z root tb va acc = ⟨f, r, 0, 0, false, false⟩ := by unfold transS; rw [hR]; rfl
    rw [hR] at hE
    obtain ⟨rfl, o1, c1⟩ := hE
    have Z1 := Z0.out.keptS o1 (by simp)
    have G1 := G0.out.keptO o1 (by simp)
    have O1 := O0.out.next o1 (by simp)
    unfold pan
    rw [T]
    refine leaves_cons (f := 29) (args := #[.pointer (some ⟨w.heap.size + 1, 0, none⟩), .pointer (some ⟨w.heap.size, 0, none⟩)]) (by simp) (by simp [go_sem]) ?_
    refine (catch_panicking (w.heap.size + 1) w.heap.size m tb va r f [] w1 c1 Z1 G1).mono ?_
    rintro e u' w2 ⟨rfl, rfl, hO, hN⟩
    have O2 := O1.next hO (by simp)
    exact ⟨_, results_told _ _ _ rfl hN, rfl, O2.below (Nat.le_refl _) (by simp)⟩
  | ok r x =>
    have T : transS n z root tb va acc = fineT r x := by unfold transS; rw [hR]; rfl
    rw [hR] at hE
    obtain ⟨rfl, o1, c1⟩ := hE
    have Z1 := Z0.out.keptS o1 (by simp)
    have G1 := G0.out.keptO o1 (by simp)
    have O1 := Lib.hid (O0.out.next o1 (by simp))
    have TT := Lib.hid T
    obtain ⟨P, A, W, X⟩ := x
    have Z2 := Lib.hid (set9_nine (t' := ⟨⟨0, 0, 0, false⟩, r, P, A, W, X⟩) Z1)
    have h2 := set9_only w1 w.heap.size ⟨⟨0, 0, 0, false⟩, r, P, A, W, X⟩
    have O2 := Lib.hid (O1.out.next h2 (by simp))
    obtain ⟨t0', t1, t2, t3, t4, t5, t6, t7, t8⟩ := Z1
    simp only [Ns.t0] at t0' t1 t2 t3 t4 t5 t6 t7 t8
    have g0 := G1.2 0
    have g1 := G1.2 1
    have g2 := G1.2 2
    have g3 := G1.2 3
    have g4 := G1.2 4
    have g5 := G1.2 5
    have g6 := G1.2 6
    have g7 := G1.2 7
    have g8 := G1.2 8
    have RT := Lib.hid results_told
    clear o1 c1 M0 O0 Z0 G0 C0 O1 h2 hR T results_told G1
    simp only [fineT, Tld.val]
    go_wp2
    refine leaves_cons (f := 29) (args := #[.pointer (some ⟨w.heap.size + 1, 0, none⟩), .pointer (some ⟨w.heap.size, 0, none⟩)]) (by simp) (by simp [go_sem]) ?_
    refine (catch_idle (w.heap.size + 1) w.heap.size _).mono ?_
    rintro e u' w2 ⟨rfl, rfl, hO⟩
    clear t0' t1 t2 t3 t4 t5 t6 t7 t8 g0 g1 g2 g3 g4 g5 g6 g7 g8 hmf
    simp only [set9] at Z2 O2
    have Z3 := Z2.out.keptS hO (by simp)
    have O3 := O2.out.next hO (by simp)
    refine ⟨_, RT.out _ _ _ rfl Z3, ?_, O3.below (Nat.le_refl _) (by simp)⟩
    rw [TT.out]
    rfl
theorem trans_at (m F n c : Nat) (z : Nat → Int) (root tb va acc : Int) (t : Tld) (w : World) (hM : Mem w m F n c z) (h0 : 0 ≤ va) (h1 : va < 4294967296) (k0 : 0 ≤ root) (k1 : root < 4294967296) (hT : transS n z root tb va acc = t) :
    Calls Try.prog 13 #[.pointer (some ⟨m, 0, none⟩), .int .u32 root, .int .i64 tb, .int .u32 va, .int .i64 acc] w fun e w' => e = .returned (.agg #[.int .i64 t.f.st, .int .i64 t.f.kd, .int .u32 t.f.ad, .bool t.f.tb, .int .i64 t.r, .int .i64 t.P, .int .u32 t.A, .bool t.W, .bool t.X]) ∧ Below w.heap.size w w' := by
  subst hT
  exact trans_any m F n c z root tb va acc w hM h0 h1 k0 k1
theorem ipa_any (m F n c : Nat) (z : Nat → Int) (tb va acc : Int) (t : Tld) (w : World) (hM : Mem w m F n c z) (h0 : 0 ≤ va) (h1 : va < 4294967296) (hT : transS n z 0 tb va acc = t) :
    Calls Try.prog 15 #[.pointer (some ⟨m, 0, none⟩), .int .i64 tb, .int .u32 va, .int .i64 acc] w fun e w' => e = .returned (.agg #[.int .i64 t.f.st, .int .i64 t.f.kd, .int .u32 t.f.ad, .bool t.f.tb, .int .i64 t.r, .int .i64 t.P, .int .u32 t.A, .bool t.W, .bool t.X]) ∧ Below w.heap.size w w' := by
  have ha := Only.alloc [] w (.cells #[.int .i64 0, .int .i64 0, .int .u32 0, .bool false, .int .i64 0, .int .i64 0, .int .u32 0, .bool false, .bool false] 38)
  have M0 := Lib.hid (hM.kept ha (by simp) (by simp))
  have O0 := Lib.hid ha
  have Z0 := Lib.hid (show Nine (w.alloc (.cells #[.int .i64 0, .int .i64 0, .int .u32 0, .bool false, .int .i64 0, .int .i64 0, .int .u32 0, .bool false, .bool false] 38)) w.heap.size t0 from nine_new w t0 38)
  have G0 := Lib.hid (free_new w #[.int .i64 0, .int .i64 0, .int .u32 0, .bool false, .int .i64 0, .int .i64 0, .int .u32 0, .bool false, .bool false] 38)
  clear ha hM
  go_enter Try.func15, Try.ntmps15
  go_wp2_with fail
  generalize w.alloc (.cells #[.int .i64 0, .int .i64 0, .int .u32 0, .bool false, .int .i64 0, .int .i64 0, .int .u32 0, .bool false, .bool false] 38) = u at *
  refine (trans_at m F n c z 0 tb va acc t u M0.out h0 h1 (by decide) (by decide) hT).mono ?_
  rintro e w1 ⟨rfl, b1⟩
  have Z1 := Z0.out.keptS (Only.of b1 []) (by simp)
  have G1 := G0.out.keptO (Only.of b1 []) (by simp)
  have h2 := set9_only w1 w.heap.size t
  have O2 := Lib.hid ((O0.out.next (Only.of b1 []) (by simp)).next h2 (by simp))
  obtain ⟨t0', t1, t2, t3, t4, t5, t6, t7, t8⟩ := Z1
  simp only [Ns.t0] at t0' t1 t2 t3 t4 t5 t6 t7 t8
  have g0 := G1.2 0
  have g1 := G1.2 1
  have g2 := G1.2 2
  have g3 := G1.2 3
  have g4 := G1.2 4
  have g5 := G1.2 5
  have g6 := G1.2 6
  have g7 := G1.2 7
  have g8 := G1.2 8
  clear M0 O0 Z0 G0 G1 h2 b1 hT
  go_wp2
  simp only [set9] at O2
  refine bodyPost_ret (v := .agg #[.int .i64 t.f.st, .int .i64 t.f.kd, .int .u32 t.f.ad, .bool t.f.tb, .int .i64 t.r, .int .i64 t.P, .int .u32 t.A, .bool t.W, .bool t.X]) (by simp [results, Try.results15, go_sem, t0', t1, t2, t3, t4, t5, t6, t7, t8]) rfl ⟨rfl, O2.out.below (Nat.le_refl _) (by simp)⟩
/-- The word that Fetch answers. -/
def fetchW (n : Nat) (z : Nat → Int) (t : Tld) : Int := if t.f.kd = 0 then rdw n z (t.A - t.A % 4).toNat else 0
set_option maxHeartbeats 2000000 in
theorem fetch_any (m F n c : Nat) (z : Nat → Int) (root tb va : Int) (t : Tld) (w : World) (hM : Mem w m F n c z) (h0 : 0 ≤ va) (h1 : va < 4294967296) (k0 : 0 ≤ root) (k1 : root < 4294967296) (hT : transS n z root tb va 2 = t) (a0 : 0 ≤ t.A) (a1 : t.A < 4294967296) :
    Calls Try.prog 16 #[.pointer (some ⟨m, 0, none⟩), .int .u32 root, .int .i64 tb, .int .u32 va] w fun e w' => e = .returned (.tuple #[.int .u32 (fetchW n z t), .agg #[.int .i64 t.f.st, .int .i64 t.f.kd, .int .u32 t.f.ad, .bool t.f.tb, .int .i64 t.r, .int .i64 t.P, .int .u32 t.A, .bool t.W, .bool t.X]]) ∧ Below w.heap.size w w' := by
  have ha := Only.alloc [] w (.cells #[.int .i64 0, .int .i64 0, .int .u32 0, .bool false, .int .i64 0, .int .i64 0, .int .u32 0, .bool false, .bool false] 38)
  have M0 := Lib.hid (hM.kept ha (by simp) (by simp))
  have O0 := Lib.hid ha
  have Z0 := Lib.hid (show Nine (w.alloc (.cells #[.int .i64 0, .int .i64 0, .int .u32 0, .bool false, .int .i64 0, .int .i64 0, .int .u32 0, .bool false, .bool false] 38)) w.heap.size t0 from nine_new w t0 38)
  have G0 := Lib.hid (free_new w #[.int .i64 0, .int .i64 0, .int .u32 0, .bool false, .int .i64 0, .int .i64 0, .int .u32 0, .bool false, .bool false] 38)
  clear ha hM
  go_enter Try.func16, Try.ntmps16
  go_wp2_with fail
  generalize w.alloc (.cells #[.int .i64 0, .int .i64 0, .int .u32 0, .bool false, .int .i64 0, .int .i64 0, .int .u32 0, .bool false, .bool false] 38) = u at *
  refine (trans_at m F n c z root tb va 2 t u M0.out h0 h1 k0 k1 hT).mono ?_
  rintro e w1 ⟨rfl, b1⟩
  have o1 := Only.of b1 []
  have lz : w.heap.size < u.heap.size := G0.out.1
  have l1 := b1.size
  have ha := Only.alloc [] w1 (.cells #[.int .i64 t.f.st, .int .i64 t.f.kd, .int .u32 t.f.ad, .bool t.f.tb, .int .i64 t.r, .int .i64 t.P, .int .u32 t.A, .bool t.W, .bool t.X] 38)
  have M2 := Lib.hid ((M0.out.kept o1 (by simp) (by simp)).kept ha (by simp) (by simp))
  have O2 := Lib.hid ((O0.out.next o1 (by simp)).next ha (by simp))
  have Z2 := Lib.hid ((Z0.out.keptS o1 (by simp)).keptS ha (by simp))
  have G2 := Lib.hid ((G0.out.keptO o1 (by simp)).keptO ha (by simp))
  have N2 := Lib.hid (nine_new w1 t 38)
  have n1 := Lib.hid (show w1.heap.size ≠ w.heap.size by omega)
  clear M0 O0 Z0 G0 o1 ha b1 hT
  have d1 := N2.out.c1
  by_cases hk : t.f.kd = 0
  case neg =>
    have T : Hid (fetchW n z t = 0) := Lib.hid (by unfold fetchW; rw [if_neg hk])
    have dk : (t.f.kd != 0) = true := by simpa using hk
    clear hk
    go_wp2_with fail
    generalize w1.alloc (.cells #[.int .i64 t.f.st, .int .i64 t.f.kd, .int .u32 t.f.ad, .bool t.f.tb, .int .i64 t.r, .int .i64 t.P, .int .u32 t.A, .bool t.W, .bool t.X] 38) = w2 at *
    generalize w1.heap.size = b10 at *
    obtain ⟨e0, e1, e2, e3, e4, e5, e6, e7, e8⟩ := N2.out
    obtain ⟨t0', t1, t2, t3, t4, t5, t6, t7, t8⟩ := Z2.out
    simp only [Ns.t0] at t0' t1 t2 t3 t4 t5 t6 t7 t8
    have g0 := G2.out.2 0
    have g1 := G2.out.2 1
    have g2 := G2.out.2 2
    have g3 := G2.out.2 3
    have g4 := G2.out.2 4
    have g5 := G2.out.2 5
    have g6 := G2.out.2 6
    have g7 := G2.out.2 7
    have g8 := G2.out.2 8
    go_region
    have h9 := (set9_only w2 w.heap.size t).trans (Only.drewN [w.heap.size] _ 1)
    have O3 := Lib.hid (O2.out.next h9 (by simp))
    have Z3 := (set9_nine (t' := t) Z2.out).keptS (Only.drewN [] _ 1) (by simp)
    clear t0' t1 t2 t3 t4 t5 t6 t7 t8 g0 g1 g2 g3 g4 g5 g6 g7 g8 e0 e1 e2 e3 e4 e5 e6 e7 e8 h9 O2 Z2 G2 N2 n1
    show Exit.then _ _ Exit.normal _ ((set9 w2 w.heap.size t).drewN 1)
    generalize (set9 w2 w.heap.size t).drewN 1 = w8 at *
    obtain ⟨t0', t1, t2, t3, t4, t5, t6, t7, t8⟩ := Z3
    go_wp2
    refine bodyPost_ret (v := .tuple #[.int .u32 0, .agg #[.int .i64 t.f.st, .int .i64 t.f.kd, .int .u32 t.f.ad, .bool t.f.tb, .int .i64 t.r, .int .i64 t.P, .int .u32 t.A, .bool t.W, .bool t.X]]) (by simp [results, Try.results16, go_sem, t0', t1, t2, t3, t4, t5, t6, t7, t8]) rfl ⟨by rw [T.out], O3.out.below (Nat.le_refl _) (by simp)⟩
  have T : Hid (fetchW n z t = rdw n z (t.A - t.A % 4).toNat) := Lib.hid (by unfold fetchW; rw [if_pos hk])
  have d6 := N2.out.c6
  have dk : (t.f.kd != 0) = false := by simpa using hk
  have z1 : IntKind.u32.wrap (t.A - t.A % 4) = t.A - t.A % 4 := IntWalk.u32_in _ (by omega)
  have z2 : IntKind.u32.wrap (t.A % 4) = t.A % 4 := IntWalk.u32_in _ (by omega)
  have z3 : Int.tmod t.A 4 = t.A % 4 := Int.tmod_eq_emod_of_nonneg a0
  have e1 := Lib.hid (show t.A - t.A % 4 = ((t.A - t.A % 4).toNat : Nat) by omega)
  have e2 := Lib.hid (show (t.A - t.A % 4).toNat < 4294967296 by omega)
  clear hk
  go_wp2_with fail
  clear d1 d6
  generalize w1.alloc (.cells #[.int .i64 t.f.st, .int .i64 t.f.kd, .int .u32 t.f.ad, .bool t.f.tb, .int .i64 t.r, .int .i64 t.P, .int .u32 t.A, .bool t.W, .bool t.X] 38) = w2 at *
  generalize w1.heap.size = b10 at *
  refine (word_at m F n c (t.A - t.A % 4).toNat _ z w2 M2.out e1.out e2.out).mono ?_
  rintro e w3 ⟨rfl, k3, rfl⟩
  have ho := Only.drewN [] w2 k3
  have O3 := Lib.hid (O2.out.next ho (by simp))
  have Z3 := Lib.hid (Z2.out.keptS ho (by simp))
  have G3 := Lib.hid (G2.out.keptO ho (by simp))
  have N3 := Lib.hid (N2.out.keptS ho (by simp))
  clear M2 O2 Z2 G2 N2 ho e1 e2 z1 z2 z3
  obtain ⟨v, hv⟩ : ∃ v, v = rdw n z (t.A - t.A % 4).toNat := ⟨_, rfl⟩
  rw [← hv] at T ⊢
  generalize w2.drewN k3 = w3 at *
  clear hv
  go_wp2_with fail
  obtain ⟨e0, e1, e2, e3, e4, e5, e6, e7, e8⟩ := N3.out
  obtain ⟨t0', t1, t2, t3, t4, t5, t6, t7, t8⟩ := Z3.out
  simp only [Ns.t0] at t0' t1 t2 t3 t4 t5 t6 t7 t8
  have g0 := G3.out.2 0
  have g1 := G3.out.2 1
  have g2 := G3.out.2 2
  have g3 := G3.out.2 3
  have g4 := G3.out.2 4
  have g5 := G3.out.2 5
  have g6 := G3.out.2 6
  have g7 := G3.out.2 7
  have g8 := G3.out.2 8
  go_region
  have h9 := (set9_only w3 w.heap.size t).trans (Only.drewN [w.heap.size] _ 1)
  have O4 := Lib.hid (O3.out.next h9 (by simp))
  have Z4 := (set9_nine (t' := t) Z3.out).keptS (Only.drewN [] _ 1) (by simp)
  clear t0' t1 t2 t3 t4 t5 t6 t7 t8 g0 g1 g2 g3 g4 g5 g6 g7 g8 e0 e1 e2 e3 e4 e5 e6 e7 e8 h9 O3 Z3 G3 N3 n1
  show Exit.then _ _ Exit.normal _ ((set9 w3 w.heap.size t).drewN 1)
  generalize (set9 w3 w.heap.size t).drewN 1 = w8 at *
  obtain ⟨t0', t1, t2, t3, t4, t5, t6, t7, t8⟩ := Z4
  go_wp2
  refine bodyPost_ret (v := .tuple #[.int .u32 v, .agg #[.int .i64 t.f.st, .int .i64 t.f.kd, .int .u32 t.f.ad, .bool t.f.tb, .int .i64 t.r, .int .i64 t.P, .int .u32 t.A, .bool t.W, .bool t.X]]) (by simp [results, Try.results16, go_sem, t0', t1, t2, t3, t4, t5, t6, t7, t8]) rfl ⟨by rw [T.out], O4.out.below (Nat.le_refl _) (by simp)⟩
end Ns
end Go.Proofs.Ytdjglmfilhodlaa
