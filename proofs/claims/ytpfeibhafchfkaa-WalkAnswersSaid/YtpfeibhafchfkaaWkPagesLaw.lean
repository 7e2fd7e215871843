/-
  WalkPages: the pages that are told are just those of which a walk for reading has no fault: for every input true, and the input reads as it did; no condition.
-/
import Derived.Test.YtpfeibhafchfkaaWkLookLaw
namespace Go.Proofs.Ytpfeibhafchfkaa
open Go.ChangeShapes Go.WideShapes Go.ChangeAt Go.RowKit Go.Deep
namespace Wk
open Ph En
theorem walk_at (m F n c : Nat) (z : Nat → Int) (root a A acc : Int) (w : World) (hM : Mem w m F n c z) (hA : A = a) (h0 : 0 ≤ a) (h1 : a < 4294967296) :
    Calls Try.prog 13 #[.pointer (some ⟨m, 0, none⟩), .int .i64 root, .int .u32 A, .int .i64 acc] w (HitEnd (walkS n z root a acc) w) := by
  subst hA
  exact walk_any m F n c z root A acc w hM h0 h1
theorem look_ok {n : Nat} {z : Nat → Int} {root : Int} {k : Nat} (hk : k < 4096) : (lookS n z root k).ok = ((walkS n z root (k * 256) 0).f == 0) := by
  unfold lookS
  rw [if_pos (by omega)]
  unfold seenOf
  by_cases h : (walkS n z root (k * 256) 0).f = 0
  · rw [if_pos h, h]
    rfl
  · rw [if_neg h]
    exact (beq_eq_false_iff_ne.2 h).symm
theorem _root_.Go.Proofs.Ytpfeibhafchfkaa.Ph.ReadsI.keptO {w w' : World} {pa : Option Addr} {l : List Nat} (h : ReadsI w pa l) (ho : Only [] w w') : ReadsI w' pa l := fun hl => by
  obtain ⟨b, off, e, hc⟩ := h hl
  exact ⟨b, off, e, fun j hj => (ho.cell (World.block_lt_of_cell? w _ (hc j hj)) (by simp) _).trans (hc j hj)⟩
theorem _root_.Go.Proofs.Ytpfeibhafchfkaa.Ph.Row.keptB {w w' : World} {b N B : Nat} {z : Nat → Int} (h : Row w b N z) (hb : Below B w w') (hlt : b < B) : Row w' b N z :=
  ⟨Nat.lt_of_lt_of_le h.lt hb.size, fun j hj => (hb.cell (p := ⟨b, j, none⟩) hlt).trans (h.cell j hj), fun j hj => (hb.frozen (p := ⟨b, j, none⟩) hlt).trans (h.free j hj), h.b8⟩
theorem _root_.Go.Proofs.Ytpfeibhafchfkaa.Ph.Mem.keptB {w w' : World} {m F n c B : Nat} {z : Nat → Int} (h : Mem w m F n c z) (hb : Below B w w') (hm : m < B) (hF : F < B) : Mem w' m F n c z :=
  ⟨Nat.lt_of_lt_of_le h.lt hb.size, (hb.cell (p := ⟨m, 0, none⟩) hm).trans h.head, h.row.keptB hb hF, h.apart, h.few⟩
end Wk
namespace walkPages
open Ph En Wk
set_option maxRecDepth 100000 in
set_option maxHeartbeats 4000000 in
theorem walk (nf : Int) (pa : Option Addr) (len cap : Nat) (x : Puts) (root : Int) (w : World) (hl : len ≤ maxLen) (hx : PutsIn w.heap.size w pa len x) :
    Calls Try.prog 4 #[.int .i64 nf, .slice pa len cap, .int .i64 root] w fun e w' => e = .returned (.bool true) ∧ Only [] w w' := by
  obtain ⟨i0, hi, hz0, hz1, hz2⟩ := info_parts infoI
  have HX := Lib.hid hx
  clear hx
  go_enter Try.func4, Try.ntmps4
  go_wp2_with fail
  refine (alive_any _).mono ?_
  rintro e w0 ⟨rfl, O0⟩
  go_wp2_with fail
  refine (Wk.great_any nf pa len cap w0 hl).mono ?_
  rintro e w' ⟨rfl, rfl⟩
  cases hg : gr nf len
  case true =>
    clear hg
    go_wp2
    go_ret
    exact ⟨rfl, O0⟩
  obtain ⟨g1, g2, h100⟩ := gr_false hg
  obtain ⟨n, rfl⟩ := Int.eq_ofNat_of_zero_le (show 0 ≤ nf by omega)
  have n1 : 1 ≤ n := by omega
  have n2 : n ≤ 100 := by omega
  clear hg g1 g2
  go_wp2_with fail
  refine (Wk.both_any n pa len cap x w0 n1 n2 h100 ((HX.out.kept O0 (by simp)).mono O0.size)).mono ?_
  rintro e w1 ⟨m, F, c, r, G, rfl, hB, hO, hm, hF, hr, hG⟩
  have M1 := Lib.hid hB.mem
  have O1 := Lib.hid (O0.next hO (by simp))
  clear hB hO hm hF hr hG O0
  generalize zOf n x len = z at *
  go_wp2_with fail
  have ha := Only.alloc [] w1 (.cells #[] 3)
  have I2 : Hid (Ints (w1.alloc (.cells #[] 3)) w1.heap.size (.slice (some ⟨w1.heap.size, 0, none⟩) 0 0) (pagesL n z root 0)) := Lib.hid ⟨World.ownsRow_lit w1 #[] 0 (Nat.le_refl _) (by decide) rfl⟩
  have M2 := Lib.hid (M1.out.kept ha (by simp) (by simp))
  have O2 := Lib.hid (O1.out.next ha (by simp))
  have lm := M1.out.lt
  have lF := M1.out.row.lt
  have lo := O1.out.size
  have ls : w1.heap.size ≤ (w1.alloc (.cells #[] 3)).heap.size := by simp
  clear ha M1 O1
  go_loopw [9, 10] (fun v i wr => ∃ k : Nat, k ≤ 4096 ∧ i = .int .i64 k ∧ Mem wr m F n c z ∧ Ints wr w1.heap.size v (pagesL n z root k) ∧ Only [] w wr ∧ w1.heap.size ≤ wr.heap.size) (fun _ i _ => 4096 - (intOf i).toNat)
  case atStart => exact ⟨0, Nat.zero_le _, rfl, M2.out, I2.out, O2.out, ls⟩
  case round =>
    obtain ⟨k, hk, rfl, hM, hI, hO, hs⟩ := hrel
    have MH := Lib.hid hM
    have IH := Lib.hid hI
    have OH := Lib.hid hO
    clear hM hI hO M2 I2 O2 ls
    by_cases hlt : k < 4096
    · have hki : (k : Int) < 4096 := by omega
      have hds := pagesL_succ n z root k
      rw [look_ok hlt] at hds
      have hdn := pagesL_len n z root k
      obtain ⟨⟨f, rd, F', W, X, B⟩, hT⟩ : ∃ T, walkS n z root (k * 256) 0 = T := ⟨_, rfl⟩
      rw [hT] at hds
      have HT := Lib.hid hT
      clear hT
      have hfd : ∀ w : World, (Instr.field 34 (.agg #[.int .i64 f, .int .i64 rd, .int .i64 F', .bool W, .bool X, .bool B]) 0).run Try.prog w = .ok (.int .i64 f) w := fun _ => by kernel_rfl
      by_cases hf : f = 0
      · subst hf
        rw [if_pos (show ((0 : Int) == 0) = true from rfl)] at hds
        have DS := Lib.hid hds
        clear hds
        go_wp2_with (first
          | (go_at_call 13; refine (walk_at m F n c z root ((k : Int) * 256) _ 0 _ MH.out (by omega) (by omega) (by omega)).mono ?_; rintro e w2 ⟨rfl, b2⟩; rw [HT.out]; simp only [Hit.val]; have M3 := Lib.hid (MH.out.kept (Only.of b2 []) (by simp) (by simp)); have I3 := Lib.hid (ints_kept IH.out (Only.of b2 []) (by simp)); have O3 := Lib.hid (OH.out.next (Only.of b2 []) (by simp)); have C1 := Lib.hid (cells1 w2 (.int .i64 k) 3); have hz2' := Nat.le_trans hs b2.size; clear MH IH OH b2)
          | (at_builtin; go_loud (refine wpList_append_own _ rfl (.tmp 37) (.tmp 39) 43 rfl w1.heap.size 3 i0 (.int .i64 0) 1 8 Try.underlying43 hi hz0 hz1 hz2 rfl (by decide) u9 (pagesL n z root k).length (ints (pagesL n z root k)) rfl (I3.out.own.alloc _) ⟨w2.heap.size, 0, none⟩ 1 1 [.int .i64 k] rfl rfl C1.out (by simp [Value.oneCell']) (by unfold maxLen; omega) (by omega) (by simp; omega) ?_; intro v' w3 hown hgrow hnil; have OW := Lib.hid hown; have GR := Lib.hid hgrow; clear hown hgrow hnil)))
        have ob := Lib.hid (fun j (hj : u9.ownBlock = some j) => (I3.out.own.lt j hj).1)
        have bl : Below w1.heap.size w2 w3 := ((Below.mono (Below.refl w2.heap.size w2) hz2').alloc hz2' _).grown GR.out (by simp; omega) ob.out
        go_roundw
        case rel =>
          refine ⟨k + 1, by omega, by go_num, M3.out.keptB bl lm lF, ⟨?_⟩, Only.of ((O3.out.below (Nat.le_refl _) (by simp)).trans (bl.mono lo)) [], Nat.le_trans hz2' bl.size⟩
          rw [DS.out, List.length_append, ints_append]
          exact OW.out
        case measure => simp [intOf]; omega
      · have d : (f == 0) = false := by simpa using hf
        rw [if_neg (by rw [d]; decide), List.append_nil] at hds
        have DS := Lib.hid hds
        clear hds hf
        go_wp2_with (go_at_call 13; refine (walk_at m F n c z root ((k : Int) * 256) _ 0 _ MH.out (by omega) (by omega) (by omega)).mono ?_; rintro e w2 ⟨rfl, b2⟩; rw [HT.out]; simp only [Hit.val]; have M3 := Lib.hid (MH.out.kept (Only.of b2 []) (by simp) (by simp)); have I3 := Lib.hid (ints_kept IH.out (Only.of b2 []) (by simp)); have O3 := Lib.hid (OH.out.next (Only.of b2 []) (by simp)); have hz2' := Nat.le_trans hs b2.size; clear MH IH OH b2)
        go_roundw
        case rel => exact ⟨k + 1, by omega, by go_num, M3.out, by rw [DS.out]; exact I3.out, O3.out, hz2'⟩
        case measure => simp [intOf]; omega
    · have e : k = 4096 := by omega
      subst e
      obtain ⟨pb, cb, rfl, hR⟩ := IH.out.reads
      have OR := Lib.hid hR
      clear hR IH
      go_wp2_with fail
      refine (pages_any m F n c z root wr MH.out).mono ?_
      rintro e w5 ⟨pc, cc, rfl, hR, hO⟩
      have R1 := Lib.hid hR
      have R2 : Hid (ReadsI w5 pb (pagesL n z root 4096)) := Lib.hid (OR.out.keptO hO)
      have O5 := Lib.hid (OH.out.next hO (by simp))
      clear hR hO OR OH
      have hpl := pagesL_len n z root 4096
      go_wp2_with fail
      refine (ints_same pc pb _ cc cb (pagesL n z root 4096) w5 rfl (by omega) R1.out R2.out).mono ?_
      rintro e w' ⟨rfl, t, rfl⟩
      go_wp2
      go_ret
      exact ⟨rfl, O5.out.next (Only.drewN [] _ t) (by simp)⟩
set_option maxRecDepth 100000 in
theorem lifted (os : Os) (started : os.Started) (H : Type) (enc : TypeId × Value → H) :
    ReturnsInHanded {} Try.checked os 4 .any (Rows.walkPagesSpec.pre6 enc Try.prog Try.f4 Rows.walkPagesRow.domain false) (Rows.walkPagesSpec.post enc Try.prog Try.f4 false true false false) := by
  refine returnsInHanded_of_change_sized (C := Try.checked) own started (by kernel_rfl) Try.func4
    (ChangeSpec.witness6 (enc := enc) (C := Try.checked) false ⟨#[], #[.int .i64 0, .slice none 0 0, .int .i64 0], []⟩ 8 (by kernel_rfl) (by kernel_rfl) (by kernel_rfl) (by kernel_rfl)) ?_
  intro W base args ds gs before hval0 hW hcnd hZ0 _
  have hval : ∀ (j : Nat) t v, Try.f4.params[j]? = some t → args[j]? = some v → Value.okWide Try.prog W .any base t v := hval0
  have hZ : ∀ n ∈ DataW.weightsEach Try.prog (Try.f4.params.toList ++ []) (ds ++ gs), n ≤ reachBytes := fun n hn => of_decide_eq_true (List.all_eq_true.1 hZ0 n hn)
  have hW' := hW
  obtain ⟨p, q, hA0, hV, rfl, hfz, hnd⟩ := hW
  have hA : DataW.TrodAll enc Try.prog W 0 (fun _ => true) true Try.f4.params.toList args.toList ds p := hA0
  rw [Try.params4] at hA hval hZ
  obtain ⟨v0, vs0, d0, ds0, p0, q0, hargs, rfl, rfl, h0, r0⟩ := trodAll_cons hA
  obtain ⟨v1, vs1, d1, ds1, p1, q1, rfl, rfl, rfl, h1, r1⟩ := trodAll_cons r0
  obtain ⟨v2, vs2, d2, ds2, p2, q2, rfl, rfl, rfl, h2, r2⟩ := trodAll_cons r1
  obtain ⟨rfl, rfl, rfl⟩ := trodAll_nil r2
  obtain rfl : args = #[v0, v1, v2] := by cases args; simp_all
  obtain ⟨rfl, rfl⟩ := trodVars_none hV
  obtain ⟨x0, rfl, rfl, rfl, w0⟩ := open_int Try.underlying3 (hval 0 3 v0 rfl rfl) h0
  have k1 := h1
  have hz1 : ∀ n ∈ d1.weights Try.prog 22, n ≤ reachBytes := fun n hn => hZ n (by simp only [List.append_nil, DataW.weightsEach, List.mem_append]; exact Or.inr (Or.inl hn))
  obtain ⟨a1, n1, c1, y1, rfl, m1, lt1, z1⟩ := puts_open (hval 1 22 v1 rfl rfl) h1 hz1
  obtain ⟨x2, rfl, rfl, rfl, w2⟩ := open_int Try.underlying3 (hval 2 3 v2 rfl rfl) h2
  clear hA0 hval0 hZ0
  refine (walk x0 a1 n1 c1 y1 x2 W m1 z1).mono fun e W' ⟨he, ho⟩ => ?_
  subst he
  have bel : Below W.heap.size W W' := ho.below (Nat.le_refl _) (by simp)
  exact ⟨_, rfl, _, _, _, [], _, [], hW', trodAll_mk1 (shut_bool Try.underlying4 _), (trodAll_cons_mk (shut_int Try.underlying3 w0) (trodAll_cons_mk (Below.trod laidOut (by kernel_rfl) (of_decide_eq_true (by kernel_rfl)) k1 bel lt1) (trodAll_cons_mk (shut_int Try.underlying3 w2) trodAll_mk0))), rfl, bel.frame _, fun h => by cases h⟩
theorem over : Rows.walkPagesRow.holds Try.pinned (OpenSpec.ofChange Rows.walkPagesSpec) :=
  OpenClaim.holds_of_wide 4 Try.f4 rfl rfl rfl rfl rfl rfl rfl ⟨rfl, rfl, rfl, rfl, rfl⟩ rfl rfl rfl rfl rfl (by kernel_rfl) Try.func4 (by kernel_rfl)
    (of_decide_eq_true (by kernel_rfl)) (by unfold Func.isWrapper; first | (rw [if_pos (by decide +kernel)]; kernel_rfl) | (rw [if_neg (by decide +kernel)]; exact ⟨rfl, rfl⟩))
    (fun os started H enc _ => lifted os started H enc)
end walkPages
/-- The statement. -/
theorem walkPages_holds : Rows.WalkPagesSaid := walkPages.over
#print axioms walkPages_holds
end Go.Proofs.Ytpfeibhafchfkaa
