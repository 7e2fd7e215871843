/-
  WalkAnswers: every Walk and Look answers what the document says; nothing is changed: for every input true, and the input reads as it did; no condition.
-/
import Derived.Test.YtpfeibhafchfkaaWkApart
namespace Go.Proofs.Ytpfeibhafchfkaa
open Go.ChangeShapes Go.WideShapes Go.ChangeAt Go.RowKit Go.Deep
namespace Wk
open Ph En
theorem dl_self (z : Nat → Int) (n : Nat) : dl z z n = [] := by
  unfold dl
  rw [List.filter_eq_nil_iff]
  intro k _
  simp [eqN]
theorem look_walk {n : Nat} {z : Nat → Int} {root a : Int} (a0 : 0 ≤ a) : lookS n z root (a / 256) = seenOf (walkS n z root a 0) := by
  unfold lookS
  by_cases h : a < 1048576
  · rw [if_pos (by omega)]
    unfold walkS
    rw [tellS_congr (show a / 256 * 256 / 256 = a / 256 by omega)]
  · rw [if_neg (by omega)]
    unfold walkS
    rw [tell_addr (by omega), hit_fault (by decide)]
    rfl
end Wk
namespace walkAnswers
open Ph En Wk
set_option maxRecDepth 100000 in
set_option maxHeartbeats 8000000 in
theorem walk (nf : Int) (pa : Option Addr) (len cap : Nat) (x : Puts) (root : Int) (pb : Option Addr) (lo cb : Nat) (y : Nat → Nat) (acc : Int) (w : World) (hl : len ≤ maxLen) (hx : PutsIn w.heap.size w pa len x) (hlo : lo ≤ maxLen) (hy : WordsIn w.heap.size w pb lo y) :
    Calls Try.prog 3 #[.int .i64 nf, .slice pa len cap, .int .i64 root, .slice pb lo cb, .int .i64 acc] w fun e w' => e = .returned (.bool true) ∧ Only [] w w' := by
  have HX := Lib.hid hx
  have HY := Lib.hid hy
  unfold maxLen at hlo
  clear hx hy
  go_enter Try.func3, Try.ntmps3
  go_wp2_with fail
  refine (alive_any _).mono ?_
  rintro e w0 ⟨rfl, O0⟩
  go_wp2_with fail
  refine (Wk.great_any nf pa len cap w0 hl).mono ?_
  rintro e w' ⟨rfl, rfl⟩
  cases hg : gr nf len
  case true =>
    clear hg
    go_wp2
    go_ret
    exact ⟨rfl, O0⟩
  obtain ⟨g1, g2, h100⟩ := gr_false hg
  obtain ⟨n, rfl⟩ := Int.eq_ofNat_of_zero_le (show 0 ≤ nf by omega)
  have n1 : 1 ≤ n := by omega
  have n2 : n ≤ 100 := by omega
  by_cases b1 : 60 < lo
  · have d1 : decide ((60 : Int) < (lo : Int)) = true := by simp; omega
    clear hg g1 g2
    go_wp2
    go_ret
    exact ⟨rfl, O0⟩
  have d1 : decide ((60 : Int) < (lo : Int)) = false := by simp; omega
  have lo60 : lo ≤ 60 := by omega
  clear hg g1 g2 b1
  go_wp2_with fail
  refine (Wk.both_any n pa len cap x w0 n1 n2 h100 ((HX.out.kept O0 (by simp)).mono O0.size)).mono ?_
  rintro e w1 ⟨m, F, c, r, G, rfl, hB, hO, hm, hF, hr, hG⟩
  have B1 := Lib.hid hB
  have O1 := Lib.hid (O0.next hO (by simp))
  clear hB hO hm hF hr hG O0
  generalize zOf n x len = z at *
  go_wp2_with fail
  refine (clone_any m F n c z w1 B1.out.mem n1).mono ?_
  rintro e w2 ⟨dd, D, cd, rfl, hM, hO, hd, hD⟩
  have N2 := Lib.hid hM
  have B2 := Lib.hid (B1.out.kept hO (by simp) (by simp) (by simp) (by simp))
  have O2 := Lib.hid (O1.out.next hO (by simp))
  clear hM hO hd hD B1 O1
  go_wp2_with fail
  go_loopw [14] (fun i wr => ∃ k : Nat, k ≤ lo ∧ i = .int .i64 k ∧ Ph.Both wr m F n c r G z ∧ Mem wr dd D n cd z ∧ Only [] w wr) (fun i _ => lo - (intOf i).toNat)
  case atStart => exact ⟨0, by omega, rfl, B2.out, N2.out, O2.out⟩
  case round =>
    obtain ⟨k, hk, rfl, hB, hN, hO⟩ := hrel
    have BH := Lib.hid hB
    have NH := Lib.hid hN
    have OH := Lib.hid hO
    clear hB hN hO B2 N2 O2
    by_cases hlt : k < lo
    · obtain ⟨b, off, epa, hbB, hcc⟩ := HY.out.1 (by omega)
      subst epa
      have y1 := HY.out.2 k hlt
      have c0 := (OH.out.cell (World.block_lt_of_cell? w _ (hcc k hlt)) (by simp) _).trans (hcc k hlt)
      obtain ⟨a, ha⟩ : ∃ a : Int, a = y k := ⟨_, rfl⟩
      have a0 : 0 ≤ a := by omega
      have a1 : a < 4294967296 := by omega
      rw [← ha] at c0
      have hki : (k : Int) < lo := by omega
      clear hcc ha y1
      obtain ⟨⟨f, rd, F', W, X, B⟩, hT⟩ : ∃ T, walkS n z root a acc = T := ⟨_, rfl⟩
      have HT := Lib.hid hT
      clear hT
      have VW : Hid (∀ d os, Calls Try.prog 13 #[.pointer (some ⟨m, 0, none⟩), .int .i64 root, .int .u32 a, .int .i64 acc] (Go.Sort.grow (redrawn wr d) os) fun e w' => e = .returned (.agg #[.int .i64 f, .int .i64 rd, .int .i64 F', .bool W, .bool X, .bool B]) ∧ Below (Go.Sort.grow (redrawn wr d) os).heap.size (Go.Sort.grow (redrawn wr d) os) w') := Lib.hid fun d os => by
        have h := walk_any m F n c z root a acc (Go.Sort.grow (redrawn wr d) os) (BH.out.mem.kept (Only.of (below_regrown wr d os) []) (by simp) (by simp)) a0 a1
        rw [HT.out] at h
        exact h
      have VR : Hid (∀ d os, Calls Try.prog 14 #[.pointer (some ⟨r, 0, none⟩), .int .i64 root, .int .u32 a, .int .i64 acc] (Go.Sort.grow (redrawn wr d) os) fun e w' => e = .returned (.agg #[.int .i64 f, .int .i64 rd, .int .i64 F', .bool W, .bool X, .bool B]) ∧ Below (Go.Sort.grow (redrawn wr d) os).heap.size (Go.Sort.grow (redrawn wr d) os) w') := Lib.hid fun d os => by
        have h := rwalk_any r G n z root a acc (Go.Sort.grow (redrawn wr d) os) (BH.out.ref.kept (Only.of (below_regrown wr d os) []) (by simp) (by simp)) a0 a1
        rw [HT.out] at h
        exact h
      have q := fun w => eqRHit f rd F' W X B w
      go_wp2_with fail
      have r0 := cell_regrown c0
      refine wp_region_quiet_below (by kernel_rfl) (by kernel_rfl) ?_
      repeat (quiet_step (first | (go_at_call 13; exact Calls.regrown_of (VW.out _ _)) | (go_at_call 12; exact Calls.regrown_of (of_any f rd F' W X B _)) | (go_at_call 14; exact Calls.regrown_of (VR.out _ _))))
      refine wpQuiet_nil ?_
      intro _ hw'
      obtain ⟨⟨dq, osq⟩, hw''⟩ := hw'
      subst hw''
      have ho := Only.of (below_regrown wr dq osq) []
      have B3 := Lib.hid (BH.out.kept ho (by simp) (by simp) (by simp) (by simp))
      have N3 := Lib.hid (NH.out.kept ho (by simp) (by simp))
      have O3 := Lib.hid (OH.out.next ho (by simp))
      have c3 : (Go.Sort.grow (redrawn wr dq) osq).cell? ⟨b, off + k, none⟩ = some (.int .u32 a) := (ho.cell (World.block_lt_of_cell? wr _ c0) (by simp) _).trans c0
      clear r0 q VW VR BH NH OH c0 HT ho
      generalize Go.Sort.grow (redrawn wr _) _ = w3 at *
      obtain ⟨⟨f2, rd2, F2, W2, X2, B2⟩, hT⟩ : ∃ T, walkS n z root a 0 = T := ⟨_, rfl⟩
      have HT := Lib.hid hT
      have HL := Lib.hid (show lookS n z root (a / 256) = seenOf ⟨f2, rd2, F2, W2, X2, B2⟩ by rw [look_walk a0, hT])
      clear hT
      go_wp2_with fail
      refine (look_any m F n c z root (a / 256) w3 B3.out.mem).mono ?_
      rintro e w4 ⟨rfl, b4⟩
      rw [HL.out]
      have ho := Only.of b4 []
      have B4 := Lib.hid (B3.out.kept ho (by simp) (by simp) (by simp) (by simp))
      have N4 := Lib.hid (N3.out.kept ho (by simp) (by simp))
      have O4 := Lib.hid (O3.out.next ho (by simp))
      have c4 : w4.cell? ⟨b, off + k, none⟩ = some (.int .u32 a) := (ho.cell (World.block_lt_of_cell? w3 _ c3) (by simp) _).trans c3
      have lb4 : b < w4.heap.size := World.block_lt_of_cell? w4 _ c4
      clear B3 N3 O3 c3 ho b4 HL
      obtain ⟨⟨⟨eV, eW, eX, eB, eF⟩, ok⟩, hs⟩ : ∃ s, seenOf ⟨f2, rd2, F2, W2, X2, B2⟩ = s := ⟨_, rfl⟩
      have HS := Lib.hid hs
      rw [hs]
      simp only [Ent.val]
      clear hs
      go_wp2_with fail
      have ha := Only.alloc [] w4 (.cells #[.bool eV, .bool eW, .bool eX, .bool eB, .int .i64 eF] 40)
      have T5 := Lib.hid (five_new w4 eV eW eX eB eF 40)
      have B5 := Lib.hid (B4.out.kept ha (by simp) (by simp) (by simp) (by simp))
      have N5 := Lib.hid (N4.out.kept ha (by simp) (by simp))
      have O5 := Lib.hid (O4.out.next ha (by simp))
      clear B4 N4 O4 ha c4
      generalize w4.alloc (.cells #[.bool eV, .bool eW, .bool eX, .bool eB, .int .i64 eF] 40) = w5 at *
      refine (rwalk_any r G n z root a 0 w5 B5.out.ref a0 a1).mono ?_
      rintro e w6 ⟨rfl, b6⟩
      rw [HT.out]
      simp only [Hit.val]
      have ho := Only.of b6 []
      have B6 := Lib.hid (B5.out.kept ho (by simp) (by simp) (by simp) (by simp))
      have N6 := Lib.hid (N5.out.kept ho (by simp) (by simp))
      have O6 := Lib.hid (O5.out.next ho (by simp))
      have T6 := Lib.hid (T5.out.kept' b6)
      clear B5 N5 O5 T5 ho b6 HT
      have ha := Only.alloc [] w6 (.cells #[.int .i64 f2, .int .i64 rd2, .int .i64 F2, .bool W2, .bool X2, .bool B2] 32)
      have B7 := Lib.hid (B6.out.kept ha (by simp) (by simp) (by simp) (by simp))
      have N7 := Lib.hid (N6.out.kept ha (by simp) (by simp))
      have O7 := Lib.hid (O6.out.next ha (by simp))
      have l6 : w4.heap.size < w6.heap.size := block_lt_of_cell T6.out.c0
      obtain ⟨t0, t1, t2, t3, t4⟩ := T6.out
      clear B6 N6 O6 T6 ha
      by_cases hf : f2 = 0
      · have hs := HS.out
        unfold seenOf at hs
        rw [if_pos hf] at hs
        injection hs with h1 h2
        injection h1 with z1 z2 z3 z4 z5
        subst hf h2 z1 z2 z3 z4 z5
        clear HS
        go_wp2
        go_roundw
        case rel => exact ⟨k + 1, by omega, by go_num, B7.out, N7.out, O7.out⟩
        case measure => simp [intOf]; omega
      · have hs := HS.out
        unfold seenOf at hs
        rw [if_neg hf] at hs
        injection hs with h1 h2
        unfold e0 at h1
        injection h1 with z1 z2 z3 z4 z5
        subst h2 z1 z2 z3 z4 z5
        have df : (f2 == 0) = false := by simpa using hf
        have q := fun w => eqEnt false false false false false false false false 0 0 w
        clear HS hf
        go_wp2
        go_roundw
        case rel => exact ⟨k + 1, by omega, by go_num, B7.out, N7.out, O7.out⟩
        case measure => simp [intOf]; omega
    · go_wp2_with fail
      refine (differ_any m F n c dd D cd z z wr BH.out.mem NH.out).mono ?_
      rintro e w5 ⟨pc, cc, rfl, hR, hO⟩
      rw [dl_self]
      have O5 := Lib.hid (OH.out.next hO (by simp))
      clear hR hO BH NH OH
      go_wp2
      go_ret
      exact ⟨rfl, O5.out⟩
set_option maxRecDepth 100000 in
theorem lifted (os : Os) (started : os.Started) (H : Type) (enc : TypeId × Value → H) :
    ReturnsInHanded {} Try.checked os 3 .any (Rows.walkAnswersSpec.pre6 enc Try.prog Try.f3 Rows.walkAnswersRow.domain false) (Rows.walkAnswersSpec.post enc Try.prog Try.f3 false true false false) := by
  refine returnsInHanded_of_change_sized (C := Try.checked) own started (by kernel_rfl) Try.func3
    (ChangeSpec.witness6 (enc := enc) (C := Try.checked) false ⟨#[], #[.int .i64 0, .slice none 0 0, .int .i64 0, .slice none 0 0, .int .i64 0], []⟩ 8 (by kernel_rfl) (by kernel_rfl) (by kernel_rfl) (by kernel_rfl)) ?_
  intro W base args ds gs before hval0 hW hcnd hZ0 _
  have hval : ∀ (j : Nat) t v, Try.f3.params[j]? = some t → args[j]? = some v → Value.okWide Try.prog W .any base t v := hval0
  have hZ : ∀ n ∈ DataW.weightsEach Try.prog (Try.f3.params.toList ++ []) (ds ++ gs), n ≤ reachBytes := fun n hn => of_decide_eq_true (List.all_eq_true.1 hZ0 n hn)
  have hW' := hW
  obtain ⟨p, q, hA0, hV, rfl, hfz, hnd⟩ := hW
  have hA : DataW.TrodAll enc Try.prog W 0 (fun _ => true) true Try.f3.params.toList args.toList ds p := hA0
  rw [Try.params3] at hA hval hZ
  obtain ⟨v0, vs0, d0, ds0, p0, q0, hargs, rfl, rfl, h0, r0⟩ := trodAll_cons hA
  obtain ⟨v1, vs1, d1, ds1, p1, q1, rfl, rfl, rfl, h1, r1⟩ := trodAll_cons r0
  obtain ⟨v2, vs2, d2, ds2, p2, q2, rfl, rfl, rfl, h2, r2⟩ := trodAll_cons r1
  obtain ⟨v3, vs3, d3, ds3, p3, q3, rfl, rfl, rfl, h3, r3⟩ := trodAll_cons r2
  obtain ⟨v4, vs4, d4, ds4, p4, q4, rfl, rfl, rfl, h4, r4⟩ := trodAll_cons r3
  obtain ⟨rfl, rfl, rfl⟩ := trodAll_nil r4
  obtain rfl : args = #[v0, v1, v2, v3, v4] := by cases args; simp_all
  obtain ⟨rfl, rfl⟩ := trodVars_none hV
  obtain ⟨x0, rfl, rfl, rfl, w0⟩ := open_int Try.underlying3 (hval 0 3 v0 rfl rfl) h0
  have k1 := h1
  have hz1 : ∀ n ∈ d1.weights Try.prog 22, n ≤ reachBytes := fun n hn => hZ n (by simp only [List.append_nil, DataW.weightsEach, List.mem_append]; exact Or.inr (Or.inl hn))
  obtain ⟨a1, n1, c1, y1, rfl, m1, lt1, z1⟩ := puts_open (hval 1 22 v1 rfl rfl) h1 hz1
  obtain ⟨x2, rfl, rfl, rfl, w2⟩ := open_int Try.underlying3 (hval 2 3 v2 rfl rfl) h2
  have k3 := h3
  have hz3 : ∀ n ∈ d3.weights Try.prog 23, n ≤ reachBytes := fun n hn => hZ n (by simp only [List.append_nil, DataW.weightsEach, List.mem_append]; exact Or.inr (Or.inr (Or.inr (Or.inl hn))))
  obtain ⟨a3, n3, c3, y3, rfl, m3, lt3, z3⟩ := words_open (hval 3 23 v3 rfl rfl) h3 hz3
  obtain ⟨x4, rfl, rfl, rfl, w4⟩ := open_int Try.underlying3 (hval 4 3 v4 rfl rfl) h4
  clear hA0 hval0 hZ0
  refine (walk x0 a1 n1 c1 y1 x2 a3 n3 c3 y3 x4 W m1 z1 m3 z3).mono fun e W' ⟨he, ho⟩ => ?_
  subst he
  have bel : Below W.heap.size W W' := ho.below (Nat.le_refl _) (by simp)
  exact ⟨_, rfl, _, _, _, [], _, [], hW', trodAll_mk1 (shut_bool Try.underlying4 _), (trodAll_cons_mk (shut_int Try.underlying3 w0) (trodAll_cons_mk (Below.trod laidOut (by kernel_rfl) (of_decide_eq_true (by kernel_rfl)) k1 bel lt1) (trodAll_cons_mk (shut_int Try.underlying3 w2) (trodAll_cons_mk (Below.trod laidOut (by kernel_rfl) (of_decide_eq_true (by kernel_rfl)) k3 bel lt3) (trodAll_cons_mk (shut_int Try.underlying3 w4) trodAll_mk0))))), rfl, bel.frame _, fun h => by cases h⟩
theorem over : Rows.walkAnswersRow.holds Try.pinned (OpenSpec.ofChange Rows.walkAnswersSpec) :=
  OpenClaim.holds_of_wide 3 Try.f3 rfl rfl rfl rfl rfl rfl rfl ⟨rfl, rfl, rfl, rfl, rfl⟩ rfl rfl rfl rfl rfl (by kernel_rfl) Try.func3 (by kernel_rfl)
    (of_decide_eq_true (by kernel_rfl)) (by unfold Func.isWrapper; first | (rw [if_pos (by decide +kernel)]; kernel_rfl) | (rw [if_neg (by decide +kernel)]; exact ⟨rfl, rfl⟩))
    (fun os started H enc _ => lifted os started H enc)
end walkAnswers
/-- The statement. -/
theorem walkAnswers_holds : Rows.WalkAnswersSaid := walkAnswers.over
#print axioms walkAnswers_holds
end Go.Proofs.Ytpfeibhafchfkaa
