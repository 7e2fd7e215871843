/-
  WalkLook: what Look tells of a page is what a walk for reading comes to, at each offset: for every input true, and the input reads as it did; no condition.
-/
import Derived.Test.YtpfeibhafchfkaaWkOpen
namespace Go.Proofs.Ytpfeibhafchfkaa
open Go.ChangeShapes Go.WideShapes Go.ChangeAt Go.RowKit Go.Deep
namespace Wk
open Ph En
theorem tellS_congr {n : Nat} {z : Nat → Int} {root a a' : Int} (h : a / 256 = a' / 256) : tellS n z root a = tellS n z root a' := by
  have e1 : a / 16384 % 64 = a' / 16384 % 64 := by omega
  have e3 : (1048576 ≤ a) = (1048576 ≤ a') := by apply propext; omega
  unfold tellS
  rw [e1, h]
  simp only [e3]
theorem walkS_page {n : Nat} {z : Nat → Int} {root p o acc : Int} (h0 : 0 ≤ o) (h1 : o < 256) : walkS n z root (p * 256 + o) acc = walkS n z root (p * 256) acc := by
  unfold walkS
  rw [tellS_congr (show (p * 256 + o) / 256 = p * 256 / 256 by omega)]
end Wk
namespace walkLook
open Ph En Wk
set_option maxRecDepth 100000 in
set_option maxHeartbeats 4000000 in
theorem walk (pa : Option Addr) (len cap : Nat) (x : Puts) (p o : Int) (w : World) (hl : len ≤ maxLen) (hx : PutsIn w.heap.size w pa len x) :
    Calls Try.prog 6 #[.slice pa len cap, .int .i64 p, .int .i64 o] w fun e w' => e = .returned (.bool true) ∧ Only [] w w' := by
  have HX := Lib.hid hx
  clear hx
  go_enter Try.func6, Try.ntmps6
  go_wp2_with fail
  refine (alive_any _).mono ?_
  rintro e w0 ⟨rfl, O0⟩
  go_wp2_with fail
  refine (Wk.great_any 80 pa len cap w0 hl).mono ?_
  rintro e w' ⟨rfl, rfl⟩
  cases hg : gr 80 len
  case true =>
    clear hg
    go_wp2
    go_ret
    exact ⟨rfl, O0⟩
  obtain ⟨_, _, h100⟩ := gr_false hg
  by_cases b1 : p < 0
  · have d1 : decide (p < 0) = true := by simpa using b1
    go_wp2
    go_ret
    exact ⟨rfl, O0⟩
  have d1 : decide (p < 0) = false := by simpa using b1
  by_cases b2 : 4095 < p
  · have d2 : decide (4095 < p) = true := by simpa using b2
    go_wp2
    go_ret
    exact ⟨rfl, O0⟩
  have d2 : decide (4095 < p) = false := by simpa using b2
  by_cases b3 : o < 0
  · have d3 : decide (o < 0) = true := by simpa using b3
    go_wp2
    go_ret
    exact ⟨rfl, O0⟩
  have d3 : decide (o < 0) = false := by simpa using b3
  by_cases b4 : 255 < o
  · have d4 : decide (255 < o) = true := by simpa using b4
    go_wp2
    go_ret
    exact ⟨rfl, O0⟩
  have d4 : decide (255 < o) = false := by simpa using b4
  have p0 : 0 ≤ p := by omega
  have p1 : p < 4096 := by omega
  have o0 : 0 ≤ o := by omega
  have o1 : o < 256 := by omega
  have HO := Lib.hid O0
  clear b1 b2 b3 b4 hg
  go_wp2_with fail
  refine (both_at 80 80 pa len cap x w0 rfl (by decide) (by decide) h100 ((HX.out.kept O0 (by simp)).mono O0.size)).mono ?_
  rintro e w1 ⟨m, F, c, r, G, rfl, hB, hO, hm, hF, hr, hG⟩
  have M1 := Lib.hid hB.mem
  have O1 := Lib.hid (O0.next hO (by simp))
  clear hB hO hm hF hr hG O0 HO
  generalize zOf 80 x len = z at *
  go_wp2_with fail
  refine (join_yes p o w1 p0 p1 o0 o1).mono ?_
  rintro e w' ⟨rfl, rfl⟩
  obtain ⟨⟨f, rd, F', W, X, B⟩, hT⟩ : ∃ T, walkS 80 z 0 (p * 256) 0 = T := ⟨_, rfl⟩
  have HS := Lib.hid (show lookS 80 z 0 p = seenOf ⟨f, rd, F', W, X, B⟩ by unfold lookS; rw [if_pos ⟨p0, p1⟩, hT])
  have HT := Lib.hid ((walkS_page o0 o1).trans hT)
  clear hT
  go_wp2_with fail
  refine (walk_any m F 80 c z 0 (p * 256 + o) 0 w1 M1.out (by omega) (by omega)).mono ?_
  rintro e w2 ⟨rfl, b2⟩
  rw [HT.out]
  simp only [Hit.val]
  have M2 := Lib.hid (M1.out.kept (Only.of b2 []) (by simp) (by simp))
  have O2 := Lib.hid (O1.out.next (Only.of b2 []) (by simp))
  clear M1 O1 b2
  go_wp2_with fail
  have ha := Only.alloc [] w2 (.cells #[.int .i64 f, .int .i64 rd, .int .i64 F', .bool W, .bool X, .bool B] 34)
  have S3 := Lib.hid (six_new w2 f rd F' W X B 34)
  have M3 := Lib.hid (M2.out.kept ha (by simp) (by simp))
  have O3 := Lib.hid (O2.out.next ha (by simp))
  clear M2 O2 ha
  generalize w2.alloc (.cells #[.int .i64 f, .int .i64 rd, .int .i64 F', .bool W, .bool X, .bool B] 34) = w3 at *
  refine (look_any m F 80 c z 0 p w3 M3.out).mono ?_
  rintro e w4 ⟨rfl, b4⟩
  rw [HS.out]
  obtain ⟨s0, s1, s2, s3, s4, s5⟩ := S3.out.kept' b4
  have O4 := Lib.hid (O3.out.next (Only.of b4 []) (by simp))
  have lt4 : w2.heap.size < w4.heap.size := block_lt_of_cell s0
  clear M3 O3 S3 b4
  by_cases hf : f = 0
  · subst hf
    rw [show seenOf ⟨0, rd, F', W, X, B⟩ = ⟨⟨true, W, X, B, F'⟩, true⟩ from rfl]
    simp only [Ent.val]
    go_wp2
    go_ret
    exact ⟨rfl, O4.out.next (Only.alloc [] _ _) (by simp)⟩
  · rw [show seenOf ⟨f, rd, F', W, X, B⟩ = ⟨e0, false⟩ by unfold seenOf; rw [if_neg hf]]
    have df : (f == 0) = false := by simpa using hf
    simp only [Ent.val, e0]
    clear hf
    go_wp2
    go_ret
    exact ⟨rfl, O4.out.next (Only.alloc [] _ _) (by simp)⟩
set_option maxRecDepth 100000 in
theorem lifted (os : Os) (started : os.Started) (H : Type) (enc : TypeId × Value → H) :
    ReturnsInHanded {} Try.checked os 6 .any (Rows.walkLookSpec.pre6 enc Try.prog Try.f6 Rows.walkLookRow.domain false) (Rows.walkLookSpec.post enc Try.prog Try.f6 false true false false) := by
  refine returnsInHanded_of_change_sized (C := Try.checked) own started (by kernel_rfl) Try.func6
    (ChangeSpec.witness6 (enc := enc) (C := Try.checked) false ⟨#[], #[.slice none 0 0, .int .i64 0, .int .i64 0], []⟩ 8 (by kernel_rfl) (by kernel_rfl) (by kernel_rfl) (by kernel_rfl)) ?_
  intro W base args ds gs before hval0 hW hcnd hZ0 _
  have hval : ∀ (j : Nat) t v, Try.f6.params[j]? = some t → args[j]? = some v → Value.okWide Try.prog W .any base t v := hval0
  have hZ : ∀ n ∈ DataW.weightsEach Try.prog (Try.f6.params.toList ++ []) (ds ++ gs), n ≤ reachBytes := fun n hn => of_decide_eq_true (List.all_eq_true.1 hZ0 n hn)
  have hW' := hW
  obtain ⟨p, q, hA0, hV, rfl, hfz, hnd⟩ := hW
  have hA : DataW.TrodAll enc Try.prog W 0 (fun _ => true) true Try.f6.params.toList args.toList ds p := hA0
  rw [Try.params6] at hA hval hZ
  obtain ⟨v0, vs0, d0, ds0, p0, q0, hargs, rfl, rfl, h0, r0⟩ := trodAll_cons hA
  obtain ⟨v1, vs1, d1, ds1, p1, q1, rfl, rfl, rfl, h1, r1⟩ := trodAll_cons r0
  obtain ⟨v2, vs2, d2, ds2, p2, q2, rfl, rfl, rfl, h2, r2⟩ := trodAll_cons r1
  obtain ⟨rfl, rfl, rfl⟩ := trodAll_nil r2
  obtain rfl : args = #[v0, v1, v2] := by cases args; simp_all
  obtain ⟨rfl, rfl⟩ := trodVars_none hV
  have k0 := h0
  have hz0 : ∀ n ∈ d0.weights Try.prog 22, n ≤ reachBytes := fun n hn => hZ n (by simp only [List.append_nil, DataW.weightsEach, List.mem_append]; exact Or.inl hn)
  obtain ⟨a0, n0, c0, y0, rfl, m0, lt0, z0⟩ := puts_open (hval 0 22 v0 rfl rfl) h0 hz0
  obtain ⟨x1, rfl, rfl, rfl, w1⟩ := open_int Try.underlying3 (hval 1 3 v1 rfl rfl) h1
  obtain ⟨x2, rfl, rfl, rfl, w2⟩ := open_int Try.underlying3 (hval 2 3 v2 rfl rfl) h2
  clear hA0 hval0 hZ0
  refine (walk a0 n0 c0 y0 x1 x2 W m0 z0).mono fun e W' ⟨he, ho⟩ => ?_
  subst he
  have bel : Below W.heap.size W W' := ho.below (Nat.le_refl _) (by simp)
  exact ⟨_, rfl, _, _, _, [], _, [], hW', trodAll_mk1 (shut_bool Try.underlying4 _), (trodAll_cons_mk (Below.trod laidOut (by kernel_rfl) (of_decide_eq_true (by kernel_rfl)) k0 bel lt0) (trodAll_cons_mk (shut_int Try.underlying3 w1) (trodAll_cons_mk (shut_int Try.underlying3 w2) trodAll_mk0))), rfl, bel.frame _, fun h => by cases h⟩
theorem over : Rows.walkLookRow.holds Try.pinned (OpenSpec.ofChange Rows.walkLookSpec) :=
  OpenClaim.holds_of_wide 6 Try.f6 rfl rfl rfl rfl rfl rfl rfl ⟨rfl, rfl, rfl, rfl, rfl⟩ rfl rfl rfl rfl rfl (by kernel_rfl) Try.func6 (by kernel_rfl)
    (of_decide_eq_true (by kernel_rfl)) (by unfold Func.isWrapper; first | (rw [if_pos (by decide +kernel)]; kernel_rfl) | (rw [if_neg (by decide +kernel)]; exact ⟨rfl, rfl⟩))
    (fun os started H enc _ => lifted os started H enc)
end walkLook
/-- The statement. -/
theorem walkLook_holds : Rows.WalkLookSaid := walkLook.over
#print axioms walkLook_holds
end Go.Proofs.Ytpfeibhafchfkaa
