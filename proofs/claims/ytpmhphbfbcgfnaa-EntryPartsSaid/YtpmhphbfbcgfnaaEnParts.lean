/-
  EntryParts: an address is its parts, and a page and an offset make it: for every input true, and the input reads as it did; no condition.
-/
import Derived.Test.YtpmhphbfbcgfnaaEnOpen
namespace Go.Proofs.Ytpmhphbfbcgfnaa
open Go.ChangeShapes Go.WideShapes Go.ChangeAt Go.RowKit Go.Deep Go.Joins Nt
open En
namespace entryParts
theorem or_parts (f s o : Int) (f0 : 0 ≤ f) (f1 : f < 64) (s0 : 0 ≤ s) (s1 : s < 64) (o0 : 0 ≤ o) (o1 : o < 256) : bits .or .u32 (bits .or .u32 (f * 16384) (s * 256)) o = f * 16384 + s * 256 + o := by
  obtain ⟨f, rfl⟩ := Int.eq_ofNat_of_zero_le f0
  obtain ⟨s, rfl⟩ := Int.eq_ofNat_of_zero_le s0
  obtain ⟨o, rfl⟩ := Int.eq_ofNat_of_zero_le o0
  have e1 : ((f : Int) * 16384) = ((f * 16384 : Nat) : Int) := by omega
  have e2 : ((s : Int) * 256) = ((s * 256 : Nat) : Int) := by omega
  have z1 : s * 256 ||| f * 16384 = s * 256 + f * 16384 := by
    have := low_or (s * 256) 14 f
    rwa [Nat.mod_eq_of_lt (show s * 256 < 2 ^ 14 by omega)] at this
  have z2 : o ||| (f * 64 + s) * 2 ^ 8 = o + (f * 64 + s) * 2 ^ 8 := by
    have := low_or o 8 (f * 64 + s)
    rwa [Nat.mod_eq_of_lt (show o < 2 ^ 8 by omega)] at this
  have z3 : s * 256 + f * 16384 = (f * 64 + s) * 2 ^ 8 := by omega
  rw [e1, e2, u32_or_nat _ _ (by omega) (by omega), Nat.or_comm, z1, z3, u32_or_nat _ _ (by omega) (by omega), Nat.or_comm, z2]
  omega
set_option maxHeartbeats 1000000 in
theorem walk (v p o : Int) (w : World) (h0 : 0 ≤ v) (h1 : v < 4294967296) :
    Calls Try.prog 5 #[.int .u32 v, .int .i64 p, .int .i64 o] w fun e w' => e = .returned (.bool true) ∧ Below w.heap.size w w' := by
  obtain ⟨f, hf⟩ : ∃ f, f = v / 16384 % 64 := ⟨_, rfl⟩
  obtain ⟨s, hs⟩ : ∃ s, s = v / 256 % 64 := ⟨_, rfl⟩
  obtain ⟨t, ht⟩ : ∃ t, t = v % 256 := ⟨_, rfl⟩
  obtain ⟨g, hg⟩ : ∃ g, g = v / 256 % 4096 := ⟨_, rfl⟩
  obtain ⟨l, hl⟩ : ∃ l, l = v % 1048576 := ⟨_, rfl⟩
  have CF := Lib.hid (fun w => first_any v w h0 h1)
  have CS := Lib.hid (fun w => second_any v w h0 h1)
  have CT := Lib.hid (fun w => offset_any v w h0 h1)
  have CG := Lib.hid (fun w => pageOf_any v w h0 h1)
  rw [← hf] at CF
  rw [← hs] at CS
  rw [← ht] at CT
  rw [← hg] at CG
  have f0 : 0 ≤ f := by omega
  have f1 : f < 64 := by omega
  have s0 : 0 ≤ s := by omega
  have s1 : s < 64 := by omega
  have t0 : 0 ≤ t := by omega
  have t1 : t < 256 := by omega
  have g0 : 0 ≤ g := by omega
  have g1 : g < 4096 := by omega
  have eo : bits .or .u32 (bits .or .u32 (f * 16384) (s * 256)) t = l := by rw [or_parts f s t f0 f1 s0 s1 t0 t1]; omega
  have eg : f * 64 + s = g := by omega
  have el : v.tmod 1048576 = l := (Int.tmod_eq_emod_of_nonneg h0).trans hl.symm
  have d1 : decide (255 < t) = false := by simp; omega
  have d2 : decide (63 < s) = false := by simp; omega
  have d3 : decide (63 < f) = false := by simp; omega
  have d4 : (l == v) = decide (v < 1048576) := by
    rw [Bool.eq_iff_iff]
    simp only [beq_iff_eq, decide_eq_true_eq]
    omega
  have EJ := Lib.hid (show g * 256 + t = l by omega)
  have CJ := Lib.hid (fun w => join_yes g t w g0 g1 t0 t1)
  clear hf hs ht hg hl h0 h1
  go_enter Try.func5, Try.ntmps5
  go_wp2_with fail
  refine (alive_any _).mono ?_
  rintro e w1 ⟨rfl, b1⟩
  have B1 := Lib.hid b1
  clear b1
  go_wp2_with (first
    | (go_at_call 16; refine (CF.out _).mono ?_; rintro e w2 ⟨rfl, k2, rfl⟩)
    | (go_at_call 17; refine (CS.out _).mono ?_; rintro e w2 ⟨rfl, k3, rfl⟩)
    | (go_at_call 18; refine (CT.out _).mono ?_; rintro e w2 ⟨rfl, k4, rfl⟩)
    | (go_at_call 19; refine (CG.out _).mono ?_; rintro e w2 ⟨rfl, k5, rfl⟩)
    | (go_at_call 20; refine (inside_any v _).mono ?_; rintro e w2 ⟨rfl, rfl⟩)
    | fail)
  refine (CJ.out _).mono ?_
  rintro e w2 ⟨rfl, rfl⟩
  rw [EJ.out]
  have B2 := Lib.hid (below_drewN B1.out (k2 + k3 + k4 + k5))
  clear CF CS CT CG CJ EJ B1 d1 d2 d3 d4 eo eg f0 f1 s0 s1 t0 t1 g0 g1
  generalize w1.drewN _ = w2 at *
  by_cases hj : 0 ≤ p ∧ p < 4096 ∧ 0 ≤ o ∧ o < 256
  · obtain ⟨j0, j1, j2, j3⟩ := hj
    have x0 : 0 ≤ p * 256 + o := by omega
    have x1 : p * 256 + o < 4294967296 := by omega
    have y0 : (p * 256 + o) / 256 % 4096 = p := by omega
    have y1 : (p * 256 + o) % 256 = o := by omega
    have CG := Lib.hid (fun w => pageOf_any (p * 256 + o) w x0 x1)
    have CT := Lib.hid (fun w => offset_any (p * 256 + o) w x0 x1)
    rw [y0] at CG
    rw [y1] at CT
    have z0 : decide (0 ≤ p) = true := by simpa using j0
    have z1 : decide (p ≤ 4095) = true := by simp; omega
    have z2 : decide (0 ≤ o) = true := by simpa using j2
    have z3 : decide (o ≤ 255) = true := by simp; omega
    have z4 : decide (p * 256 + o < 1048576) = true := by simp; omega
    clear y0 y1
    go_wp2_with fail
    refine (join_yes p o _ j0 j1 j2 j3).mono ?_
    rintro e w3 ⟨rfl, rfl⟩
    go_wp2_with (first
      | (go_at_call 19; refine (CG.out _).mono ?_; rintro e w2 ⟨rfl, k6, rfl⟩)
      | (go_at_call 18; refine (CT.out _).mono ?_; rintro e w2 ⟨rfl, k7, rfl⟩)
      | (go_at_call 20; refine (inside_any (p * 256 + o) _).mono ?_; rintro e w2 ⟨rfl, rfl⟩)
      | fail)
    go_ret
    exact ⟨rfl, below_drewN B2.out _⟩
  · have CN := Lib.hid (fun w => join_no p o w hj)
    have cases4 : ∀ G : Prop, (decide (0 ≤ p) = false → G) → (decide (0 ≤ p) = true → decide (p ≤ 4095) = false → G) → (decide (0 ≤ p) = true → decide (p ≤ 4095) = true → decide (0 ≤ o) = false → G) → (decide (0 ≤ p) = true → decide (p ≤ 4095) = true → decide (0 ≤ o) = true → decide (o ≤ 255) = false → G) → G := by
      intro G a b c d
      by_cases q0 : 0 ≤ p
      · by_cases q1 : p ≤ 4095
        · by_cases q2 : 0 ≤ o
          · exact d (by simpa using q0) (by simpa using q1) (by simpa using q2) (by simp; omega)
          · exact c (by simpa using q0) (by simpa using q1) (by simpa using q2)
        · exact b (by simpa using q0) (by simpa using q1)
      · exact a (by simpa using q0)
    clear hj
    have C4 := Lib.hid cases4
    clear cases4
    refine C4.out _ ?_ ?_ ?_ ?_
    · intro z0
      go_wp2_with (go_at_call 21; refine (CN.out _).mono ?_; rintro e w3 ⟨rfl, rfl⟩)
      go_ret
      exact ⟨rfl, B2.out⟩
    · intro z0 z1
      go_wp2_with (go_at_call 21; refine (CN.out _).mono ?_; rintro e w3 ⟨rfl, rfl⟩)
      go_ret
      exact ⟨rfl, B2.out⟩
    · intro z0 z1 z2
      go_wp2_with (go_at_call 21; refine (CN.out _).mono ?_; rintro e w3 ⟨rfl, rfl⟩)
      go_ret
      exact ⟨rfl, B2.out⟩
    · intro z0 z1 z2 z3
      go_wp2_with (go_at_call 21; refine (CN.out _).mono ?_; rintro e w3 ⟨rfl, rfl⟩)
      go_ret
      exact ⟨rfl, B2.out⟩
set_option maxRecDepth 100000 in
theorem lifted (os : Os) (started : os.Started) (H : Type) (enc : TypeId × Value → H) :
    ReturnsInHanded {} Try.checked os 5 .any (Rows.entryPartsSpec.pre6 enc Try.prog Try.f5 Rows.entryPartsRow.domain false) (Rows.entryPartsSpec.post enc Try.prog Try.f5 false true false false) := by
  refine returnsInHanded_of_change_sized (C := Try.checked) own started (by kernel_rfl) Try.func5
    (ChangeSpec.witness6 (enc := enc) (C := Try.checked) false ⟨#[], #[.int .u32 0, .int .i64 0, .int .i64 0], []⟩ 8 (by kernel_rfl) (by kernel_rfl) (by kernel_rfl) (by kernel_rfl)) ?_
  intro W base args ds gs before hval0 hW hcnd hZ0 _
  have hval : ∀ (j : Nat) t v, Try.f5.params[j]? = some t → args[j]? = some v → Value.okWide Try.prog W .any base t v := hval0
  have hZ : ∀ n ∈ DataW.weightsEach Try.prog (Try.f5.params.toList ++ []) (ds ++ gs), n ≤ reachBytes := fun n hn => of_decide_eq_true (List.all_eq_true.1 hZ0 n hn)
  have hW' := hW
  obtain ⟨p, q, hA0, hV, rfl, hfz, hnd⟩ := hW
  have hA : DataW.TrodAll enc Try.prog W 0 (fun _ => true) true Try.f5.params.toList args.toList ds p := hA0
  rw [Try.params5] at hA hval hZ
  obtain ⟨v0, vs0, d0, ds0, p0, q0, hargs, rfl, rfl, h0, r0⟩ := trodAll_cons hA
  obtain ⟨v1, vs1, d1, ds1, p1, q1, rfl, rfl, rfl, h1, r1⟩ := trodAll_cons r0
  obtain ⟨v2, vs2, d2, ds2, p2, q2, rfl, rfl, rfl, h2, r2⟩ := trodAll_cons r1
  obtain ⟨rfl, rfl, rfl⟩ := trodAll_nil r2
  obtain rfl : args = #[v0, v1, v2] := by cases args; simp_all
  obtain ⟨rfl, rfl⟩ := trodVars_none hV
  obtain ⟨x0, rfl, rfl, rfl, w0⟩ := open_int Try.underlying24 (hval 0 24 v0 rfl rfl) h0
  obtain ⟨x1, rfl, rfl, rfl, w1⟩ := open_int Try.underlying3 (hval 1 3 v1 rfl rfl) h1
  obtain ⟨x2, rfl, rfl, rfl, w2⟩ := open_int Try.underlying3 (hval 2 3 v2 rfl rfl) h2
  clear hA0 hval0 hZ0
  simp only [List.append_nil] at hW'
  refine (walk x0 x1 x2 W (bounds_u32 w0).1 (by have := (bounds_u32 w0).2; omega)).mono fun e W' ⟨he, ho⟩ => ?_
  subst he
  have bel : Below W.heap.size W W' := ho
  exact ⟨_, rfl, _, _, _, [], [], [], hW', trodAll_mk1 (shut_bool Try.underlying4 _), (trodAll_cons_mk (shut_int Try.underlying24 w0) (trodAll_cons_mk (shut_int Try.underlying3 w1) (trodAll_cons_mk (shut_int Try.underlying3 w2) trodAll_mk0))), rfl, bel.frame _, fun h => by cases h⟩
theorem over : Rows.entryPartsRow.holds Try.pinned (OpenSpec.ofChange Rows.entryPartsSpec) :=
  OpenClaim.holds_of_wide 5 Try.f5 rfl rfl rfl rfl rfl rfl rfl ⟨rfl, rfl, rfl, rfl, rfl⟩ rfl rfl rfl rfl rfl (by kernel_rfl) Try.func5 (by kernel_rfl)
    (of_decide_eq_true (by kernel_rfl)) (by unfold Func.isWrapper; first | (rw [if_pos (by decide +kernel)]; kernel_rfl) | (rw [if_neg (by decide +kernel)]; exact ⟨rfl, rfl⟩))
    (fun os started H enc _ => lifted os started H enc)
end entryParts
/-- The statement. -/
theorem entryParts_holds : Rows.EntryPartsSaid := entryParts.over
#print axioms entryParts_holds
end Go.Proofs.Ytpmhphbfbcgfnaa
