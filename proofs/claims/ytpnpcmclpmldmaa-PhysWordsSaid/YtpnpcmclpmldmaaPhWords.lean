/-
  PhysWords: a word that is put is told by its bytes, and the others are as they were: for every input true, and the input reads as it did; no condition.
-/
import Derived.Test.YtpnpcmclpmldmaaPhAlive
import Derived.Test.YtpnpcmclpmldmaaPhCalls
import Derived.SizedLaws
namespace Go.Proofs.Ytpnpcmclpmldmaa
open Go.ChangeShapes Go.WideShapes Go.ChangeAt Go.RowKit Go.Deep
namespace physWords
open Ph
theorem early (n a x : Int) (w : World) (h : n < 1 ∨ 40 < n) :
    Calls Try.prog 5 #[.int .i64 n, .int .u32 a, .int .u32 x] w fun e w' => e = .returned (.bool true) ∧ Only [] w w' := by
  go_enter Try.func5, Try.ntmps5
  by_cases h1 : n < 1
  · have d1 : decide (n < 1) = true := by simpa using h1
    clear h
    go_wp2_with (go_at_call 8; refine (alive_any _).mono ?_; rintro e w' ⟨rfl, ho⟩)
    go_ret
    exact ⟨rfl, ho⟩
  · have d1 : decide (n < 1) = false := by simpa using h1
    have d2 : decide (40 < n) = true := by simp; omega
    clear h
    go_wp2_with (go_at_call 8; refine (alive_any _).mono ?_; rintro e w' ⟨rfl, ho⟩)
    go_ret
    exact ⟨rfl, ho⟩
theorem dl_self (z : Nat → Int) (n : Nat) : dl z z n = [] := by
  unfold dl
  rw [List.filter_eq_nil_iff]
  intro k _
  simp [eqN]
set_option maxRecDepth 100000 in
theorem no (n a : Nat) (x : Int) (w : World) (h1 : 1 ≤ n) (h2 : n ≤ 40) (ha : a < 4294967296) (x0 : 0 ≤ x) (x1 : x < 4294967296) (hk : hwA n a = false) :
    Calls Try.prog 5 #[.int .i64 n, .int .u32 a, .int .u32 x] w fun e w' => e = .returned (.bool true) ∧ Only [] w w' := by
  have d1 : decide ((n : Int) < 1) = false := by simp; omega
  have d2 : decide ((40 : Int) < (n : Int)) = false := by simp; omega
  have hp : pw n (fun _ => 0) a x = fun _ => 0 := by unfold pw; rw [if_neg (by rw [hk]; decide)]
  have HF := Lib.hid (hwA_false hk)
  go_enter Try.func5, Try.ntmps5
  go_wp2_with (go_at_call 8; refine (alive_any _).mono ?_; rintro e w0 ⟨rfl, O0⟩)
  refine (new_any n w0 h1 (by omega)).mono ?_
  rintro e w1 ⟨m, F, c, rfl, hM, hO, hm, hF⟩
  have M1 := Lib.hid hM
  have O1 := Lib.hid (O0.next hO (by simp))
  have s0 := O0.size
  clear hM hO O0
  go_wp2_with fail
  refine (clone_any m F n c _ w1 M1.out h1).mono ?_
  rintro e w2 ⟨d, D, cd, rfl, hM, hO, hd, hD⟩
  have N2 := Lib.hid hM
  have M2 := Lib.hid (M1.out.kept hO (by simp) (by simp))
  have O2 := Lib.hid (O1.out.next hO (by simp))
  have l1 := M1.out.lt
  have l2 := M1.out.row.lt
  clear hM hO M1 O1
  go_wp2_with fail
  refine (putWord_any m F n c a _ x w2 M2.out ha x0 x1).mono ?_
  rintro e w3 ⟨rfl, hM, hO⟩
  have M3 := Lib.hid hM
  have N3 := Lib.hid (N2.out.kept hO (by simp; omega) (by simp; omega))
  have O3 := Lib.hid (O2.out.next hO (by simp; omega))
  clear hM hO M2 N2 O2
  rw [hk]
  go_wp2_with fail
  refine (differ_any m F n c d D cd _ _ w3 M3.out N3.out).mono ?_
  rintro e w4 ⟨pa, cc, rfl, hR, hO⟩
  rw [hp, dl_self]
  have O4 := Lib.hid (O3.out.next hO (by simp))
  clear hR hO hp hk
  by_cases h4 : a % 4 = 0
  · have d4 : ((a : Int) % 4 != 0) = false := by simp; omega
    have d5 : decide (256 * (n : Int) ≤ (a : Int)) = true := by have := HF.out; simp; omega
    have e5 : (256 * (n : Int)) % 4294967296 = 256 * (n : Int) := by omega
    clear h4 HF
    go_wp2
    go_ret
    exact ⟨rfl, O4.out⟩
  · have d4 : ((a : Int) % 4 != 0) = true := by simp; omega
    clear h4 HF
    go_wp2
    go_ret
    exact ⟨rfl, O4.out⟩
/-- The word's first bytes. -/
def low (x : Int) (k : Nat) : Int := x % 2 ^ (8 * k)
theorem b4_0 (x : Int) : byte4 x 0 = x % 256 := rfl
theorem b4_1 (x : Int) : byte4 x 1 = x / 256 % 256 := rfl
theorem b4_2 (x : Int) : byte4 x 2 = x / 65536 % 256 := rfl
theorem b4_3 (x : Int) : byte4 x 3 = x / 16777216 := rfl
theorem or_low (x : Int) (k : Nat) (hk : k < 4) (x0 : 0 ≤ x) (x1 : x < 4294967296) : bits .or .u32 (low x k) (byte4 x k % 4294967296 * 2 ^ (8 * k) % 4294967296) = low x (k + 1) := by
  match k, hk with
  | 0, _ =>
    have := or_join (low x 0) (byte4 x 0) 0 (by unfold low; omega) (by unfold low; omega) (byte4_8 x 0 x0 x1).1 (by simp only [b4_0]; omega) (by unfold low; omega)
    simp only [b4_0] at this ⊢
    unfold low at *
    simp at this ⊢
    rw [show x % 256 % 4294967296 = x % 256 by omega]
    omega
  | 1, _ =>
    have := or_join (low x 1) (byte4 x 1) 8 (by unfold low; omega) (by unfold low; omega) (byte4_8 x 1 x0 x1).1 (by simp only [b4_1]; omega) (by unfold low; omega)
    simp only [b4_1] at this ⊢
    unfold low at *
    simp at this ⊢
    rw [show x / 256 % 256 % 4294967296 * 256 % 4294967296 = x / 256 % 256 * 256 by omega]
    omega
  | 2, _ =>
    have := or_join (low x 2) (byte4 x 2) 16 (by unfold low; omega) (by unfold low; omega) (byte4_8 x 2 x0 x1).1 (by simp only [b4_2]; omega) (by unfold low; omega)
    simp only [b4_2] at this ⊢
    unfold low at *
    simp at this ⊢
    rw [show x / 65536 % 256 % 4294967296 * 65536 % 4294967296 = x / 65536 % 256 * 65536 by omega]
    omega
  | 3, _ =>
    have := or_join (low x 3) (byte4 x 3) 24 (by unfold low; omega) (by unfold low; omega) (byte4_8 x 3 x0 x1).1 (by simp only [b4_3]; omega) (by unfold low; omega)
    simp only [b4_3] at this ⊢
    unfold low at *
    simp at this ⊢
    rw [show x / 16777216 % 4294967296 * 16777216 % 4294967296 = x / 16777216 * 16777216 by omega]
    omega
/-- A word that isn't nought has a byte that isn't. -/
theorem some_byte (x : Int) (h : x ≠ 0) : ∃ k, k < 4 ∧ byte4 x k ≠ 0 := by
  by_cases h0 : byte4 x 0 = 0
  · by_cases h1 : byte4 x 1 = 0
    · by_cases h2 : byte4 x 2 = 0
      · exact ⟨3, by decide, fun h3 => h (by simp only [b4_0, b4_1, b4_2, b4_3] at *; omega)⟩
      · exact ⟨2, by decide, h2⟩
    · exact ⟨1, by decide, h1⟩
  · exact ⟨0, by decide, h0⟩
theorem dl_put (n a : Nat) (x : Int) (ha : a % 4 = 0) (hn : a < 256 * n) (h : x ≠ 0) : dl (putw (fun _ => 0) a x) (fun _ => 0) n = [a / 256] := by
  have e : ∀ k, eqN 256 (fr (putw (fun _ => 0) a x) k) (fr (fun _ => 0) k) = decide (k ≠ a / 256) := by
    intro k
    by_cases hk : k = a / 256
    · obtain ⟨i, hi, hb⟩ := some_byte x h
      rw [eqN_no (a % 256 + i) (by omega) (by unfold fr putw; rw [if_pos (by omega), show k * 256 + (a % 256 + i) - a = i by omega]; exact hb)]
      simp [hk]
    · rw [eqN_yes (fun j hj => by unfold fr putw; rw [if_neg (by omega)])]
      simp [hk]
  unfold dl
  simp only [e]
  have : ∀ m q, (List.filter (fun k => !decide (k ≠ q)) (List.range m)) = if q < m then [q] else [] := by
    intro m q
    induction m with
    | zero => simp
    | succ m ih =>
      rw [List.range_succ, List.filter_append, ih]
      by_cases h1 : q < m
      · simp [h1, show m ≠ q by omega, show q < m + 1 by omega]
      · by_cases h2 : q = m
        · subst h2; simp
        · simp [h1, show m ≠ q by omega, show ¬ q < m + 1 by omega]
  rw [this, if_pos (by omega)]
theorem rdw_put (n a : Nat) (x : Int) (hk : hwA n a = true) : rdw n (putw (fun _ => 0) a x) a = x := by
  unfold rdw putw
  rw [if_pos hk, if_pos (by omega), if_pos (by omega), if_pos (by omega), if_pos (by omega)]
  rw [show a - a = 0 by omega, show a + 1 - a = 1 by omega, show a + 2 - a = 2 by omega, show a + 3 - a = 3 by omega]
  simp only [b4_0, b4_1, b4_2, b4_3]
  unfold word4
  omega
set_option maxRecDepth 100000 in
theorem yes (n a : Nat) (x : Int) (w : World) (h1 : 1 ≤ n) (h2 : n ≤ 40) (ha : a < 4294967296) (x0 : 0 ≤ x) (x1 : x < 4294967296) (hk : hwA n a = true) :
    Calls Try.prog 5 #[.int .i64 n, .int .u32 a, .int .u32 x] w fun e w' => e = .returned (.bool true) ∧ Only [] w w' := by
  have d1 : decide ((n : Int) < 1) = false := by simp; omega
  have d2 : decide ((40 : Int) < (n : Int)) = false := by simp; omega
  have hp : pw n (fun _ => 0) a x = putw (fun _ => 0) a x := by unfold pw; rw [if_pos hk]
  have HF := Lib.hid (hwA_true hk)
  go_enter Try.func5, Try.ntmps5
  go_wp2_with (go_at_call 8; refine (alive_any _).mono ?_; rintro e w0 ⟨rfl, O0⟩)
  refine (new_any n w0 h1 (by omega)).mono ?_
  rintro e w1 ⟨m, F, c, rfl, hM, hO, hm, hF⟩
  have M1 := Lib.hid hM
  have O1 := Lib.hid (O0.next hO (by simp))
  have s0 := O0.size
  clear hM hO O0
  go_wp2_with fail
  refine (clone_any m F n c _ w1 M1.out h1).mono ?_
  rintro e w2 ⟨d, D, cd, rfl, hM, hO, hd, hD⟩
  have N2 := Lib.hid hM
  have M2 := Lib.hid (M1.out.kept hO (by simp) (by simp))
  have O2 := Lib.hid (O1.out.next hO (by simp))
  have l1 := M1.out.lt
  have l2 := M1.out.row.lt
  clear hM hO M1 O1
  go_wp2_with fail
  refine (putWord_any m F n c a _ x w2 M2.out ha x0 x1).mono ?_
  rintro e w3 ⟨rfl, hM, hO⟩
  have M3 := Lib.hid hM
  have N3 := Lib.hid (N2.out.kept hO (by simp; omega) (by simp; omega))
  have O3 := Lib.hid (O2.out.next hO (by simp; omega))
  clear hM hO M2 N2 O2
  rw [hk]
  rw [hp] at M3
  go_wp2_with fail
  go_loop [10, 11] (fun t i => ∃ k : Nat, k ≤ 4 ∧ t = .int .u32 (low x k) ∧ i = .int .u32 k) (fun _ i => 4 - (intOf i).toNat)
  case atStart => exact ⟨0, by omega, by unfold low; simp, rfl⟩
  case round =>
    obtain ⟨k, hk4, rfl, rfl⟩ := hrel
    by_cases hlt : k < 4
    · have hl4 : decide ((k : Int) < 4) = true := by simp; omega
      have ea : ((a : Int) + k) % 4294967296 = (a : Int) + k := by have := HF.out; omega
      have hB : inB n (a + k) = true := by have := HF.out; unfold inB; simp; omega
      have hr : rd n (putw (fun _ => 0) a x) (a + k) = byte4 x k := by
        unfold rd putw
        rw [if_pos hB, if_pos (by omega), show a + k - a = k by omega]
      go_wp2_with (go_at_call 14; rw [show (a : Int) + k = ((a + k : Nat) : Int) by omega]; refine (byte_any m F n c (a + k) _ w3 M3.out (by have := HF.out; omega)).mono ?_; rintro e w' ⟨rfl, rfl⟩; rw [hB, hr])
      go_round
      case rel =>
        exact ⟨k + 1, by omega, by rw [or_low x k hlt x0 x1], by go_num⟩
      case measure => simp [intOf]; omega
    · have e4 : k = 4 := by omega
      subst e4
      have hl : low x 4 = x := by unfold low; simp; omega
      rw [hl]
      clear hl
      have hw : rdw n (putw (fun _ => 0) a x) a = x := rdw_put n a x hk
      have hpast : inB n (256 * n) = false := by unfold inB; simp
      by_cases hx : x = 0
      · have dx : (x == 0) = true := by simpa using hx
        clear hx
        go_wp2_with (first | (go_at_call 16; refine (word_any m F n c a _ w3 M3.out ha).mono ?_; rintro e w' ⟨rfl, q, rfl⟩; rw [hw, hk]) | (go_at_call 14; rw [show 256 * (n : Int) = ((256 * n : Nat) : Int) by omega]; refine (byte_any m F n c (256 * n) _ _ (M3.out.kept (Only.drewN [] w3 q) (by simp) (by simp)) (by omega)).mono ?_; rintro e w' ⟨rfl, rfl⟩; rw [hpast]))
        go_ret
        exact ⟨rfl, O3.out.next (Only.drewN [] w3 q) (by simp)⟩
      · have dx : (x == 0) = false := by simpa using hx
        have hd : dl (putw (fun _ => 0) a x) (fun _ => 0) n = [a / 256] := dl_put n a x HF.out.1 HF.out.2 hx
        have HD := Lib.hid hd
        clear hx hd
        go_wp2_with (first | (go_at_call 16; refine (word_any m F n c a _ w3 M3.out ha).mono ?_; rintro e w' ⟨rfl, q, rfl⟩; rw [hw, hk]) | (go_at_call 14; rw [show 256 * (n : Int) = ((256 * n : Nat) : Int) by omega]; refine (byte_any m F n c (256 * n) _ _ (M3.out.kept (Only.drewN [] w3 q) (by simp) (by simp)) (by omega)).mono ?_; rintro e w' ⟨rfl, rfl⟩; rw [hpast]))
        refine (differ_any m F n c d D cd _ _ _ (M3.out.kept (Only.drewN [] w3 q) (by simp) (by simp)) (N3.out.kept (Only.drewN [] w3 q) (by simp) (by simp))).mono ?_
        rintro e w8 ⟨pa, cc, rfl, hR, hO⟩
        rw [HD.out] at hR ⊢
        have ec : ((a / 256 : Nat) : Int) = (a : Int) / 256 := by omega
        have ha8 := Only.alloc [] w8 (.cells #[.int .i64 ((a : Int) / 256)] 3)
        have RI : Hid (ReadsI (w8.alloc (.cells #[.int .i64 ((a : Int) / 256)] 3)) pa [a / 256]) := fun h => by
          obtain ⟨b, off, e, hc⟩ := hR h
          exact ⟨b, off, e, fun j hj => (ha8.cell (World.block_lt_of_cell? w8 _ (hc j hj)) (by simp) _).trans (hc j hj)⟩
        have RJ : Hid (ReadsI (w8.alloc (.cells #[.int .i64 ((a : Int) / 256)] 3)) (some ⟨w8.heap.size, 0, none⟩) [a / 256]) := fun _ => ⟨_, 0, rfl, fun j hj => by
          match j, hj with
          | 0, _ => simp⟩
        have O8 := Lib.hid (((O3.out.next (Only.drewN [] w3 q) (by simp)).next hO (by simp)).next ha8 (by simp))
        clear hR hO ha8 ec
        go_wp2_with fail
        refine (ints_same pa (some ⟨w8.heap.size, 0, none⟩) 1 cc 1 [a / 256] _ rfl (by decide) RI.out RJ.out).mono ?_
        rintro e w' ⟨rfl, k3, rfl⟩
        go_wp2
        go_ret
        exact ⟨rfl, O8.out.next (Only.drewN [] _ k3) (by simp)⟩
theorem walk (n a x : Int) (w : World) (wa : (Lit.int .u32 a).wf = true) (wx : (Lit.int .u32 x).wf = true) :
    Calls Try.prog 5 #[.int .i64 n, .int .u32 a, .int .u32 x] w fun e w' => e = .returned (.bool true) ∧ Only [] w w' := by
  have ba := bounds_u32 wa
  have bx := bounds_u32 wx
  by_cases h : n < 1 ∨ 40 < n
  · exact early n a x w h
  · obtain ⟨n, rfl⟩ := Int.eq_ofNat_of_zero_le (show 0 ≤ n by omega)
    obtain ⟨a, rfl⟩ := Int.eq_ofNat_of_zero_le ba.1
    cases hk : hwA n a
    · exact no n a x w (by omega) (by omega) (by omega) bx.1 (by omega) hk
    · exact yes n a x w (by omega) (by omega) (by omega) bx.1 (by omega) hk
theorem own : ownKnob Try.prog.godebug = none := by kernel_rfl
set_option maxRecDepth 100000 in
theorem lifted (os : Os) (started : os.Started) (H : Type) (enc : TypeId × Value → H) :
    ReturnsInHanded {} Try.checked os 5 .any (Rows.physWordsSpec.pre6 enc Try.prog Try.f5 Rows.physWordsRow.domain false) (Rows.physWordsSpec.post enc Try.prog Try.f5 false true false false) := by
  refine returnsInHanded_of_change_sized (C := Try.checked) own started (by kernel_rfl) Try.func5
    (ChangeSpec.witness6 (enc := enc) (C := Try.checked) false ⟨#[], #[.int .i64 0, .int .u32 0, .int .u32 0], []⟩ 8 (by kernel_rfl) (by kernel_rfl) (by kernel_rfl) (by kernel_rfl)) ?_
  intro W base args ds gs before hval0 hW hcnd hZ0 _
  have hval : ∀ (j : Nat) t v, Try.f5.params[j]? = some t → args[j]? = some v → Value.okWide Try.prog W .any base t v := hval0
  have hZ : ∀ n ∈ DataW.weightsEach Try.prog (Try.f5.params.toList ++ []) (ds ++ gs), n ≤ reachBytes := fun n hn => of_decide_eq_true (List.all_eq_true.1 hZ0 n hn)
  have hW' := hW
  obtain ⟨p, q, hA0, hV, rfl, hfz, hnd⟩ := hW
  have hA : DataW.TrodAll enc Try.prog W 0 (fun _ => true) true Try.f5.params.toList args.toList ds p := hA0
  rw [Try.params5] at hA hval hZ
  obtain ⟨v0, vs0, d0, ds0, p0, q0, hargs, rfl, rfl, h0, r0⟩ := trodAll_cons hA
  obtain ⟨v1, vs1, d1, ds1, p1, q1, rfl, rfl, rfl, h1, r1⟩ := trodAll_cons r0
  obtain ⟨v2, vs2, d2, ds2, p2, q2, rfl, rfl, rfl, h2, r2⟩ := trodAll_cons r1
  obtain ⟨rfl, rfl, rfl⟩ := trodAll_nil r2
  obtain rfl : args = #[v0, v1, v2] := by cases args; simp_all
  obtain ⟨rfl, rfl⟩ := trodVars_none hV
  obtain ⟨x0, rfl, rfl, rfl, w0⟩ := open_int Try.underlying3 (hval 0 3 v0 rfl rfl) h0
  obtain ⟨x1, rfl, rfl, rfl, w1⟩ := open_int Try.underlying23 (hval 1 23 v1 rfl rfl) h1
  obtain ⟨x2, rfl, rfl, rfl, w2⟩ := open_int Try.underlying23 (hval 2 23 v2 rfl rfl) h2
  clear hA0 hval0 hZ0
  simp only [List.append_nil] at hW'
  refine (walk x0 x1 x2 W w1 w2).mono fun e W' ⟨he, ho⟩ => ?_
  subst he
  have bel : Below W.heap.size W W' := ho.below (Nat.le_refl _) (by simp)
  exact ⟨_, rfl, _, _, _, [], [], [], hW', trodAll_mk1 (shut_bool Try.underlying4 _), (trodAll_cons_mk (shut_int Try.underlying3 w0) (trodAll_cons_mk (shut_int Try.underlying23 w1) (trodAll_cons_mk (shut_int Try.underlying23 w2) trodAll_mk0))), rfl, bel.frame _, fun h => by cases h⟩
theorem over : Rows.physWordsRow.holds Try.pinned (OpenSpec.ofChange Rows.physWordsSpec) :=
  OpenClaim.holds_of_wide 5 Try.f5 rfl rfl rfl rfl rfl rfl rfl ⟨rfl, rfl, rfl, rfl, rfl⟩ rfl rfl rfl rfl rfl (by kernel_rfl) Try.func5 (by kernel_rfl)
    (of_decide_eq_true (by kernel_rfl)) (by unfold Func.isWrapper; first | (rw [if_pos (by decide +kernel)]; kernel_rfl) | (rw [if_neg (by decide +kernel)]; exact ⟨rfl, rfl⟩))
    (fun os started H enc _ => lifted os started H enc)
end physWords
/-- The statement. -/
theorem physWords_holds : Rows.PhysWordsSaid := physWords.over
#print axioms physWords_holds
end Go.Proofs.Ytpnpcmclpmldmaa
