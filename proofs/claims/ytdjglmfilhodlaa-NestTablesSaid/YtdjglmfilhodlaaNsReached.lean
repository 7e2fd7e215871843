/-
  What the statements' reached answers: a row of bools that tells of a frame at least whether it is one of the monitor's tables, or told by them. Condition: that a memory lies there.
-/
import Derived.Test.YtdjglmfilhodlaaNsAlive
namespace Go.Proofs.Ytdjglmfilhodlaa
open Go.RowKit Nt
namespace Ns
open Ph En Wk
/-- A row of bools, that may be written. -/
structure Bools (w : World) (b n : Nat) (U : Nat → Bool) : Prop where
  lt : b < w.heap.size
  cell : ∀ j, j < n → w.cell? ⟨b, j, none⟩ = some (.bool (U j))
  free : ∀ j, w.frozen? ⟨b, j, none⟩ = false
  only : ∀ j v, w.cell? ⟨b, j, none⟩ = some v → ∃ y, v = .bool y
theorem Bools.kept {w w' : World} {b n : Nat} {U : Nat → Bool} {S : List Nat} (h : Bools w b n U) (ho : Only S w w') (hb : b ∉ S) : Bools w' b n U :=
  ⟨Nat.lt_of_lt_of_le h.lt ho.size, fun j hj => (ho.cell h.lt hb j).trans (h.cell j hj), fun j => (ho.frozen h.lt hb j).trans (h.free j), fun j v hv => h.only j v (by rw [← ho.cell h.lt hb j]; exact hv)⟩
/-- One is told. -/
def tell1 (U : Nat → Bool) (i : Nat) (j : Nat) : Bool := if j = i then true else U j
theorem tell1_same (U : Nat → Bool) (i : Nat) : tell1 U i i = true := by unfold tell1; rw [if_pos rfl]
theorem tell1_mono {U : Nat → Bool} {j : Nat} (i : Nat) (h : U j = true) : tell1 U i j = true := by unfold tell1; split <;> simp_all
theorem Bools.set {w : World} {b n : Nat} {U : Nat → Bool} (h : Bools w b n U) (i : Nat) (hi : i < n) : Bools (w.setCell ⟨b, i, none⟩ (.bool true)) b n (tell1 U i) := by
  refine ⟨by rw [World.size_setCell]; exact h.lt, fun j hj => ?_, fun j => by rw [World.frozen?_setCell]; exact h.free j, fun j v hv => ?_⟩
  rotate_left
  · by_cases e : j = i
    · subst e
      rw [World.cell?_setCell_same' _ _ _ (by rw [h.cell j hi]; rfl)] at hv
      injection hv with hv
      exact ⟨true, hv.symm⟩
    · rw [World.cell?_setCell_other _ _ _ _ (fun x => e (by injection x with _ x; exact x.symm))] at hv
      exact h.only j v hv
  unfold tell1
  by_cases e : j = i
  · subst e
    rw [if_pos rfl, World.cell?_setCell_same' _ _ _ (by rw [h.cell j hj]; rfl)]
  · rw [if_neg e, World.cell?_setCell_other _ _ _ _ (fun x => e (by injection x with _ x; exact x.symm))]
    exact h.cell j hj
theorem infoB : (Try.prog.info? 4).map (fun i => (i.zero, i.size, i.bytes)) = some (some (.bool false), 1, 1) := by kernel_rfl
theorem made_bools (n : Nat) (wx : World) (hn : n ≤ 1024) :
    (Instr.makeSlice 55 (.int .i64 (n : Int)) (.int .i64 (n : Int))).run Try.prog wx = .ok (.slice (some ⟨wx.heap.size, 0, none⟩) n n) (wx.alloc (.cells (madeCells #[.bool false] n) 4)) := by
  obtain ⟨i, hi, hz0, hz1, hz2⟩ := info_parts infoB
  have hr := run_make (P := Try.prog) wx 55 4 i _ Try.underlying55 hi hz0 .i64 .i64 n n (by omega) (Int.le_refl _) (by rw [hz2]; omega) (by omega)
  simp only [Int.toNat_natCast, hz1, Nat.mul_one] at hr
  exact hr
theorem made_row (n : Nat) (w : World) : Bools (w.alloc (.cells (madeCells #[.bool false] n) 4)) w.heap.size n (fun _ => false) := by
  refine ⟨by simp, fun j hj => ?_, fun j => World.frozen?_alloc_new w _ _ _, fun j v hv => ?_⟩
  · rw [World.cell?_alloc_new]
    unfold madeCells
    rw [Array.getElem?_map, Array.getElem?_range, if_pos (by omega)]
    simp [Nat.mod_one]
  · rw [World.cell?_alloc_new] at hv
    unfold madeCells at hv
    rw [Array.getElem?_map, Array.getElem?_range] at hv
    by_cases hj : j < n
    · rw [if_pos hj] at hv
      simp [Nat.mod_one] at hv
      exact ⟨false, hv.symm⟩
    · rw [if_neg hj] at hv
      simp at hv
theorem look_to (m F n c : Nat) (z : Nat → Int) (root p : Int) (s : Seen) (w : World) (hM : Mem w m F n c z) (hs : lookS n z root p = s) :
    Calls Try.prog 19 #[.pointer (some ⟨m, 0, none⟩), .int .i64 root, .int .i64 p] w fun e w' => e = .returned (.tuple #[.agg #[.bool s.e.V, .bool s.e.W, .bool s.e.X, .bool s.e.B, .int .i64 s.e.F], .bool s.ok]) ∧ Below w.heap.size w w' := by
  subst hs
  exact look_any m F n c z root p w hM
theorem look_F {n : Nat} {z : Nat → Int} {root p : Int} (h : (lookS n z root p).ok = true) : 0 ≤ (lookS n z root p).e.F ∧ (lookS n z root p).e.F < n := by
  unfold lookS at h ⊢
  by_cases hp : 0 ≤ p ∧ p < 4096
  · rw [if_pos hp] at h ⊢
    unfold seenOf at h ⊢
    by_cases hf : (walkS n z root (p * 256) 0).f = 0
    · rw [if_pos hf]
      exact walkS_F hf
    · rw [if_neg hf] at h
      simp at h
  · rw [if_neg hp] at h
    simp at h
/-- How reached ends. -/
def ReachedEnd (n : Nat) (z : Nat → Int) (w : World) (e : Ending) (w' : World) : Prop :=
  ∃ ub U, e = .returned (.slice (some ⟨ub, 0, none⟩) n n) ∧ Bools w' ub n U ∧ w.heap.size ≤ ub ∧ Only [] w w' ∧ U 0 = true ∧
    (∀ i : Nat, i < 64 → (slotE n z 0 i).V = true → (slotE n z 0 i).B = false → ∀ q : Nat, q < n → (slotE n z 0 i).F = q → U q = true) ∧
    (∀ p : Nat, p < 4096 → (lookS n z 0 p).ok = true → ∀ q : Nat, (lookS n z 0 p).e.F = q → U q = true)
set_option maxRecDepth 100000 in
set_option maxHeartbeats 4000000 in
theorem reached_any (m F n c : Nat) (z : Nat → Int) (w : World) (hM : Mem w m F n c z) (n1 : 1 ≤ n) (n2 : n ≤ 100) :
    Calls Try.prog 21 #[.pointer (some ⟨m, 0, none⟩)] w (ReachedEnd n z w) := by
  have hmk := fun wx => made_bools n wx (by omega)
  have hmr := made_row n w
  have HM := Lib.hid hM
  have hh := hM.head
  have c0 := hmr.cell 0 (by omega)
  have g0 := hmr.free 0
  have hr := hmr.set 0 (by omega)
  simp only [go_sem] at hr
  have R0 := Lib.hid hr
  clear hr
  have i0 : (0 : Int) < n := by omega
  clear hM hmr
  go_enter Try.func21, Try.ntmps21
  go_wp2_with (go_at_call 39; refine (frames_any m F n c _ hh).mono ?_; rintro e w' ⟨rfl, rfl⟩)
  clear hmk hh c0 g0 i0
  go_loopw [4] (fun i wr => ∃ (k : Nat) (U : Nat → Bool), k ≤ 64 ∧ i = .int .u32 k ∧ Bools wr w.heap.size n U ∧ Only [] w wr ∧ U 0 = true ∧
    ∀ i : Nat, i < k → (slotE n z 0 i).V = true → (slotE n z 0 i).B = false → ∀ q : Nat, q < n → (slotE n z 0 i).F = q → U q = true) (fun i _ => 64 - (intOf i).toNat)
  case atStart => exact ⟨0, tell1 (fun _ => false) 0, by omega, rfl, R0.out, Only.alloc _ _ _, tell1_same _ 0, fun i hi => by omega⟩
  case round =>
    obtain ⟨k, U, hk, rfl, hU, hO, hU0, hP⟩ := hrel
    have UH := Lib.hid hU
    have OH := Lib.hid hO
    have PH := Lib.hid hP
    have U0 := Lib.hid hU0
    clear hU hO hP hU0 R0
    by_cases hlt : k < 64
    · have MH := Lib.hid (HM.out.kept OH.out (by simp) (by simp))
      have HV := Lib.hid (rdw_lt (n := n) (z := z) (fun j hj => MH.out.row.b8 j hj) (4 * k))
      have HE : Hid (entOf (rdw n z (4 * k)) = slotE n z 0 k) := Lib.hid (by unfold slotE wAt; congr 2; omega)
      obtain ⟨⟨V, W, X, B, f⟩, hE⟩ : ∃ E, slotE n z 0 (k : Int) = E := ⟨_, rfl⟩
      have EE := Lib.hid hE
      have f0 := slotE_lt n z 0 k
      rw [hE] at HE f0
      clear hE
      go_wp2_with fail
      refine (word_at m F n c (4 * k) _ z _ MH.out (by omega) (by omega)).mono ?_
      rintro e w1 ⟨rfl, k1, rfl⟩
      generalize rdw n z (4 * k) = v at *
      have ho := Only.drewN [] wr k1
      have U1 := Lib.hid (UH.out.kept ho (by simp))
      have O1 := Lib.hid (OH.out.next ho (by simp))
      clear UH OH MH ho
      generalize wr.drewN k1 = w1 at *
      go_wp2_with fail
      refine (decode_any v w1 HV.out.1 HV.out.2).mono ?_
      rintro e w2 ⟨rfl, b2⟩
      have hE := HE.out
      unfold entOf at hE
      injection hE with q0 q1 q2 q3 q4
      rw [q0, q1, q2, q3, q4]
      have ho := Only.of b2 []
      have ha := Only.alloc [] w2 (.cells #[.bool V, .bool W, .bool X, .bool B, .int .i64 f] 50)
      have U3 := Lib.hid ((U1.out.kept ho (by simp)).kept ha (by simp))
      have O3 := Lib.hid ((O1.out.next ho (by simp)).next ha (by simp))
      have E3 := Lib.hid (five_new w2 V W X B f 50)
      clear U1 O1 ho ha b2 HE HV q0 q1 q2 q3 q4
      obtain ⟨e0, e1, e2, e3, e4⟩ := E3.out
      by_cases hc : V = true ∧ B = false ∧ f < n
      · obtain ⟨rfl, rfl, hfn⟩ := hc
        obtain ⟨q, rfl⟩ := Int.eq_ofNat_of_zero_le f0.1
        have hq : q < n := by omega
        have c1 := U3.out.cell q hq
        have g1 := U3.out.free q
        have dq : decide ((q : Int) < (n : Int)) = true := by simpa using hfn
        go_wp2
        go_roundw
        case rel =>
          refine ⟨k + 1, tell1 U q, by omega, by go_num, U3.out.set q hq, O3.out.next (Only.setCell _ (List.mem_singleton.2 rfl) q _) (by simp), tell1_mono q U0.out, fun i hi hV hB q' hq' hF => ?_⟩
          by_cases e : i = k
          · subst e
            rw [EE.out] at hF
            have : q = q' := by simp only at hF; omega
            subst this
            exact tell1_same U q
          · exact tell1_mono q (PH.out i (by omega) hV hB q' hq' hF)
        case measure => simp [intOf]; omega
      · have PN := Lib.hid (show ∀ i : Nat, i < k + 1 → (slotE n z 0 i).V = true → (slotE n z 0 i).B = false → ∀ q : Nat, q < n → (slotE n z 0 i).F = q → U q = true from fun i hi hV hB q' hq' hF => by
          by_cases e : i = k
          · subst e
            rw [EE.out] at hV hB hF
            exact absurd ⟨hV, hB, by simp only at hF; omega⟩ hc
          · exact PH.out i (by omega) hV hB q' hq' hF)
        cases V
        · clear hc
          go_wp2
          go_roundw
          case rel => exact ⟨k + 1, U, by omega, by go_num, U3.out, O3.out, U0.out, PN.out⟩
          case measure => simp [intOf]; omega
        · cases B
          · have dq : decide (f < (n : Int)) = false := by
              have hx : ¬ f < (n : Int) := fun h => hc ⟨rfl, rfl, h⟩
              simp; omega
            clear hc
            go_wp2
            go_roundw
            case rel => exact ⟨k + 1, U, by omega, by go_num, U3.out, O3.out, U0.out, PN.out⟩
            case measure => simp [intOf]; omega
          · clear hc
            go_wp2
            go_roundw
            case rel => exact ⟨k + 1, U, by omega, by go_num, U3.out, O3.out, U0.out, PN.out⟩
            case measure => simp [intOf]; omega
    · have e : k = 64 := by omega
      subst e
      have MH := Lib.hid (HM.out.kept OH.out (by simp) (by simp))
      clear hk hlt
      go_wp2_with fail
      refine (pages_any m F n c z 0 wr MH.out).mono ?_
      rintro e w2 ⟨pl, cl, rfl, hR, ho⟩
      have M2 := Lib.hid (MH.out.kept ho (by simp) (by simp))
      have U2 := Lib.hid (UH.out.kept ho (by simp))
      have O2 := Lib.hid (OH.out.next ho (by simp))
      have RH := Lib.hid hR
      have hl := pagesL_len n z 0 4096
      have LL := Lib.hid (show ∀ j, j < (pagesL n z 0 4096).length → (pagesL n z 0 4096).getD j 0 < 4096 ∧ (lookS n z 0 ((pagesL n z 0 4096).getD j 0 : Nat)).ok = true from fun j hj => by
        have hm : (pagesL n z 0 4096).getD j 0 ∈ pagesL n z 0 4096 := by
          rw [List.getD_eq_getElem?_getD, List.getElem?_eq_getElem hj]
          exact List.getElem_mem hj
        unfold pagesL at hm
        rw [List.mem_filter, List.mem_range] at hm
        exact hm)
      have LM := Lib.hid (show ∀ p : Nat, p < 4096 → (lookS n z 0 (p : Int)).ok = true → ∃ j, j < (pagesL n z 0 4096).length ∧ (pagesL n z 0 4096).getD j 0 = p from fun p hp hok => by
        have hm : p ∈ pagesL n z 0 4096 := by
          unfold pagesL
          rw [List.mem_filter, List.mem_range]
          exact ⟨hp, hok⟩
        obtain ⟨j, hj, e⟩ := List.getElem_of_mem hm
        exact ⟨j, hj, by rw [List.getD_eq_getElem?_getD, List.getElem?_eq_getElem hj]; exact e⟩)
      generalize pagesL n z 0 4096 = l at *
      clear hR ho MH UH OH
      go_wp2_with fail
      go_loopw [9] (fun i w5 => ∃ (k : Nat) (U' : Nat → Bool), k ≤ l.length ∧ i = .int .i64 k ∧ Bools w5 w.heap.size n U' ∧ Only [w.heap.size] w2 w5 ∧ (∀ j, U j = true → U' j = true) ∧
        ∀ j : Nat, j < k → ∀ q : Nat, (lookS n z 0 (l.getD j 0 : Nat)).e.F = q → U' q = true) (fun i _ => l.length - (intOf i).toNat)
      case atStart => exact ⟨0, U, by omega, rfl, U2.out, Only.refl _ _, fun _ h => h, fun j hj => by omega⟩
      case round =>
        obtain ⟨k, U', hk, rfl, hU, hO, hm, hP⟩ := hrel
        have UH := Lib.hid hU
        have OH := Lib.hid hO
        have HMO := Lib.hid hm
        have PP := Lib.hid hP
        have lz := U2.out.lt
        clear hU hO hm hP
        by_cases hlt : k < l.length
        · obtain ⟨b, off, epl, hcc⟩ := RH.out (by omega)
          subst epl
          have hc := hcc k hlt
          have hne : b ≠ w.heap.size := fun e => by
            subst e
            obtain ⟨y, hy⟩ := U2.out.only _ _ hc
            cases hy
          have c0 := (OH.out.cell (World.block_lt_of_cell? w2 _ hc) (by simpa using hne) (off + k)).trans hc
          obtain ⟨hp, hok⟩ := LL.out k hlt
          generalize hpp : l.getD k 0 = p at *
          have hF := look_F hok
          obtain ⟨⟨⟨V, W, X, B, f⟩, ok⟩, hS⟩ : ∃ s, lookS n z 0 (p : Int) = s := ⟨_, rfl⟩
          rw [hS] at hok hF
          simp only at hok hF
          subst hok
          obtain ⟨q, rfl⟩ := Int.eq_ofNat_of_zero_le hF.1
          have hq : q < n := by omega
          have dq : decide ((q : Int) < (n : Int)) = true := by simpa using hF.2
          have hki : (k : Int) < l.length := by omega
          have SS := Lib.hid hS
          have PPP := Lib.hid hpp
          have M5 := Lib.hid (M2.out.kept OH.out (by have := HM.out.lt; simp; omega) (by have := HM.out.row.lt; simp; omega))
          clear hcc hc hF hS hpp hne
          go_wp2_with fail
          refine (look_to m F n c z 0 p _ wr M5.out SS.out).mono ?_
          rintro e w6 ⟨rfl, b6⟩
          have ho := Only.of b6 []
          have ha := Only.alloc [] w6 (.cells #[.bool V, .bool W, .bool X, .bool B, .int .i64 q] 50)
          have U7 := Lib.hid ((UH.out.kept ho (by simp)).kept ha (by simp))
          have O7 := Lib.hid ((OH.out.next ho (by simp)).next ha (by simp))
          have E7 := Lib.hid (five_new w6 V W X B q 50)
          clear UH OH M5 ho ha b6 c0
          dsimp only
          have e4 := E7.out.c4
          have c1 := U7.out.cell q hq
          have g1 := U7.out.free q
          go_wp2
          go_roundw
          case rel =>
            refine ⟨k + 1, tell1 U' q, by omega, by go_num, U7.out.set q hq, O7.out.next (Only.setCell _ (List.mem_singleton.2 rfl) q _) (by simp), fun j hj => tell1_mono q (HMO.out j hj), fun j hj q' hF => ?_⟩
            by_cases e : j = k
            · subst e
              rw [PPP.out, SS.out] at hF
              have : q = q' := by simp only at hF; omega
              subst this
              exact tell1_same U' q
            · exact tell1_mono q (PP.out j (by omega) q' hF)
          case measure => simp [intOf]; omega
        · have e : k = l.length := by omega
          subst e
          go_wp2
          go_ret
          exact ⟨w.heap.size, U', rfl, UH.out, Nat.le_refl _, O2.out.next OH.out (by simp), HMO.out 0 U0.out, fun i hi hV hB q hq hF => HMO.out q (PH.out i hi hV hB q hq hF), fun p hp hok q hF => by
            obtain ⟨j, hj, e⟩ := LM.out p hp hok
            exact PP.out j hj q (by rw [e]; exact hF)⟩
end Ns
end Go.Proofs.Ytdjglmfilhodlaa
