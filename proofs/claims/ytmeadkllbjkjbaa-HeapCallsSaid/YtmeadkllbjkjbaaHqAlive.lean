/-
  What the laws' SameInts and alive answer, of whatever keeps what a heap is asked for. Conditions: that rows of numbers lie there; none for alive.
-/
import Derived.Test.YtmeadkllbjkjbaaHqBase
import Derived.Deep.LoopGhost
import Derived.WalkMore
namespace Go.Proofs.Ytmeadkllbjkjbaa
open Go.RowKit
namespace Hq
open Ph (Only)
theorem eq_upto {l m : List Nat} (hl : l.length = m.length) (h : ∀ i, i < l.length → l[i]? = m[i]?) : l = m := by
  refine List.ext_getElem? fun i => ?_
  by_cases hi : i < l.length
  · exact h i hi
  · rw [List.getElem?_eq_none (by omega), List.getElem?_eq_none (by omega)]
set_option maxRecDepth 100000 in
theorem same_any (B C : Nat) (va vb : Value) (l m : List Nat) (w : World) (hl : l.length ≤ 1024) (_ : m.length ≤ 1024) (ha : Seen B w va l) (hb : Seen C w vb m) :
    Calls Try.prog 18 #[va, vb] w fun e w' => e = .returned (.bool (decide (l = m))) ∧ Below w.heap.size w w' := by
  obtain ⟨ans, hans⟩ : ∃ ans, ans = decide (l = m) := ⟨_, rfl⟩
  rw [← hans]
  have HN := Lib.hid hans
  clear hans
  have HA := Lib.hid ha
  have HB := Lib.hid hb
  obtain ⟨aa, ca, rfl⟩ := ha.form
  obtain ⟨ab, cb, rfl⟩ := hb.form
  clear ha hb
  by_cases hlm : l.length = m.length
  · go_enter Try.func18, Try.ntmps18
    have d : ((l.length : Int) != (m.length : Int)) = false := by simp; omega
    have HLM := Lib.hid hlm
    clear hlm
    go_wp2_with fail
    go_loopw [5] (fun c wr => ∃ i : Nat, c = .int .i64 i ∧ i ≤ l.length ∧ (∀ j, j < i → l[j]? = m[j]?) ∧ Below w.heap.size w wr) (fun c _ => l.length - (intOf c).toNat)
    case atStart => exact ⟨0, rfl, Nat.zero_le _, fun j hj => absurd hj (by omega), Below.refl _ _⟩
    case round =>
      obtain ⟨i, rfl, hi, hE, hBw⟩ := hrel
      have HE := Lib.hid hE
      have HW := Lib.hid hBw
      clear hE hBw
      by_cases hil : i < l.length
      · have him : i < m.length := by have := HLM.out; omega
        obtain ⟨x, hx⟩ : ∃ x, l[i]? = some x := ⟨l[i], List.getElem?_eq_getElem hil⟩
        obtain ⟨y, hy⟩ : ∃ y, m[i]? = some y := ⟨m[i], List.getElem?_eq_getElem him⟩
        obtain ⟨ba, oa, hv, hblt, _, hc⟩ := (HA.out.kept (Only.of HW.out []) (by simp)).at hx
        obtain ⟨bb, ob, hv', hblt', _, hc'⟩ := (HB.out.kept (Only.of HW.out []) (by simp)).at hy
        subst hv hv'
        have HX := Lib.hid hx
        have HY := Lib.hid hy
        clear hx hy d
        by_cases hxy : x = y
        · subst hxy
          go_wp2_with fail
          go_region
          go_wp2_with fail
          go_roundw
          case rel =>
            have st : ∀ j, j < i + 1 → l[j]? = m[j]? := fun j hj => by
              by_cases e : j = i
              · subst e; rw [HX.out, HY.out]
              · exact HE.out j (by omega)
            have hbd := HW.out.drew
            generalize wr.drewN 1 = wq at *
            first | exact ⟨i + 1, rfl, by omega, st, hbd⟩ | ((repeat apply Exists.intro); exact ⟨⟨i + 1, rfl, by omega, st, hbd⟩, rfl⟩)
          case measure => simp only [intOf, Int.toNat_natCast]; omega
        · have dx : ((x : Int) == (y : Int)) = false := by simp; omega
          have hxy' : ¬ (x : Int) = (y : Int) := by omega
          have e : decide (l = m) = false := decide_eq_false (fun e => by
            have := HX.out
            rw [e, HY.out] at this
            injection this with this
            exact hxy this.symm)
          obtain rfl : ans = false := HN.out.trans e
          clear e
          go_wp2_with fail
          go_region
          go_wp2_with fail
          go_ret
          exact ⟨rfl, HW.out.drew⟩
      · obtain rfl : i = l.length := by omega
        have e : decide (l = m) = true := decide_eq_true (eq_upto HLM.out HE.out)
        obtain rfl : ans = true := HN.out.trans e
        clear e
        go_wp2_with fail
        go_ret
        exact ⟨rfl, HW.out⟩
  · have d : ((l.length : Int) == (m.length : Int)) = false := by simp; omega
    have e : decide (l = m) = false := decide_eq_false (fun e => hlm (by rw [e]))
    obtain rfl : ans = false := HN.out.trans e
    clear e
    go_enter Try.func18, Try.ntmps18
    go_wp2_with fail
    go_ret
    exact ⟨rfl, Below.refl _ _⟩
theorem two_seen (w : World) (x y : Nat) : Seen w.heap.size (w.alloc (.cells #[.int .i64 (x : Int), .int .i64 (y : Int)] 3)) (.slice (some ⟨w.heap.size, 0, none⟩) 2 2) [x, y] :=
  ⟨_, 2, rfl, by simp, fun _ => ⟨w.heap.size, 0, rfl, Nat.le_refl _, by simp, fun i z hz => by
    have hi := (List.getElem?_eq_some_iff.1 hz).1
    rw [World.cell?_alloc_new, Nat.zero_add]
    match i, hi, hz with
    | 0, _, hz => obtain rfl : x = z := by simpa using hz
                  rfl
    | 1, _, hz => obtain rfl : y = z := by simpa using hz
                  rfl⟩⟩
theorem n1 : ((1 : Nat) : Int) = 1 := rfl
theorem n2 : ((2 : Nat) : Int) = 2 := rfl
theorem n3 : ((3 : Nat) : Int) = 3 := rfl
theorem n9 : ((9 : Nat) : Int) = 9 := rfl
theorem a1 : pshE 1 [] = 0 ∧ pshL 1 9 [] = [(1, 9)] := ⟨by kernel_rfl, by kernel_rfl⟩
theorem a2 : pshE 2 [(1, 9)] = 0 ∧ pshL 2 3 [(1, 9)] = [(2, 3), (1, 9)] := ⟨by kernel_rfl, by kernel_rfl⟩
theorem a3 : chE 1 [(2, 3), (1, 9)] = 0 ∧ chL 1 2 [(2, 3), (1, 9)] = [(1, 2), (2, 3)] := ⟨by kernel_rfl, by kernel_rfl⟩
theorem a4 : pshE 1 [(1, 2), (2, 3)] = 13 ∧ pshL 1 1 [(1, 2), (2, 3)] = [(1, 2), (2, 3)] := ⟨by kernel_rfl, by kernel_rfl⟩
theorem a5 : chE 1 [(2, 3)] = 12 ∧ chL 1 2 [(2, 3)] = [(2, 3)] := ⟨by kernel_rfl, by kernel_rfl⟩
theorem a6 : rmB 2 [(2, 3)] = true ∧ rmL 2 [(2, 3)] = [] := ⟨by kernel_rfl, by kernel_rfl⟩
theorem a7 : rmB 2 [] = false ∧ rmL 2 [] = [] := ⟨by kernel_rfl, by kernel_rfl⟩
set_option maxRecDepth 100000 in
set_option maxHeartbeats 4000000 in
theorem alive_any (K : Hk) (w : World) : Calls Try.prog 7 #[] w fun e w' => e = .returned (.bool true) ∧ Below w.heap.size w w' := by
  go_enter Try.func7, Try.ntmps7
  go_wp2_with fail
  refine (K.new w).mono ?_
  rintro e w1 ⟨p, F1, rfl, hW, hF, hO⟩
  have H1 : On K w.heap.size w p F1 [] w1 := ⟨hW, hF, hO.below (Nat.le_refl _) (by simp)⟩
  clear hW hF hO
  go_wp2_with fail
  have C := K.push w1 p F1 [] 1 9 H1.hp (by decide) (by decide)
  rw [a1.1, a1.2, n9] at C
  refine C.mono ?_
  clear C
  rintro e w2 ⟨rfl, hg⟩
  obtain ⟨F2, H2, -, -⟩ := H1.grown hg (Nat.le_refl _)
  clear hg H1
  go_wp2_with fail
  have C := K.push w2 p F2 [(1, 9)] 2 3 H2.hp (by decide) (by decide)
  rw [a2.1, a2.2, n3] at C
  refine C.mono ?_
  clear C
  rintro e w3 ⟨rfl, hg⟩
  obtain ⟨F3, H3, -, -⟩ := H2.grown hg (Nat.le_refl _)
  clear hg H2
  go_wp2_with fail
  have C := K.chg w3 p F3 [(2, 3), (1, 9)] 1 2 H3.hp (by decide) (by decide)
  rw [a3.1, a3.2, n2] at C
  refine C.mono ?_
  clear C
  rintro e w4 ⟨rfl, hg⟩
  obtain ⟨F4, H4, -, -⟩ := H3.grown hg (Nat.le_refl _)
  clear hg H3
  go_wp2_with fail
  have C := K.push w4 p F4 [(1, 2), (2, 3)] 1 1 H4.hp (by decide) (by decide)
  rw [a4.1, a4.2, n1] at C
  refine C.mono ?_
  clear C
  rintro e w5 ⟨rfl, hg⟩
  obtain ⟨F5, H5, -, -⟩ := H4.grown hg (Nat.le_refl _)
  clear hg H4
  go_wp2_with fail
  refine (K.list w5 p F5 [(1, 2), (2, 3)] H5.hp).mono ?_
  rintro e w6 ⟨v, rfl, hS, hO⟩
  have H6 := H5.quiet hO (Nat.le_refl _)
  have hB5 := H5.size (Nat.le_refl _)
  have h5 := Lib.hid (K.lt H5.hp)
  have S6 := Lib.hid hS
  obtain ⟨va, vc, rfl⟩ := hS.form
  clear H5 hO hS
  go_wp2_with fail
  refine (K.pop w6 p F5 [(1, 2), (2, 3)] H6.hp).mono ?_
  rintro e w7 ⟨he, hg⟩
  replace he : e = .returned (.tuple #[.int .i64 1, .int .u64 2, .bool true]) := he
  subst he
  obtain ⟨F7, H7, ho7, hf7⟩ := H6.grown hg (Nat.le_refl _)
  have HO7 := Lib.hid ho7
  have F7lt : Hid (∀ x ∈ F7, x < w5.heap.size ∨ w6.heap.size ≤ x) := Lib.hid (fun x hx => (hf7 x hx).imp (h5.out x) id)
  have z7 := Lib.hid ho7.size
  clear hg H6 ho7 hf7
  change On K w.heap.size w p F7 [(2, 3)] w7 at H7
  go_wp2_with fail
  have C := K.chg w7 p F7 [(2, 3)] 1 2 H7.hp (by decide) (by decide)
  rw [a5.1, a5.2, n2] at C
  refine C.mono ?_
  clear C
  rintro e w8 ⟨rfl, hg⟩
  obtain ⟨F8, H8, ho8, hf8⟩ := H7.grown hg (Nat.le_refl _)
  have S8 := Lib.hid (S6.out.kept (S := F5 ++ F7) ((HO7.out.mono (by simp; exact fun x h => Or.inl h)).trans (ho8.mono (by simp; exact fun x h => Or.inr h))) (fun x hx => by
    rcases List.mem_append.1 hx with h | h
    · exact Or.inl (h5.out x h)
    · exact F7lt.out x h))
  clear hg H7 ho8 hf8
  go_wp2_with fail
  have oA := Only.alloc [] w8 (.cells #[.int .i64 1, .int .i64 2] 3)
  have C := same_any w5.heap.size w8.heap.size (.slice va 2 vc) (.slice (some ⟨w8.heap.size, 0, none⟩) 2 2) [1, 2] [1, 2] (w8.alloc (.cells #[.int .i64 1, .int .i64 2] 3)) (by decide) (by decide) (S8.out.kept oA (by simp)) (two_seen w8 1 2)
  have H9 := H8.quiet oA (Nat.le_refl _)
  refine C.mono ?_
  clear C
  rintro e w9 ⟨rfl, hB⟩
  have H10 := H9.quiet (Only.of hB []) (Nat.le_refl _)
  have hd : decide (([1, 2] : List Nat) = [1, 2]) = true := rfl
  clear H8 H9 oA hB S8
  go_wp2_with fail
  refine (K.len w9 p F8 [(2, 3)] H10.hp).mono ?_
  rintro e w10 ⟨rfl, rfl⟩
  have hln : ((([(2, 3)] : List ItT).length : Nat) : Int) = 1 := rfl
  rw [hln]
  clear hln
  go_wp2_with fail
  have C := K.rem w9 p F8 [(2, 3)] 2 H10.hp (by decide)
  rw [a6.1, a6.2] at C
  refine C.mono ?_
  clear C
  rintro e w11 ⟨rfl, hg⟩
  obtain ⟨F11, H11, -, -⟩ := H10.grown hg (Nat.le_refl _)
  clear hg H10
  go_wp2_with fail
  have C := K.rem w11 p F11 [] 2 H11.hp (by decide)
  rw [a7.1, a7.2] at C
  refine C.mono ?_
  clear C
  rintro e w12 ⟨rfl, hg⟩
  obtain ⟨F12, H12, -, -⟩ := H11.grown hg (Nat.le_refl _)
  clear hg H11
  go_wp2_with fail
  go_ret
  exact ⟨rfl, H12.below⟩
end Hq
end Go.Proofs.Ytmeadkllbjkjbaa
