/-
  What the pool's iterator hands over: the numbers of a state, rising, be its rounds such that read or such that write what it has passed; what in and least answer, and what slices.Collect makes of it. Conditions: that a pool lies there.
-/
import Derived.Test.YtcpadnedfnkieaaVmBase
import Derived.Test.YtcpadnedfnkieaaVmRange
namespace Go.Proofs.Ytcpadnedfnkieaa
open Go.RowKit
attribute [local go_sem] Oper.semAt_some
namespace Vm
open Ph (Only)

/-- The numbers of a state, of the first, rising. -/
def nums (v : Int) (s : Nat → Int) : Nat → List Nat
  | 0 => []
  | n + 1 => nums v s n ++ (if s n = v then [n + 1] else [])
section
variable {v : Int} {s : Nat → Int}
theorem nums_mem : ∀ {n x : Nat}, x ∈ nums v s n → ∃ i, x = i + 1 ∧ i < n ∧ s i = v
  | 0, x, h => by cases h
  | n + 1, x, h => by
    unfold nums at h
    rcases List.mem_append.1 h with h | h
    · obtain ⟨i, e, hi, hs⟩ := nums_mem h
      exact ⟨i, e, by omega, hs⟩
    · split at h
      · rename_i hp
        simp at h
        exact ⟨n, h, by omega, hp⟩
      · cases h
theorem nums_len : ∀ (n : Nat), (nums v s n).length = cnt v s n
  | 0 => rfl
  | n + 1 => by
    unfold nums cnt
    rw [List.length_append, nums_len n]
    split <;> simp
theorem nums_tn (s : Nat → Int) : ∀ n, nums 1 s n = tnL s n
  | 0 => rfl
  | n + 1 => by rw [tnL_next, ← nums_tn s n]; rfl
theorem nums_yes {n : Nat} (h : s n = v) : nums v s (n + 1) = nums v s n ++ [n + 1] := by
  show nums v s n ++ _ = _
  rw [if_pos h]
theorem nums_no {n : Nat} (h : ¬ s n = v) : nums v s (n + 1) = nums v s n := by
  show nums v s n ++ _ = _
  rw [if_neg h, List.append_nil]
theorem nums_first : ∀ {n : Nat}, nums v s n = [] → lst v s n = none
  | 0, _ => rfl
  | n + 1, h => by
    by_cases e : s n = v
    · rw [nums_yes e] at h; simp at h
    · rw [nums_no e] at h
      unfold lst
      rw [nums_first h]
      exact if_neg e
theorem nums_one {n i : Nat} (hi : i < n) (hs : s i = v) (h : nums v s i = []) : lst v s n = some i :=
  lst_at hi hs (fun j hj => lst_none (nums_first h) j hj)
end
abbrev encN (x : Nat) : Array Value := #[.int .i64 (x : Int)]
theorem grown_drewN (w : World) (n : Nat) (row : Option Nat) : w.grownBy (w.drewN n) row := ⟨rfl, rfl, rfl, Nat.le_refl _, fun _ _ _ => rfl⟩
set_option maxRecDepth 100000 in
set_option maxHeartbeats 1000000 in
/-- Whatever its rounds do, as long as what it has not passed stays. -/
theorem in1_base (n : Nat) (hn : 1 ≤ n) (l b0 b1 p B m : Nat) (st : Int) (s : Nat → Int) (V : List Nat → Nat → Int) (hV : ∀ i, V (nums st s i) i = s i) (hm : m ≤ 255) (J Jx : List Nat → World → Prop) (W : World) (hab : AbidesFrom W.heap.size J)
    (hJ : ∀ pre X, J pre X → Bx1 X b0 (.pointer (some ⟨p, 0, none⟩)) ∧ Bx1 X b1 (.int .i64 st) ∧ Pl X p B m (V pre))
    (hY : ∀ i X, i < m → s i = st → J (nums st s i) X → YieldAt Fence.wide (n - 1) Try.prog l (encN (i + 1)) X fun e X' => (e = .returned (.bool true) ∧ J (nums st s (i + 1)) X') ∨ (e = .returned (.bool false) ∧ Jx (nums st s (i + 1)) X'))
    (h0 : J [] W) :
    CallsIn Fence.wide n Try.prog 31 #[.func (.yield l) #[] #[], .pointer (some ⟨b0, 0, none⟩), .pointer (some ⟨b1, 0, none⟩)] W fun e W' => (∃ v, e = .returned v) ∧
      ((∃ xs, xs = nums st s m ∧ J xs W') ∨ (∃ pre, (∃ i, i < m ∧ s i = st ∧ pre = nums st s (i + 1)) ∧ Jx pre W')) := by
  obtain ⟨g0, _, gp⟩ := hJ [] W h0
  have c0 := g0.c
  have cp := gp.head
  have HJ := Lib.hid hJ
  have HY := Lib.hid hY
  have HA := Lib.hid hab
  have HV := Lib.hid hV
  have H0 := Lib.hid h0
  clear g0 gp hJ hY hab hV h0
  refine callsIn_of_wp Try.func31 rfl trivial ?_ rfl
  simp only [Try.ntmps31, List.size_toArray, List.length_cons, List.length_nil, Nat.reduceAdd, Nat.reduceSub, Array.replicate_succ, Array.replicate_zero, List.push_toArray, List.append_toArray, List.nil_append, List.cons_append]
  gi_wp2
  gi_loopw [11] (fun c wr => ∃ i : Nat, c = .int .i64 i ∧ i ≤ m ∧ Hid (J (nums st s i) wr))
    (fun c _ => m - (intOf c).toNat)
  case atStart => exact ⟨0, rfl, Nat.zero_le _, H0⟩
  case round =>
    obtain ⟨i, rfl, hi, hj⟩ := hrel
    by_cases hlt : i < m
    · obtain ⟨g0, g1, gp⟩ := HJ.out _ _ hj.out
      have k1 := g1.c
      have ks := gp.row.cell i hlt
      rw [HV.out i] at ks
      have kb := gp.row.lt
      clear g0 g1 gp
      by_cases hs : s i = st
      · rw [hs] at ks
        have d : ((st : Int) == st) = true := by simp
        obtain ⟨fn, tmps, assign, body, hy, hR⟩ := HY.out i wr hlt hs hj.out
        dsimp only [encN] at hy
        push_cast at hy
        gi_wp2
        refine hR.mono ?_
        rintro e W3 (⟨rfl, hJ3⟩ | ⟨rfl, hJx3⟩)
        · gi_wp2
          go_roundw
          case rel => exact ⟨i + 1, by push_cast; rfl, by omega, Lib.hid hJ3⟩
          case measure => simp only [intOf]; omega
        · gi_wp2
          refine bodyPost_ret (results_none rfl _ _ _) rfl ?_
          exact ⟨⟨_, rfl⟩, .inr ⟨_, ⟨i, hlt, hs, rfl⟩, hJx3⟩⟩
      · have d : ((s i : Int) == st) = false := by simp; exact hs
        gi_wp2
        refine ⟨(fun f h => absurd h (by simp)), ?_⟩
        gi_wp2
        go_roundw
        case rel => exact ⟨i + 1, by push_cast; rfl, by omega, by rw [nums_no hs]; exact hj⟩
        case measure => simp only [intOf]; omega
    · have e : i = m := by omega
      subst e
      gi_wp2
      go_end0
      exact ⟨⟨_, rfl⟩, .inl ⟨_, rfl, hj.out⟩⟩
/-- A pool and the two boxes that its iterator reads. -/
structure Src (w : World) (b0 b1 p B m : Nat) (st : Int) (s : Nat → Int) : Prop where
  b0 : Bx1 w b0 (.pointer (some ⟨p, 0, none⟩))
  b1 : Bx1 w b1 (.int .i64 st)
  pl : Pl w p B m s
theorem Src.kept {w w' : World} {b0 b1 p B m : Nat} {st : Int} {s : Nat → Int} {S : List Nat} (h : Src w b0 b1 p B m st s) (ho : Only S w w') (h0 : b0 ∉ S) (h1 : b1 ∉ S) (hp : p ∉ S) (hB : B ∉ S) : Src w' b0 b1 p B m st s :=
  ⟨h.b0.kept ho h0, h.b1.kept ho h1, h.pl.kept ho hp hB⟩
theorem below_from {β : Type} {n₀ B : Nat} {w₀ : World} (hn : n₀ ≤ w₀.heap.size) (hB : n₀ ≤ B) : AbidesFrom B (fun (_ : β) W => Below n₀ w₀ W) :=
  fun _ _ _ _ hs hg hr => hs.grown hg (Nat.le_trans hn hs.size) (fun k e => Nat.le_trans hB (hr k e).1)
/-- Rounds that keep what lay. -/
theorem in1_stops (n : Nat) (hn : 1 ≤ n) (b0 b1 p B m : Nat) (st : Int) (s : Nat → Int) (hm : m ≤ 255) (w : World) (h : Src w b0 b1 p B m st s) :
    SeqStopsK Fence.wide n Try.prog 31 #[.pointer (some ⟨b0, 0, none⟩), .pointer (some ⟨b1, 0, none⟩)] encN (Below w.heap.size)
      (fun xs => xs = nums st s m) (fun pre => ∃ i, i < m ∧ s i = st ∧ pre = nums st s (i + 1)) m w := fun l J Jx W hW hJ _ hY h0 => by
  refine (in1_base n hn l b0 b1 p B m st s (fun _ => s) (fun _ => rfl) hm (fun pre X => J pre X ∧ Below w.heap.size w X) Jx W (fun pre X X' row hs hg hr => ⟨hJ pre X X' row hs.1 hg hr, below_from (β := Unit) (Nat.le_refl _) hW.size () X X' row hs.2 hg hr⟩)
    (fun pre X hx => ?_) (fun i X hi hs hx => ?_) ⟨h0, hW⟩).mono ?_
  · have h' := h.kept (Only.of hx.2 []) (by simp) (by simp) (by simp) (by simp)
    exact ⟨h'.b0, h'.b1, h'.pl⟩
  · have hlen : (nums st s i).length < m := by rw [nums_len]; have := cnt_le (v := st) (s := s) i; omega
    refine (hY (nums st s i) (i + 1) X hx.1 hlen).mono ?_
    rintro e X' (⟨rfl, hj, hb⟩ | ⟨rfl, hj⟩)
    · exact .inl ⟨rfl, by rw [nums_yes hs]; exact hj, hx.2.trans hb⟩
    · exact .inr ⟨rfl, by rw [nums_yes hs]; exact hj⟩
  · rintro e W' ⟨hv, (⟨xs, hxs, hj, _⟩ | ⟨pre, hp, hj⟩)⟩
    · exact ⟨hv, .inl ⟨xs, hxs, hj⟩⟩
    · exact ⟨hv, .inr ⟨pre, hp, hj⟩⟩
/-- Rounds that write what it has passed. -/
theorem in1_tells (n : Nat) (hn : 1 ≤ n) (b0 b1 p B m : Nat) (st : Int) (s : Nat → Int) (V : List Nat → Nat → Int) (hV : ∀ i, V (nums st s i) i = s i) (hm : m ≤ 255) (Bn : Nat) (I : List Nat → World → Prop)
    (hI : ∀ pre X, I pre X → Src X b0 b1 p B m st (V pre)) :
    Tells Fence.wide n Try.prog 31 #[.pointer (some ⟨b0, 0, none⟩), .pointer (some ⟨b1, 0, none⟩)] encN Bn I
      (fun pre x => ∃ i, i < m ∧ s i = st ∧ pre = nums st s i ∧ x = i + 1) (fun xs => xs = nums st s m) := fun l J W _ hJI hJ hY h0 => by
  refine (in1_base n hn l b0 b1 p B m st s V hV hm J (fun _ _ => False) W hJ (fun pre X hx => ?_) (fun i X hi hs hx => ?_) h0).mono ?_
  · have h' := hI pre X (hJI pre X hx)
    exact ⟨h'.b0, h'.b1, h'.pl⟩
  · refine (hY (nums st s i) (i + 1) X hx ⟨i, hi, hs, rfl, rfl⟩).mono ?_
    rintro e X' ⟨rfl, hj⟩
    exact .inl ⟨rfl, by rw [nums_yes hs]; exact hj⟩
  · rintro e W' ⟨hv, (⟨xs, hxs, hj⟩ | ⟨pre, _, hj⟩)⟩
    · exact ⟨hv, xs, hxs, hj⟩
    · exact hj.elim
theorem in_any (p : Nat) (st : Int) (w : World) :
    Calls Try.prog 24 #[.pointer (some ⟨p, 0, none⟩), .int .i64 st] w fun e w' => e = .returned (.func (.func 31) #[] #[.pointer (some ⟨w.heap.size, 0, none⟩), .pointer (some ⟨w.heap.size + 1, 0, none⟩)]) ∧
      w' = (w.alloc (.cells #[.pointer (some ⟨p, 0, none⟩)] 24)).alloc (.cells #[.int .i64 st] 3) := by
  go_enter Try.func24, Try.ntmps24
  go_wp2
  go_ret
  exact ⟨rfl, rfl⟩
theorem src_new {w : World} {p B m : Nat} {s : Nat → Int} (h : Pl w p B m s) (st : Int) (t t' : TypeId) : Src ((w.alloc (.cells #[.pointer (some ⟨p, 0, none⟩)] t)).alloc (.cells #[.int .i64 st] t')) w.heap.size (w.heap.size + 1) p B m st s := by
  have o1 := Only.alloc [] w (.cells #[.pointer (some ⟨p, 0, none⟩)] t)
  have o2 := Only.alloc [] (w.alloc (.cells #[.pointer (some ⟨p, 0, none⟩)] t)) (.cells #[.int .i64 st] t')
  exact ⟨(Bx1.new w _ t rfl).kept o2 (by simp), Bx1.new _ _ t' (by rw [World.size_alloc]), (h.kept o1 (by simp) (by simp)).kept o2 (by simp) (by simp)⟩
end Vm
end Go.Proofs.Ytcpadnedfnkieaa
