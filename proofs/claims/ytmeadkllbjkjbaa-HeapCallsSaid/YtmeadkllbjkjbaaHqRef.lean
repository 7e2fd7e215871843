/-
  The document's own heap as it lies: its items in order; what its Index answers; appends of parts of rows. Conditions: that it lies there.
-/
import Derived.Test.YtmeadkllbjkjbaaHqMinsM
import Derived.BigQuiet
import Derived.Deep.RegionHeld3
import Derived.Deep.RegionLaw
import Derived.Deep.CutRange
import Derived.Deep.CutBlock
namespace Go.Proofs.Ytmeadkllbjkjbaa
open Go.RowKit
namespace Hq
open Ph (Only)
open Wh (Srt Uni ins del has mem_ins has_iff len_ins)
theorem add_eq (b off k : Nat) : ({ block := b, off := off } : Addr).add k = ⟨b, off + k, none⟩ := by simp [Addr.add]
abbrev dV (x : ItT) : Value := .agg #[.int .i64 (x.1 : Nat), .int .u64 (x.2 : Nat)]
def encD (x : ItT) : List Value := [.int .i64 (x.1 : Nat), .int .u64 (x.2 : Nat)]
def flatD (l : List ItT) : List Value := l.flatMap encD
theorem flatD_snoc (l : List ItT) (x : ItT) : flatD (l ++ [x]) = flatD l ++ encD x := by simp [flatD]
theorem flatD_append (l m : List ItT) : flatD (l ++ m) = flatD l ++ flatD m := by simp [flatD]
theorem flatD_len : ∀ l : List ItT, (flatD l).length = l.length * 2
  | [] => rfl
  | x :: r => by
    have := flatD_len r
    show (encD x ++ flatD r).length = _
    rw [List.length_append, this]
    simp [encD]
    omega
theorem flatD_at : ∀ {l : List ItT} {i : Nat} {x : ItT}, l[i]? = some x → (flatD l)[i * 2]? = some (.int .i64 (x.1 : Nat)) ∧ (flatD l)[i * 2 + 1]? = some (.int .u64 (x.2 : Nat))
  | [], i, x, h => by simp at h
  | y :: r, 0, x, h => by
    obtain rfl : y = x := by simpa using h
    exact ⟨rfl, rfl⟩
  | y :: r, i + 1, x, h => by
    have := flatD_at (l := r) (i := i) (x := x) (by simpa using h)
    have e : flatD (y :: r) = encD y ++ flatD r := rfl
    rw [e]
    simp only [encD]
    rw [show (i + 1) * 2 = i * 2 + 2 by omega, show i * 2 + 2 + 1 = i * 2 + 1 + 2 by omega]
    exact this
/-- A row of timers that is read; its block is new, and is none of F. -/
def SeenD (B : Nat) (F : List Nat) (w : World) (v : Value) (l : List ItT) : Prop :=
  ∃ a cap, v = .slice a l.length cap ∧ (a = none → cap = 0) ∧ (0 < l.length → ∃ b off, a = some ⟨b, off, none⟩ ∧ B ≤ b ∧ b ∉ F ∧ b < w.heap.size ∧ ∀ (i : Nat) (x : ItT), l[i]? = some x → w.cell? ⟨b, off + i * 2, none⟩ = some (.int .i64 (x.1 : Nat)) ∧ w.cell? ⟨b, off + i * 2 + 1, none⟩ = some (.int .u64 (x.2 : Nat)))
theorem SeenD.kept {B : Nat} {F : List Nat} {w w' : World} {v : Value} {l : List ItT} {S : List Nat} (h : SeenD B F w v l) (ho : Only S w w') (hs : ∀ x ∈ S, x ∈ F ∨ x < B ∨ w.heap.size ≤ x) : SeenD B F w' v l := by
  obtain ⟨a, cap, rfl, hn0, hr⟩ := h
  refine ⟨a, cap, rfl, hn0, fun hl => ?_⟩
  obtain ⟨b, off, rfl, hB, hF, hlt, hc⟩ := hr hl
  have hn : b ∉ S := fun x => by
    rcases hs b x with h | h | h
    · exact hF h
    · omega
    · omega
  exact ⟨b, off, rfl, hB, hF, Nat.lt_of_lt_of_le hlt ho.size, fun i x hx => ⟨(ho.cell hlt hn _).trans (hc i x hx).1, (ho.cell hlt hn _).trans (hc i x hx).2⟩⟩
theorem SeenD.form {B : Nat} {F : List Nat} {w : World} {v : Value} {l : List ItT} (h : SeenD B F w v l) : ∃ a cap, v = .slice a l.length cap := by
  obtain ⟨a, cap, rfl, _⟩ := h
  exact ⟨a, cap, rfl⟩
theorem SeenD.at {B : Nat} {F : List Nat} {w : World} {a : Option Addr} {n cap : Nat} {l : List ItT} (h : SeenD B F w (.slice a n cap) l) {i : Nat} {x : ItT} (hx : l[i]? = some x) :
    ∃ b off, a = some ⟨b, off, none⟩ ∧ b < w.heap.size ∧ B ≤ b ∧ b ∉ F ∧ w.cell? ⟨b, off + i * 2, none⟩ = some (.int .i64 (x.1 : Nat)) ∧ w.cell? ⟨b, off + i * 2 + 1, none⟩ = some (.int .u64 (x.2 : Nat)) := by
  obtain ⟨a', cap', e, _, hr⟩ := h
  cases e
  have hl := (List.getElem?_eq_some_iff.1 hx).1
  obtain ⟨b, off, rfl, hB, hF, hlt, hc⟩ := hr (by omega)
  exact ⟨b, off, rfl, hlt, hB, hF, (hc i x hx).1, (hc i x hx).2⟩

/-! ### What each call answers and leaves -/
theorem has_no {d : Nat} {l : List ItT} (h : has d l = false) : del d l = l := by
  unfold del
  refine List.filter_eq_self.2 (fun x hx => ?_)
  unfold has at h
  rw [List.any_eq_false] at h
  have := h x hx
  simpa using this
theorem rm_no {d : Int} {l : List ItT} (h : rmB d l = false) : rmL d l = l := by unfold rmL; rw [h]; rfl
theorem own_only {w w' : World} {base : Nat} {e : TypeId} {size : Nat} {v : Value} {n : Nat} {xs : List Value} {S : List Nat} (h : w.ownsRow base e size v n xs) (ho : Only S w w') (hn : ∀ g, v.ownBlock = some g → g ∉ S) : w'.ownsRow base e size v n xs := by
  refine ⟨h.1, ?_⟩
  rcases h.2 with h2 | ⟨g, cap, cur, rfl, hb, hg, hr⟩
  · exact Or.inl h2
  · exact Or.inr ⟨g, cap, cur, rfl, hb, (ho.block g (Array.getElem?_eq_some_iff.1 hg).1 (hn g rfl)).trans hg, hr⟩
theorem own_seen {w : World} {base : Nat} {e : TypeId} {v : Value} {l : List ItT} (h : w.ownsRow base e 2 v l.length (flatD l)) : SeenD base [] w v l := by
  have hlt := h.lt
  rcases h.2 with ⟨rfl, h0⟩ | ⟨g, cap, cur, rfl, hrest⟩
  · have : l = [] := by
      cases l with
      | nil => rfl
      | cons x r => simp at h0
    subst this
    exact ⟨_, _, rfl, fun _ => rfl, fun h => by simp at h⟩
  · refine ⟨_, _, rfl, (fun h => absurd h (by simp)), fun _ => ⟨g, 0, rfl, (hlt g rfl).1, by simp, (hlt g rfl).2, fun i x hx => ?_⟩⟩
    obtain ⟨f0, f1⟩ := flatD_at hx
    have c0 := h.cells (g := g) rfl _ _ f0
    have c1 := h.cells (g := g) rfl _ _ f1
    rw [add_eq] at c0 c1
    exact ⟨c0, by rw [Nat.add_assoc]; exact c1⟩
/-- The document's own heap: its place, its blocks, its items in order. -/
structure RW (w : World) (r : Nat) (H : List Nat) (l : List ItT) : Prop where
  lt : ∀ x ∈ H, x < w.heap.size
  mem : r ∈ H
  f0 : w.frozen? ⟨r, 0, none⟩ = false
  row : ∃ v, w.cell? ⟨r, 0, none⟩ = some v ∧ w.ownsRow 0 38 2 v l.length (flatD l) ∧ ∀ g, v.ownBlock = some g → g ∈ H ∧ g ≠ r
theorem RW.kept {w w' : World} {r : Nat} {H : List Nat} {l : List ItT} {S : List Nat} (h : RW w r H l) (ho : Only S w w') (hn : ∀ x ∈ H, x ∉ S) : RW w' r H l := by
  have hr := h.lt r h.mem
  have hnr := hn r h.mem
  obtain ⟨v, hv, hrow, hg⟩ := h.row
  exact ⟨fun x hx => Nat.lt_of_lt_of_le (h.lt x hx) ho.size, h.mem, (ho.frozen hr hnr 0).trans h.f0, v, (ho.cell hr hnr 0).trans hv, own_only hrow ho (fun g e => hn g (hg g e).1), hg⟩
theorem own_form {w : World} {base : Nat} {e : TypeId} {size : Nat} {v : Value} {n : Nat} {xs : List Value} (h : w.ownsRow base e size v n xs) : ∃ a cap, v = .slice a n cap := by
  rcases h.2 with ⟨rfl, rfl⟩ | ⟨g, cap, cur, rfl, _⟩
  · exact ⟨_, _, rfl⟩
  · exact ⟨_, _, rfl⟩
/-- The place of a number, from one on; -1 if there is none. -/
def ixN (d : Int) : Nat → List ItT → Int
  | _, [] => -1
  | i, x :: r => if ((x.1 : Nat) : Int) = d then (i : Int) else ixN d (i + 1) r
theorem ixN_next {d : Int} {l : List ItT} {i : Nat} {x : ItT} (hx : l[i]? = some x) : ixN d i (l.drop i) = if ((x.1 : Nat) : Int) = d then (i : Int) else ixN d (i + 1) (l.drop (i + 1)) := by
  have hi := (List.getElem?_eq_some_iff.1 hx).1
  have e : l.drop i = x :: l.drop (i + 1) := by
    rw [List.drop_eq_getElem_cons hi, (List.getElem?_eq_some_iff.1 hx).2]
  rw [e]
  rfl
theorem ixN_low (d : Int) : ∀ (i : Nat) (l : List ItT), ixN d i l = -1 ∨ (i : Int) ≤ ixN d i l
  | i, [] => Or.inl rfl
  | i, x :: r => by
    unfold ixN
    split
    · exact Or.inr (Int.le_refl _)
    · rcases ixN_low d (i + 1) r with h | h
      · exact Or.inl h
      · exact Or.inr (by omega)
theorem ixN_none {d : Int} : ∀ {i : Nat} {l : List ItT}, ixN d i l = -1 → ∀ x ∈ l, ((x.1 : Nat) : Int) ≠ d
  | i, [], _, x, hx => by cases hx
  | i, y :: r, h, x, hx => by
    unfold ixN at h
    split at h
    · omega
    · rename_i hy
      rcases List.mem_cons.1 hx with rfl | hx
      · exact hy
      · exact ixN_none h x hx
theorem ixN_some {d : Int} : ∀ {i k : Nat} {l : List ItT}, ixN d i l = (k : Int) → ∃ x, i ≤ k ∧ l[k - i]? = some x ∧ ((x.1 : Nat) : Int) = d
  | i, k, [], h => by unfold ixN at h; omega
  | i, k, y :: r, h => by
    unfold ixN at h
    split at h
    · rename_i hy
      obtain rfl : i = k := by omega
      exact ⟨y, Nat.le_refl _, by simp, hy⟩
    · obtain ⟨x, h1, h2, h3⟩ := ixN_some h
      refine ⟨x, by omega, ?_, h3⟩
      rw [show k - i = (k - (i + 1)) + 1 by omega, List.getElem?_cons_succ]
      exact h2
/-- Is there a timer of that number? -/
theorem ix_can (d : Int) (l : List ItT) : decide (0 ≤ ixN d 0 l) = rmB d l := by
  rcases ixN_low d 0 l with h | h
  · rw [h]
    have hn := ixN_none h
    unfold rmB
    cases hd : decide (0 ≤ d) with
    | false => rfl
    | true =>
      cases hh : has d.toNat l with
      | false => rfl
      | true =>
        obtain ⟨x, hx, e⟩ := has_iff.1 hh
        have := of_decide_eq_true hd
        exact absurd (by omega) (hn x hx)
  · obtain ⟨k, hk⟩ : ∃ k : Nat, ixN d 0 l = (k : Int) := ⟨(ixN d 0 l).toNat, by omega⟩
    obtain ⟨x, _, hx, e⟩ := ixN_some hk
    have hm := List.mem_of_getElem? hx
    have h0 : has d.toNat l = true := has_iff.2 ⟨x, hm, by omega⟩
    unfold rmB
    rw [h0, decide_eq_true (by omega : 0 ≤ d), decide_eq_true (by omega : 0 ≤ ixN d 0 l)]
    rfl
/-- How many of the first stand ahead of one. -/
def aheadN (x : ItT) : List ItT → Nat
  | [] => 0
  | y :: r => if Hp.lt y x then aheadN x r + 1 else 0
theorem ins_split (x : ItT) : ∀ l : List ItT, ins x l = l.take (aheadN x l) ++ x :: l.drop (aheadN x l)
  | [] => rfl
  | y :: r => by
    by_cases h : Hp.lt y x
    · have e : aheadN x (y :: r) = aheadN x r + 1 := by show (if Hp.lt y x then _ else _) = _; rw [if_pos h]
      rw [e]
      show (if Hp.lt y x then y :: ins x r else x :: y :: r) = _
      rw [if_pos h, ins_split x r]
      rfl
    · have e : aheadN x (y :: r) = 0 := by show (if Hp.lt y x then _ else _) = _; rw [if_neg h]
      rw [e]
      show (if Hp.lt y x then y :: ins x r else x :: y :: r) = _
      rw [if_neg h]
      rfl
theorem aheadN_le (x : ItT) : ∀ l : List ItT, aheadN x l ≤ l.length
  | [] => Nat.le_refl _
  | y :: r => by
    have := aheadN_le x r
    show (if Hp.lt y x then _ else _) ≤ _
    split
    · show _ ≤ r.length + 1; omega
    · exact Nat.zero_le _
theorem aheadN_yes {x : ItT} : ∀ {l : List ItT} {k : Nat}, k < aheadN x l → ∃ y, l[k]? = some y ∧ Hp.lt y x
  | [], k, h => by cases h
  | y :: r, k, h => by
    by_cases hy : Hp.lt y x
    · have e : aheadN x (y :: r) = aheadN x r + 1 := by show (if Hp.lt y x then _ else _) = _; rw [if_pos hy]
      rw [e] at h
      cases k with
      | zero => exact ⟨y, rfl, hy⟩
      | succ k => exact aheadN_yes (l := r) (by omega)
    · have e : aheadN x (y :: r) = 0 := by show (if Hp.lt y x then _ else _) = _; rw [if_neg hy]
      omega
theorem aheadN_no {x : ItT} : ∀ {l : List ItT} {y : ItT}, l[aheadN x l]? = some y → ¬ Hp.lt y x
  | [], y, h => by cases h
  | z :: r, y, h => by
    by_cases hz : Hp.lt z x
    · have e : aheadN x (z :: r) = aheadN x r + 1 := by show (if Hp.lt z x then _ else _) = _; rw [if_pos hz]
      rw [e] at h
      exact aheadN_no (l := r) h
    · have e : aheadN x (z :: r) = 0 := by show (if Hp.lt z x then _ else _) = _; rw [if_neg hz]
      rw [e] at h
      obtain rfl : z = y := by simpa using h
      exact hz
set_option maxRecDepth 100000 in
theorem index_any (r : Nat) (H : List Nat) (l : List ItT) (d : Int) (w : World) (hl : l.length ≤ 2000) (hR : RW w r H l) :
    Calls Try.prog 25 #[.pointer (some ⟨r, 0, none⟩), .int .i64 d] w fun e w' => e = .returned (.int .i64 (ixN d 0 l)) ∧ w = w' := by
  obtain ⟨v, hv, hrow, _⟩ := hR.row
  have hlt := hR.lt r hR.mem
  obtain ⟨a, cap, rfl⟩ := own_form hrow
  have HS := Lib.hid (own_seen hrow)
  clear hrow hR
  go_enter Try.func25, Try.ntmps25
  go_wp2_with fail
  go_loopw [5] (fun c wr => ∃ i : Nat, c = .int .i64 i ∧ i ≤ l.length ∧ Hid (ixN d i (l.drop i) = ixN d 0 l) ∧ w = wr) (fun c _ => l.length - (intOf c).toNat)
  case atStart => exact ⟨0, rfl, Nat.zero_le _, Lib.hid (by rw [List.drop_zero]), rfl⟩
  case round =>
    obtain ⟨i, rfl, hi, HI, rfl⟩ := hrel
    by_cases hil : i < l.length
    · obtain ⟨x, hx⟩ : ∃ x, l[i]? = some x := ⟨l[i], List.getElem?_eq_getElem hil⟩
      obtain ⟨b, off, rfl, hb, -, -, x0, x1⟩ := HS.out.at hx
      have hn := ixN_next (d := d) hx
      obtain ⟨xd, xt⟩ := x
      simp only at x0 x1 hn
      clear hx
      by_cases hd : ((xd : Nat) : Int) = d
      · rw [if_pos hd] at hn
        have HE := Lib.hid (hn.symm.trans HI.out)
        subst hd
        clear hn
        go_wp2_with fail
        go_ret
        exact ⟨by rw [← HE.out]; rfl, rfl⟩
      · rw [if_neg hd] at hn
        have HE := Lib.hid (hn.symm.trans HI.out)
        have dd : (((xd : Nat) : Int) == d) = false := by simpa using hd
        clear hn hd
        go_wp2_with fail
        go_roundw
        case rel => exact ⟨i + 1, by push_cast; rfl, by omega, HE, by trivial⟩
        case measure => simp only [intOf]; omega
    · obtain rfl : i = l.length := by omega
      have HE := HI.out
      rw [List.drop_length] at HE
      have HF := Lib.hid HE
      clear HE HI
      go_wp2_with fail
      go_ret
      exact ⟨by rw [← HF.out]; rfl, rfl⟩
theorem infoRef : (Try.prog.info? 38).map (fun i => (i.zero, i.size, i.bytes)) = some (some (.agg #[.int .i64 0, .int .u64 0]), 2, 16) := by kernel_rfl
/-- Cells that are appended: they lie somewhere, or there are none. -/
structure Lies (W : World) (ad : Option Addr) (m c : Nat) (X : List ItT) : Prop where
  len : X.length = m
  none : ad = none → m = 0 ∧ c = 0
  at_ : ∀ a, ad = some a → ∀ j u, (flatD X)[j]? = some u → W.cell? (a.add j) = some u
theorem flatD_one (X : List ItT) : ∀ u ∈ flatD X, u.oneCell' = true := by
  intro u hu
  unfold flatD at hu
  obtain ⟨y, _, hy⟩ := List.mem_flatMap.1 hu
  simp only [encD, List.mem_cons, List.not_mem_nil, or_false] at hy
  rcases hy with rfl | rfl <;> rfl
theorem app_run (W : World) (B : Nat) (ty : TypeId) (v : Value) (A X : List ItT) (ad : Option Addr) (m c : Nat)
    (hv : W.ownsRow B 38 2 v A.length (flatD A)) (hB : B ≤ W.heap.size) (hn : A.length + X.length ≤ 4000) (hL : Lies W ad m c X) :
    ∃ v' W', (Builtin.append_ #[27, 27] ty #[v, .slice ad m c]).run Try.prog W = .ok v' W' ∧ W'.ownsRow B 38 2 v' (A ++ X).length (flatD (A ++ X)) ∧ W.grownBy W' v.ownBlock ∧ (v'.ownBlock = v.ownBlock ∨ v'.ownBlock = some W.heap.size) := by
  obtain ⟨i0, hi, hz0, hz1, hz2⟩ := info_parts infoRef
  cases ad with
  | none =>
    obtain ⟨rfl, rfl⟩ := hL.none rfl
    have hX : X = [] := List.eq_nil_of_length_eq_zero hL.len
    subst hX
    have hrun := run_append_owned_none (P := Try.prog) (w := W) B 27 ty 38 i0 2 Try.underlying27 hi v A.length (flatD A) hv
    exact ⟨v, W, hrun, by rw [List.append_nil]; exact hv, ⟨rfl, rfl, rfl, Nat.le_refl _, fun _ _ _ => rfl⟩, Or.inl rfl⟩
  | some a =>
    obtain ⟨v', w', hr, h2, h3, _, h5⟩ := run_append_own_at (P := Try.prog) W B 27 ty 38 i0 (.agg #[.int .i64 0, .int .u64 0]) 2 16 Try.underlying27 hi hz0 hz1 hz2 rfl (by decide) v A.length (flatD A) hv a m c (flatD X) (by rw [flatD_len, hL.len]) (hL.at_ a rfl) (flatD_one X) (by have := hL.len; unfold maxLen; omega) (by have := hL.len; omega) hB
    exact ⟨v', w', hr, by rw [List.length_append, flatD_append, hL.len]; exact h2, h3, h5⟩
/-- As a step of a walk. -/
theorem step_app {ops : Array Oper} {rest : List Oper} {o : Oper} {a : Act} {Q : Exit → Act → World → Prop} (hgd : o.guard = none) (s x : Operand)
    (ho : o.op = .call { callee := .builtin .append, args := #[s, x], argTypes := #[27, 27] }) (B : Nat) (v : Value) (A X : List ItT) (ad : Option Addr) (m c : Nat) (W : World)
    (hv : W.ownsRow B 38 2 v A.length (flatD A)) (hB : B ≤ W.heap.size) (hn : A.length + X.length ≤ 4000) (hL : Lies W ad m c X) (hs : a.eval s = v) (hx : a.eval x = .slice ad m c)
    (h : ∀ v' W', W'.ownsRow B 38 2 v' (A ++ X).length (flatD (A ++ X)) → W.grownBy W' v.ownBlock → (v'.ownBlock = v.ownBlock ∨ v'.ownBlock = some W.heap.size) → wpList Try.prog ops Q rest (a.put o.dst v') W') :
    wpList Try.prog ops Q (o :: rest) a W := by
  obtain ⟨v', W', hr, h1, h2, h3⟩ := app_run W B o.type v A X ad m c hv hB hn hL
  refine wpList_plain hgd fun K hK => ?_
  unfold Oper.wp execOp
  simp only [ho, resolve, invoke, builtin, Sem.run_bind, Sem.run_pure, Result.andThen_ok, List.map_toArray, List.map_cons, List.map_nil, hs, hx, hr]
  exact hK _ _ (h v' W' h1 h2 h3)
/-- As a step of a region that draws its order. -/
theorem step_app_law {ops : Array Oper} {o : Oper} {a : Act} {K : Act → World → Prop} {Q : Exit → Act → World → Prop} {E : Prop} (hgd : o.guard = none) (s x : Operand)
    (ho : o.op = .call { callee := .builtin .append, args := #[s, x], argTypes := #[27, 27] }) (B : Nat) (v : Value) (A X : List ItT) (ad : Option Addr) (m c : Nat) (W : World)
    (hv : W.ownsRow B 38 2 v A.length (flatD A)) (hB : B ≤ W.heap.size) (hn : A.length + X.length ≤ 4000) (hL : Lies W ad m c X) (hs : a.eval s = v) (hx : a.eval x = .slice ad m c)
    (h : ∀ v' W', W'.ownsRow B 38 2 v' (A ++ X).length (flatD (A ++ X)) → W.grownBy W' v.ownBlock → (v'.ownBlock = v.ownBlock ∨ v'.ownBlock = some W.heap.size) → K (a.put o.dst v') W') :
    if Region.wanted o (yielded ops a.tmps) = true then Oper.wp Try.prog o a W K Q else E := by
  obtain ⟨v', W', hr, h1, h2, h3⟩ := app_run W B o.type v A X ad m c hv hB hn hL
  rw [if_pos (by simp [Region.wanted, hgd])]
  unfold Oper.wp execOp
  simp only [ho, resolve, invoke, builtin, Sem.run_bind, Sem.run_pure, Result.andThen_ok, List.map_toArray, List.map_cons, List.map_nil, hs, hx, hr]
  exact h v' W' h1 h2 h3
/-- The first of a row; those behind. -/
theorem lies_take {W : World} {base : Nat} {e : TypeId} {a : Option Addr} {cap : Nat} {l : List ItT} (h : W.ownsRow base e 2 (.slice a l.length cap) l.length (flatD l)) {k : Nat} (hk : k ≤ l.length) : Lies W a k cap (l.take k) := by
  refine ⟨by rw [List.length_take]; omega, fun e => ?_, fun ad e j u hj => ?_⟩
  · subst e
    rcases h.2 with ⟨h1, h0⟩ | ⟨g, c, cur, h1, _⟩
    · simp only [Value.slice.injEq] at h1; exact ⟨by omega, h1.2.2⟩
    · simp only [Value.slice.injEq] at h1; exact absurd h1.1 (by simp)
  · subst e
    rcases h.2 with ⟨h1, h0⟩ | ⟨g, c, cur, h1, _⟩
    · simp only [Value.slice.injEq] at h1; exact absurd h1.1 (by simp)
    · simp only [Value.slice.injEq, Option.some.injEq] at h1
      obtain ⟨rfl, _, _⟩ := h1
      have hsub : (flatD l)[j]? = some u := by
        rw [← List.take_append_drop k l, flatD_append, List.getElem?_append_left (List.getElem?_eq_some_iff.1 hj).1]
        exact hj
      exact h.cells rfl j u hsub
theorem lies_drop {W : World} {base : Nat} {e : TypeId} {g cap : Nat} {l : List ItT} (h : W.ownsRow base e 2 (.slice (some ⟨g, 0, none⟩) l.length cap) l.length (flatD l)) {k : Nat} (hk : k ≤ l.length) : Lies W (some ⟨g, k * 2, none⟩) (l.length - k) (cap - k) (l.drop k) := by
  refine ⟨by rw [List.length_drop], (fun e => absurd e (by simp)), fun ad e j u hj => ?_⟩
  cases e
  have hsub : (flatD l)[k * 2 + j]? = some u := by
    have e : flatD l = flatD (l.take k) ++ flatD (l.drop k) := by rw [← flatD_append, List.take_append_drop]
    have hlen : (flatD (l.take k)).length = k * 2 := by rw [flatD_len, List.length_take]; congr 1; omega
    rw [e, List.getElem?_append_right (by omega), hlen, show k * 2 + j - k * 2 = j by omega]
    exact hj
  have := h.cells rfl _ u hsub
  rw [add_eq] at this ⊢
  simpa using this
theorem lies_none (W : World) (a : Addr) (c : Nat) : Lies W (some a) 0 c [] := ⟨rfl, (fun e => absurd e (by simp)), fun _ _ j u hj => by simp [flatD] at hj⟩
theorem lies_nil (W : World) : Lies W none 0 0 [] := ⟨rfl, fun _ => ⟨rfl, rfl⟩, fun _ e => absurd e (by simp)⟩
theorem Lies.kept {W W' : World} {a : Addr} {m c : Nat} {X : List ItT} {S : List Nat} (h : Lies W (some a) m c X) (ho : Only S W W') (hl : 0 < m → a.block < W.heap.size ∧ a.block ∉ S ∧ a.spot = Option.none) : Lies W' (some a) m c X := by
  refine ⟨h.len, (fun e => absurd e (by simp)), fun ad e j u hj => ?_⟩
  cases e
  have hm : 0 < m := by
    have := (List.getElem?_eq_some_iff.1 hj).1
    rw [flatD_len, h.len] at this
    omega
  obtain ⟨h1, h2, h3⟩ := hl hm
  obtain ⟨b, off, sp⟩ := a
  cases h3
  have := h.at_ _ rfl j u hj
  rw [add_eq] at this ⊢
  exact (ho.cell h1 h2 _).trans this
theorem Lies.alloc {W : World} {ad : Option Addr} {m c : Nat} {X : List ItT} (h : Lies W ad m c X) (hl : ∀ a, ad = some a → 0 < m → a.block < W.heap.size ∧ a.spot = Option.none) (o : Obj) : Lies (W.alloc o) ad m c X := by
  cases ad with
  | none => exact ⟨h.len, h.none, fun _ e => absurd e (by simp)⟩
  | some a => exact h.kept (Only.alloc [] W o) (fun hm => ⟨(hl a rfl hm).1, by simp, (hl a rfl hm).2⟩)
/-- A new row is made of some. -/
theorem step_new {ops : Array Oper} {rest : List Oper} {o : Oper} {a : Act} {Q : Exit → Act → World → Prop} (hgd : o.guard = none) (s x : Operand)
    (ho : o.op = .call { callee := .builtin .append, args := #[s, x], argTypes := #[27, 27] }) (X : List ItT) (ad : Option Addr) (m c : Nat) (W : World)
    (hn : X.length ≤ 4000) (hL : Lies W ad m c X) (hl : ∀ a, ad = some a → 0 < m → a.block < W.heap.size ∧ a.spot = Option.none) (hs : a.eval s = .slice (some ⟨W.heap.size, 0, none⟩) 0 0) (hx : a.eval x = .slice ad m c)
    (h : ∀ v' W', W'.ownsRow W.heap.size 38 2 v' X.length (flatD X) → Only [] W W' → wpList Try.prog ops Q rest (a.put o.dst v') W') :
    wpList Try.prog ops Q (o :: rest) a (W.alloc (.cells #[] 38)) := by
  have h0 := World.ownsRow_lit (base := W.heap.size) (e := 38) (size := 2) W #[] 0 (Nat.le_refl _) (by unfold maxLen; omega) (by simp)
  refine step_app hgd s x ho W.heap.size _ [] X ad m c _ h0 (by simp) (by simp; omega) (hL.alloc hl _) hs hx ?_
  intro v' W' h1 h2 _
  refine h v' W' h1 ?_
  have g : Only [W.heap.size] (W.alloc (.cells #[] 38)) W' := ⟨h2.os, h2.tape, h2.output, h2.size, fun k hk hn => h2.block k hk (fun e => hn (by cases e; simp))⟩
  exact (((Only.alloc [] W (.cells #[] 38)).mono (S' := [W.heap.size]) (by simp)).trans g).back (S' := []) (n := W.heap.size) (fun x hx => by simp at hx; subst hx; exact Or.inr (Nat.le_refl _)) (Nat.le_refl _)
end Hq
end Go.Proofs.Ytmeadkllbjkjbaa
