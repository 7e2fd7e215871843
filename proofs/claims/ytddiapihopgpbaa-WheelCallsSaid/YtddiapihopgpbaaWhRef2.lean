/-
  Appends of parts of rows of timers; what the document's own Advance answers, and leaves. Conditions: that its wheel lies there.
-/
import Derived.Test.YtddiapihopgpbaaWhRef
import Derived.Deep.RegionLaw
namespace Go.Proofs.Ytddiapihopgpbaa
open Go.RowKit
namespace Wh
open Ph (Only)
theorem infoRef : (Try.prog.info? 50).map (fun i => (i.zero, i.size, i.bytes)) = some (some (.agg #[.int .i64 0, .int .u64 0]), 2, 16) := by kernel_rfl
/-- Cells that are appended: they lie somewhere, or there are none. -/
structure Lies (W : World) (ad : Option Addr) (m c : Nat) (X : List DuT) : Prop where
  len : X.length = m
  none : ad = none → m = 0 ∧ c = 0
  at_ : ∀ a, ad = some a → ∀ j u, (flatD X)[j]? = some u → W.cell? (a.add j) = some u
theorem flatD_one (X : List DuT) : ∀ u ∈ flatD X, u.oneCell' = true := by
  intro u hu
  unfold flatD at hu
  obtain ⟨y, _, hy⟩ := List.mem_flatMap.1 hu
  simp only [encD, List.mem_cons, List.not_mem_nil, or_false] at hy
  rcases hy with rfl | rfl <;> rfl
theorem app_run (W : World) (B : Nat) (ty : TypeId) (v : Value) (A X : List DuT) (ad : Option Addr) (m c : Nat)
    (hv : W.ownsRow B 50 2 v A.length (flatD A)) (hB : B ≤ W.heap.size) (hn : A.length + X.length ≤ 4000) (hL : Lies W ad m c X) :
    ∃ v' W', (Builtin.append_ #[30, 30] ty #[v, .slice ad m c]).run Try.prog W = .ok v' W' ∧ W'.ownsRow B 50 2 v' (A ++ X).length (flatD (A ++ X)) ∧ W.grownBy W' v.ownBlock ∧ (v'.ownBlock = v.ownBlock ∨ v'.ownBlock = some W.heap.size) := by
  obtain ⟨i0, hi, hz0, hz1, hz2⟩ := info_parts infoRef
  cases ad with
  | none =>
    obtain ⟨rfl, rfl⟩ := hL.none rfl
    have hX : X = [] := List.eq_nil_of_length_eq_zero hL.len
    subst hX
    have hrun := run_append_owned_none (P := Try.prog) (w := W) B 30 ty 50 i0 2 Try.underlying30 hi v A.length (flatD A) hv
    exact ⟨v, W, hrun, by rw [List.append_nil]; exact hv, ⟨rfl, rfl, rfl, Nat.le_refl _, fun _ _ _ => rfl⟩, Or.inl rfl⟩
  | some a =>
    obtain ⟨v', w', hr, h2, h3, _, h5⟩ := run_append_own_at (P := Try.prog) W B 30 ty 50 i0 (.agg #[.int .i64 0, .int .u64 0]) 2 16 Try.underlying30 hi hz0 hz1 hz2 rfl (by decide) v A.length (flatD A) hv a m c (flatD X) (by rw [flatD_len, hL.len]) (hL.at_ a rfl) (flatD_one X) (by have := hL.len; unfold maxLen; omega) (by have := hL.len; omega) hB
    exact ⟨v', w', hr, by rw [List.length_append, flatD_append, hL.len]; exact h2, h3, h5⟩
/-- As a step of a walk. -/
theorem step_app {ops : Array Oper} {rest : List Oper} {o : Oper} {a : Act} {Q : Exit → Act → World → Prop} (hgd : o.guard = none) (s x : Operand)
    (ho : o.op = .call { callee := .builtin .append, args := #[s, x], argTypes := #[30, 30] }) (B : Nat) (v : Value) (A X : List DuT) (ad : Option Addr) (m c : Nat) (W : World)
    (hv : W.ownsRow B 50 2 v A.length (flatD A)) (hB : B ≤ W.heap.size) (hn : A.length + X.length ≤ 4000) (hL : Lies W ad m c X) (hs : a.eval s = v) (hx : a.eval x = .slice ad m c)
    (h : ∀ v' W', W'.ownsRow B 50 2 v' (A ++ X).length (flatD (A ++ X)) → W.grownBy W' v.ownBlock → (v'.ownBlock = v.ownBlock ∨ v'.ownBlock = some W.heap.size) → wpList Try.prog ops Q rest (a.put o.dst v') W') :
    wpList Try.prog ops Q (o :: rest) a W := by
  obtain ⟨v', W', hr, h1, h2, h3⟩ := app_run W B o.type v A X ad m c hv hB hn hL
  refine wpList_plain hgd fun K hK => ?_
  unfold Oper.wp execOp
  simp only [ho, resolve, invoke, builtin, Sem.run_bind, Sem.run_pure, Result.andThen_ok, List.map_toArray, List.map_cons, List.map_nil, hs, hx, hr]
  exact hK _ _ (h v' W' h1 h2 h3)
/-- As a step of a region that draws its order. -/
theorem step_app_law {ops : Array Oper} {o : Oper} {a : Act} {K : Act → World → Prop} {Q : Exit → Act → World → Prop} {E : Prop} (hgd : o.guard = none) (s x : Operand)
    (ho : o.op = .call { callee := .builtin .append, args := #[s, x], argTypes := #[30, 30] }) (B : Nat) (v : Value) (A X : List DuT) (ad : Option Addr) (m c : Nat) (W : World)
    (hv : W.ownsRow B 50 2 v A.length (flatD A)) (hB : B ≤ W.heap.size) (hn : A.length + X.length ≤ 4000) (hL : Lies W ad m c X) (hs : a.eval s = v) (hx : a.eval x = .slice ad m c)
    (h : ∀ v' W', W'.ownsRow B 50 2 v' (A ++ X).length (flatD (A ++ X)) → W.grownBy W' v.ownBlock → (v'.ownBlock = v.ownBlock ∨ v'.ownBlock = some W.heap.size) → K (a.put o.dst v') W') :
    if Region.wanted o (yielded ops a.tmps) = true then Oper.wp Try.prog o a W K Q else E := by
  obtain ⟨v', W', hr, h1, h2, h3⟩ := app_run W B o.type v A X ad m c hv hB hn hL
  rw [if_pos (by simp [Region.wanted, hgd])]
  unfold Oper.wp execOp
  simp only [ho, resolve, invoke, builtin, Sem.run_bind, Sem.run_pure, Result.andThen_ok, List.map_toArray, List.map_cons, List.map_nil, hs, hx, hr]
  exact h v' W' h1 h2 h3
/-- The first of a row; those behind. -/
theorem lies_take {W : World} {base : Nat} {e : TypeId} {a : Option Addr} {cap : Nat} {l : List DuT} (h : W.ownsRow base e 2 (.slice a l.length cap) l.length (flatD l)) {k : Nat} (hk : k ≤ l.length) : Lies W a k cap (l.take k) := by
  refine ⟨by rw [List.length_take]; omega, fun e => ?_, fun ad e j u hj => ?_⟩
  · subst e
    rcases h.2 with ⟨h1, h0⟩ | ⟨g, c, cur, h1, _⟩
    · simp only [Value.slice.injEq] at h1; exact ⟨by omega, h1.2.2⟩
    · simp only [Value.slice.injEq] at h1; exact absurd h1.1 (by simp)
  · subst e
    rcases h.2 with ⟨h1, h0⟩ | ⟨g, c, cur, h1, _⟩
    · simp only [Value.slice.injEq] at h1; exact absurd h1.1 (by simp)
    · simp only [Value.slice.injEq, Option.some.injEq] at h1
      obtain ⟨rfl, _, _⟩ := h1
      have hsub : (flatD l)[j]? = some u := by
        rw [← List.take_append_drop k l, flatD_append, List.getElem?_append_left (List.getElem?_eq_some_iff.1 hj).1]
        exact hj
      exact h.cells rfl j u hsub
theorem lies_drop {W : World} {base : Nat} {e : TypeId} {g cap : Nat} {l : List DuT} (h : W.ownsRow base e 2 (.slice (some ⟨g, 0, none⟩) l.length cap) l.length (flatD l)) {k : Nat} (hk : k ≤ l.length) : Lies W (some ⟨g, k * 2, none⟩) (l.length - k) (cap - k) (l.drop k) := by
  refine ⟨by rw [List.length_drop], (fun e => absurd e (by simp)), fun ad e j u hj => ?_⟩
  cases e
  have hsub : (flatD l)[k * 2 + j]? = some u := by
    have e : flatD l = flatD (l.take k) ++ flatD (l.drop k) := by rw [← flatD_append, List.take_append_drop]
    have hlen : (flatD (l.take k)).length = k * 2 := by rw [flatD_len, List.length_take]; congr 1; omega
    rw [e, List.getElem?_append_right (by omega), hlen, show k * 2 + j - k * 2 = j by omega]
    exact hj
  have := h.cells rfl _ u hsub
  rw [add_eq] at this ⊢
  simpa using this
theorem lies_none (W : World) (a : Addr) (c : Nat) : Lies W (some a) 0 c [] := ⟨rfl, (fun e => absurd e (by simp)), fun _ _ j u hj => by simp [flatD] at hj⟩
theorem lies_nil (W : World) : Lies W none 0 0 [] := ⟨rfl, fun _ => ⟨rfl, rfl⟩, fun _ e => absurd e (by simp)⟩
theorem Lies.kept {W W' : World} {a : Addr} {m c : Nat} {X : List DuT} {S : List Nat} (h : Lies W (some a) m c X) (ho : Only S W W') (hl : 0 < m → a.block < W.heap.size ∧ a.block ∉ S ∧ a.spot = Option.none) : Lies W' (some a) m c X := by
  refine ⟨h.len, (fun e => absurd e (by simp)), fun ad e j u hj => ?_⟩
  cases e
  have hm : 0 < m := by
    have := (List.getElem?_eq_some_iff.1 hj).1
    rw [flatD_len, h.len] at this
    omega
  obtain ⟨h1, h2, h3⟩ := hl hm
  obtain ⟨b, off, sp⟩ := a
  cases h3
  have := h.at_ _ rfl j u hj
  rw [add_eq] at this ⊢
  exact (ho.cell h1 h2 _).trans this
theorem Lies.alloc {W : World} {ad : Option Addr} {m c : Nat} {X : List DuT} (h : Lies W ad m c X) (hl : ∀ a, ad = some a → 0 < m → a.block < W.heap.size ∧ a.spot = Option.none) (o : Obj) : Lies (W.alloc o) ad m c X := by
  cases ad with
  | none => exact ⟨h.len, h.none, fun _ e => absurd e (by simp)⟩
  | some a => exact h.kept (Only.alloc [] W o) (fun hm => ⟨(hl a rfl hm).1, by simp, (hl a rfl hm).2⟩)
/-- A new row is made of some. -/
theorem step_new {ops : Array Oper} {rest : List Oper} {o : Oper} {a : Act} {Q : Exit → Act → World → Prop} (hgd : o.guard = none) (s x : Operand)
    (ho : o.op = .call { callee := .builtin .append, args := #[s, x], argTypes := #[30, 30] }) (X : List DuT) (ad : Option Addr) (m c : Nat) (W : World)
    (hn : X.length ≤ 4000) (hL : Lies W ad m c X) (hl : ∀ a, ad = some a → 0 < m → a.block < W.heap.size ∧ a.spot = Option.none) (hs : a.eval s = .slice (some ⟨W.heap.size, 0, none⟩) 0 0) (hx : a.eval x = .slice ad m c)
    (h : ∀ v' W', W'.ownsRow W.heap.size 50 2 v' X.length (flatD X) → Only [] W W' → wpList Try.prog ops Q rest (a.put o.dst v') W') :
    wpList Try.prog ops Q (o :: rest) a (W.alloc (.cells #[] 50)) := by
  have h0 := World.ownsRow_lit (base := W.heap.size) (e := 50) (size := 2) W #[] 0 (Nat.le_refl _) (by unfold maxLen; omega) (by simp)
  refine step_app hgd s x ho W.heap.size _ [] X ad m c _ h0 (by simp) (by simp; omega) (hL.alloc hl _) hs hx ?_
  intro v' W' h1 h2 _
  refine h v' W' h1 ?_
  have g : Only [W.heap.size] (W.alloc (.cells #[] 50)) W' := ⟨h2.os, h2.tape, h2.output, h2.size, fun k hk hn => h2.block k hk (fun e => hn (by cases e; simp))⟩
  exact (((Only.alloc [] W (.cells #[] 50)).mono (S' := [W.heap.size]) (by simp)).trans g).back (S' := []) (n := W.heap.size) (fun x hx => by simp at hx; subst hx; exact Or.inr (Nat.le_refl _)) (Nat.le_refl _)
end Wh
end Go.Proofs.Ytddiapihopgpbaa
