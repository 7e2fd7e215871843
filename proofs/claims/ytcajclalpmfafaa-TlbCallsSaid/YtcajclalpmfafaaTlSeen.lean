/-
  Rows of entries that are read, and held against each other. Conditions: that they lie there.
-/
import Derived.Test.YtcajclalpmfafaaTlPlain
import Derived.Test.YtcajclalpmfafaaTlEq
import Derived.Test.YtcajclalpmfafaaTlOpen
import Derived.Maps.AppendAt
import Derived.Deep.AppendLies
import Derived.Laws.OwnMore
namespace Go.Proofs.Ytcajclalpmfafaa
open Go.RowKit Go.Maps
namespace Tl
open Ph (Only)

/-- A row of entries. -/
def Seen (w : World) (v : Value) (l : List SlotT) : Prop :=
  ∃ a cap, v = .slice a l.length cap ∧ (0 < l.length → ∃ b, a = some ⟨b, 0, none⟩ ∧ b < w.heap.size ∧ ∀ i x, l[i]? = some x → ∀ j u, (encSlot x)[j]? = some u → w.cell? ⟨b, i * 5 + j, none⟩ = some u)
theorem KRow.seen {w : World} {b : Nat} {l : List SlotT} {cap : Nat} (h : KRow 5 encSlot w b l) : Seen w (.slice (some ⟨b, 0, none⟩) l.length cap) l :=
  ⟨_, _, rfl, fun _ => ⟨b, rfl, h.lt, h.range⟩⟩
theorem Seen.below {w w' : World} {v : Value} {l : List SlotT} (h : Seen w v l) (hb : Below w.heap.size w w') : Seen w' v l := by
  obtain ⟨a, cap, rfl, hr⟩ := h
  refine ⟨a, cap, rfl, fun hl => ?_⟩
  obtain ⟨b, rfl, hlt, hc⟩ := hr hl
  exact ⟨b, rfl, Nat.lt_of_lt_of_le hlt hb.size, fun i x hx j u hu => (hb.cell (p := ⟨b, i * 5 + j, none⟩) hlt).trans (hc i x hx j u hu)⟩
def flatS (l : List SlotT) : List Value := l.flatMap encSlot
theorem flatS_snoc (l : List SlotT) (x : SlotT) : flatS (l ++ [x]) = flatS l ++ encSlot x := by simp [flatS]
theorem row_seen {w : World} {base : Nat} {v : Value} {l : List SlotT} (h : w.ownsRow base 31 5 v l.length (flatS l)) : Seen w v l := by
  have hlt := h.lt
  rcases h.2 with ⟨rfl, h0⟩ | ⟨g, cap, cur, rfl, _⟩
  · have : l = [] := by
      cases l with
      | nil => rfl
      | cons x r => simp at h0
    subst this
    exact ⟨_, _, rfl, fun h => by simp at h⟩
  · refine ⟨_, _, rfl, fun _ => ⟨g, rfl, (hlt g rfl).2, fun i x hx j u hu => ?_⟩⟩
    have hj : j < 5 := (List.getElem?_eq_some_iff.1 hu).1
    have := h.cells (g := g) rfl (i * 5 + j) u (by unfold flatS; rw [flat_get (k := 5) (enc := encSlot) (fun _ => rfl) l i j x hx hj]; exact hu)
    rw [add_eq] at this
    simpa using this
set_option maxRecDepth 100000 in
theorem alike_same (va vb : Value) (l : List SlotT) (w : World) (hl : l.length ≤ 64) (ha : Seen w va l) (hb : Seen w vb l) :
    Calls Try.prog 22 #[va, vb] w fun e w' => e = .returned (.bool true) ∧ Below w.heap.size w w' := by
  obtain ⟨a, ca, rfl, hra⟩ := ha
  obtain ⟨b, cb, rfl, hrb⟩ := hb
  have RA := Lib.hid hra
  have RB := Lib.hid hrb
  have L64 := Lib.hid hl
  have e1 := neqSlot
  clear hra hrb
  go_enter Try.func22, Try.ntmps22
  go_wp2_with fail
  go_loopw [5] (fun c wr => ∃ i : Nat, c = .int .i64 i ∧ i ≤ l.length ∧ Below w.heap.size w wr) (fun c _ => l.length - (intOf c).toNat)
  case atStart => exact ⟨0, rfl, Nat.zero_le _, Below.refl _ _⟩
  case round =>
    obtain ⟨i, rfl, hi, hB⟩ := hrel
    have HB := Lib.hid hB
    clear hB
    by_cases hlt : i < l.length
    · obtain ⟨x, hx⟩ : ∃ x, l[i]? = some x := ⟨l[i], List.getElem?_eq_getElem hlt⟩
      obtain ⟨ba, rfl, hal, hca⟩ := RA.out (by omega)
      obtain ⟨bb, rfl, hbl, hcb⟩ := RB.out (by omega)
      have ga := fun j u hu => (HB.out.cell (p := ⟨ba, i * 5 + j, none⟩) hal).trans (hca i x hx j u hu)
      have gb := fun j u hu => (HB.out.cell (p := ⟨bb, i * 5 + j, none⟩) hbl).trans (hcb i x hx j u hu)
      have a0 := ga 0 _ rfl
      have a1 := ga 1 _ rfl
      have a2 := ga 2 _ rfl
      have a3 := ga 3 _ rfl
      have a4 := ga 4 _ rfl
      have b0 := gb 0 _ rfl
      have b1 := gb 1 _ rfl
      have b2 := gb 2 _ rfl
      have b3 := gb 3 _ rfl
      have b4 := gb 4 _ rfl
      rw [Nat.add_zero] at a0 b0
      clear ga gb hca hcb RA RB hx hi
      have n1 := fun w => neqSlot x x w
      simp only [decide_true, Bool.not_true] at n1
      clear e1
      go_wp2_with fail
      go_region
      go_wp2
      go_roundw
      case rel => exact ⟨i + 1, by simp, by omega, HB.out.drew⟩
      case measure => simp only [intOf, Int.toNat_natCast]; omega
    · obtain rfl : i = l.length := by omega
      clear RA RB hi e1
      go_wp2
      go_ret
      exact ⟨rfl, HB.out⟩
/-- Two rows' blocks aren't one. -/
def Apart (v u : Value) : Prop := ∀ k, v.ownBlock = some k → u.ownBlock ≠ some k
theorem Apart.symm {v u : Value} (h : Apart v u) : Apart u v := fun k hk hv => h k hv hk
theorem infoSlot' : (Try.prog.info? 31).map (fun i => (i.zero, i.size, i.bytes)) = some (some (.agg (encSlot (0, 0, 0, false, false)).toArray), 5, 32) := by kernel_rfl
/-- One entry is appended to a row; another row stays. -/
theorem step_app {ops : Array Oper} {rest : List Oper} {o : Oper} {a : Act} {Q : Exit → Act → World → Prop} (hgd : o.guard = none) (s x : Operand)
    (ho : o.op = .call { callee := .builtin .append, args := #[s, x], argTypes := #[50, 50] }) (B : Nat) (v u : Value) (xs ys : List SlotT) (z : SlotT) (W : World)
    (hv : W.ownsRow B 31 5 v xs.length (flatS xs)) (hu : W.ownsRow B 31 5 u ys.length (flatS ys)) (hne : Apart v u) (hB : B ≤ W.heap.size) (hn : xs.length ≤ 64)
    (hs : a.eval s = v) (hx : a.eval x = .slice (some ⟨W.heap.size, 0, none⟩) 1 1)
    (h : ∀ v' W', W'.ownsRow B 31 5 v' (xs ++ [z]).length (flatS (xs ++ [z])) → W'.ownsRow B 31 5 u ys.length (flatS ys) → Apart v' u → Below B W W' → wpList Try.prog ops Q rest (a.put o.dst v') W') :
    wpList Try.prog ops Q (o :: rest) a (W.alloc (.cells #[.int .i64 z.1, .int .i64 z.2.1, .int .i64 z.2.2.1, .bool z.2.2.2.1, .bool z.2.2.2.2] 31)) := by
  obtain ⟨i0, hi, hz0, hz1, hz2⟩ := info_parts infoSlot'
  refine wpList_append_own_at _ hgd s x 50 ho B 31 i0 (slotV (0, 0, 0, false, false)) 5 32 Try.underlying50 hi hz0 hz1 hz2 rfl (by decide) v xs.length (flatS xs) hs (hv.alloc _) ⟨W.heap.size, 0, none⟩ 1 1 (encSlot z) hx rfl
    (World.news_of_block (cs := (encSlot z).toArray) (t := 31) (fr := (0, 0)) (heap_alloc_new W _)) (by simp [encSlot, Value.oneCell']) (by unfold maxLen; omega) (by omega) (by simp; omega) ?_
  intro v' W' hown hgrow _ hat
  have hu1 := hu.alloc (.cells #[.int .i64 z.1, .int .i64 z.2.1, .int .i64 z.2.2.1, .bool z.2.2.2.1, .bool z.2.2.2.2] 31)
  refine h v' W' ?_ (hu1.kept hgrow ?_) ?_ ?_
  · rw [List.length_append, flatS_snoc]; exact hown
  · cases hc : v.ownBlock with
    | none =>
      cases hd : u.ownBlock with
      | none => exact Or.inl rfl
      | some k => exact Or.inr (by simp)
    | some k => exact Or.inr (hne k hc)
  · intro k hk hk'
    rcases hat with e | e
    · exact hne k (e.symm.trans hk) hk'
    · rw [hk] at e
      injection e with e
      have := (hu1.lt k hk').2
      omega
  · exact ((Below.refl B W).alloc hB _).grown hgrow (by simp; omega) (fun k hk => (hv.lt k hk).1)
theorem Holds.keptB {w w' : World} {m B : Nat} {ps : List (Option SlotT)} (h : Holds w m ps) (ho : Below B w w') (hm : m < B) : Holds w' m ps := by
  obtain ⟨es, ⟨xs, clock, hb, F, hs, hD⟩, hp⟩ := h.own
  exact ⟨es, ⟨xs, clock, (ho.block m hm).trans hb, F, hs, hD⟩, hp⟩
theorem Tlb.keptB {w w' : World} {p m room next B : Nat} {ps : List (Option SlotT)} (h : Tlb w p m room next ps) (ho : Below B w w') (hp : p < B) (hm : m < B) : Tlb w' p m room next ps :=
  { h with lt := Nat.lt_of_lt_of_le h.lt ho.size, c0 := (ho.cell (p := ⟨p, 0, none⟩) hp).trans h.c0, c1 := (ho.cell (p := ⟨p, 1, none⟩) hp).trans h.c1, c2 := (ho.cell (p := ⟨p, 2, none⟩) hp).trans h.c2, f1 := (ho.frozen (p := ⟨p, 1, none⟩) hp).trans h.f1, map := h.map.keptB ho hm }
theorem KRow.keptB {α : Type} {k : Nat} {enc : α → List Value} {w w' : World} {b B : Nat} {l : List α} (h : KRow k enc w b l) (ho : Below B w w') (hb : b < B) : KRow k enc w' b l :=
  ⟨Nat.lt_of_lt_of_le h.lt ho.size, fun i x hx j v hv => (ho.cell (p := ⟨b, i * k + j, none⟩) hb).trans (h.range i x hx j v hv), fun i hi j hj => by rw [ho.cell (p := ⟨b, i * k + j, none⟩) hb, ho.frozen (p := ⟨b, i * k + j, none⟩) hb]; exact h.free i hi j hj⟩
end Tl
end Go.Proofs.Ytcajclalpmfafaa
