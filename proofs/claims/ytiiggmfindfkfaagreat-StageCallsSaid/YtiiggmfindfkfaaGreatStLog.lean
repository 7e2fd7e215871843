/-
  What stage's Log answers. Conditions: that a space lies there.
-/
import Derived.Test.YtiiggmfindfkfaaGreatStTabs
namespace Go.Proofs.YtiiggmfindfkfaaGreat
open Go.RowKit Nt
namespace St
open Ph En Wk
variable {L : Loc} {v : Value} {x : Pl} {A : Nat → Fst}
/-- A row of deeds that is new. -/
def Deeds (B : Nat) (w : World) (u : Value) (l : List Deed) : Prop := w.ownsRow B 54 3 u l.length (flatD l)
theorem flatD_len (l : List Deed) : (flatD l).length = l.length * 3 := by
  unfold flatD
  induction l with
  | nil => rfl
  | cons d l ih => rw [List.flatMap_cons, List.length_append, ih, show d.enc.length = 3 by cases d <;> rfl, List.length_cons]; omega
theorem enc_one {l : List Deed} : ∀ u ∈ flatD l, u.oneCell' = true := by
  intro u hu
  unfold flatD at hu
  obtain ⟨d, _, hd⟩ := List.mem_flatMap.1 hu
  cases d <;> simp [Deed.enc] at hd <;> rcases hd with rfl | rfl | rfl <;> rfl
set_option maxRecDepth 100000 in
theorem cloneD_any (w : World) (u : Value) (l : List Deed) (hl : l.length ≤ 1000) (hu : w.ownsRow 0 54 3 u l.length (flatD l)) :
    Calls Tryz.prog 46 #[u] w fun e w' => ∃ u', e = .returned u' ∧ Deeds w.heap.size w' u' l ∧ Below w.heap.size w w' := by
  obtain ⟨i0, hi, hz0, hz1, hz2⟩ := info_parts infoDeed
  have hlt := hu.lt
  rcases id hu.2 with ⟨rfl, h0⟩ | ⟨g, cap, cur, rfl, _, hg, hc1, hc2, hc3, hc4⟩
  · have e : l = [] := List.length_eq_zero_iff.1 h0
    subst e
    clear hu hlt h0 hi hz0 hz1 hz2 hl
    have hq : ∀ wx, (binOp .eql 47 (.slice none 0 0) (.slice none 0 0)).run Tryz.prog wx = .ok (.bool true) wx := fun _ => by kernel_rfl
    go_enter Tryz.func46, Tryz.ntmps46
    go_wp2
    go_ret
    exact ⟨_, rfl, World.ownsRow_nil _ _ _ _, Below.refl _ _⟩
  · have hgl : g < w.heap.size := (hlt g rfl).2
    have hq := fun wx => not_nil wx ⟨g, 0, none⟩ l.length cap 47 _ Tryz.underlying47
    have own0 : (w.alloc (.cells #[] 54)).ownsRow w.heap.size 54 3 (.slice (some ⟨w.heap.size, 0, none⟩) 0 0) 0 [] :=
      World.ownsRow_lit w #[] 0 (Nat.le_refl _) (by decide) rfl
    have news : ∀ j u, (flatD l)[j]? = some u → (w.alloc (.cells #[] 54)).cell? ((⟨g, 0, none⟩ : Addr).add j) = some u := fun j u hj => by
      rw [Fr.add_eq, World.cell?_alloc_past _ _ _ hgl, Nat.zero_add]
      have := hu.cells (g := g) rfl j u hj
      rw [Fr.add_eq, Nat.zero_add] at this
      exact this
    have O := Lib.hid own0
    have NW := Lib.hid news
    have Z0 := Lib.hid hz0
    have HL := Lib.hid hl
    have FL := Lib.hid (flatD_len l)
    clear own0 news hz0 hu hg hc1 hc2 hc3 hc4 hlt hl
    generalize hn : l.length = n at *
    have HN := Lib.hid hn
    clear hn
    go_enter Tryz.func46, Tryz.ntmps46
    go_wp2_with (at_builtin; refine wpList_append_own _ rfl (.tmp 5) (.tmp 6) 47 rfl w.heap.size 54 i0 (.agg #[.int .i64 0, .int .u32 0, .int .u32 0]) 3 16 Tryz.underlying47 hi Z0.out hz1 hz2 rfl (by decide) (.slice (some ⟨w.heap.size, 0, none⟩) 0 0) 0 [] rfl O.out ⟨g, 0, none⟩ n cap (flatD l) rfl FL.out NW.out enc_one (by have := HL.out; unfold maxLen; omega) (by have := HL.out; omega) (by simp) ?_; intro v' w1 hown hgrow hat)
    have own1 := Lib.hid hown
    have gr := Lib.hid hgrow
    clear hown hgrow hat
    simp only [Nat.zero_add, List.nil_append] at own1
    go_ret
    refine ⟨v', rfl, ?_, ((Below.refl _ _).alloc (Nat.le_refl _) _).grown gr.out (by simp) (by intro k hk; simp [Value.ownBlock] at hk; omega)⟩
    unfold Deeds
    rw [HN.out]
    exact own1.out
theorem log_any (w : World) (hS : St L w v x) (hl : x.log.length ≤ 1000) :
    Calls Tryz.prog 15 #[.pointer (some ⟨L.s, 0, none⟩)] w fun e w' => ∃ u', e = .returned u' ∧ Deeds w.heap.size w' u' x.log ∧ Below w.heap.size w w' := by
  have c6 := hS.c6
  have HC := Lib.hid (cloneD_any w v x.log hl hS.own)
  clear hS hl
  go_enter Tryz.func15, Tryz.ntmps15
  go_wp2_with fail
  refine HC.out.mono ?_
  rintro e w1 ⟨u', rfl, h1, h2⟩
  go_wp2
  go_ret
  exact ⟨_, rfl, h1, h2⟩
end St
end Go.Proofs.YtiiggmfindfkfaaGreat
