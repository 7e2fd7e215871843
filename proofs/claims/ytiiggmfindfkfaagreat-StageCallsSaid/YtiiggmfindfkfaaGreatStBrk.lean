/-
  Plain: how long a call's log is; rows and worlds beside what a call on a space changes. Conditions: none.
-/
import Derived.Test.YtiiggmfindfkfaaGreatStPlay
import Derived.Test.YtiiggmfindfkfaaGreatStDuo
namespace Go.Proofs.YtiiggmfindfkfaaGreat
open Go.RowKit Nt
namespace St
open Ph En Wk
section
variable {n vm : Nat} {x : Pl} {A : Nat → Fst}
theorem ready_len {i : Nat} {x1 : Pl} {A1 : Nat → Fst} (h : ready n vm x A i = some (x1, A1)) : x1.log.length ≤ x.log.length + 195 := by
  unfold ready at h
  split at h
  · split at h
    · cases h
    · injection h with h
      injection h with h1 _
      subst h1
      exact bup_len n vm x _ _ _ _ _
  · injection h with h
    injection h with h1 _
    subst h1
    omega
theorem laid_len {i : Nat} {x1 : Pl} {A1 : Nat → Fst} (h : laid n vm x A i = some (x1, A1)) : x1.log.length ≤ x.log.length + 3 := by
  unfold laid at h
  split at h
  · split at h
    · cases h
    · injection h with h
      injection h with h1 _
      subst h1
      exact Pl.chg_len n vm (x.took _) _ _
  · injection h with h
    injection h with h1 _
    subst h1
    omega
theorem pgP_len (i j : Nat) (o : Option (Bool × Bool × Nat)) : (pgP n vm x A i j o).1.log.length ≤ x.log.length + 3 := by
  unfold pgP
  split
  · exact Pl.chg_len n vm x _ _
  · simp
theorem repP_len (i : Nat) (f : Fst) : (repP n vm x A i f).1.log.length ≤ x.log.length + 3 := by
  unfold repP
  split
  · exact Pl.chg_len n vm x _ _
  · simp
theorem tidy_len (i : Nat) : (tidy n vm x A i).1.log.length ≤ x.log.length + 3 := by
  unfold tidy
  split
  · exact repP_len i _
  · simp
theorem opP_len (hl : x.log = []) (c : Cq) : (opP n vm x A c).x.log.length ≤ 300 := by
  have h0 : x.log.length = 0 := by rw [hl]; rfl
  unfold opP
  split
  · unfold mapP
    split
    · simp only; omega
    · split
      · simp only; omega
      · split
        · simp only; omega
        · rename_i x1 A1 h
          have h1 := laid_len h
          have h2 := pgP_len (n := n) (vm := vm) (x := x1) (A := A1) (c.page.toNat / 64) (c.page.toNat % 64) (some (c.w, c.e, c.frame.toNat))
          simp only
          omega
  · split
    · unfold runM
      split
      · simp only; omega
      · split
        · simp only; omega
        · have h1 := Pl.chg_len n vm x (256 * x.root + 4 * c.page.toNat) (Fst.blk c.w c.e c.frame.toNat).W
          simp only
          omega
    · split
      · unfold unmP
        split
        · simp only; omega
        · split
          · simp only; omega
          · split
            · simp only; omega
            · rename_i x1 A1 h
              have h1 := ready_len h
              have h2 := pgP_len (n := n) (vm := vm) (x := x1) (A := A1) (c.page.toNat / 64) (c.page.toNat % 64) none
              have h3 := tidy_len (n := n) (vm := vm) (x := (pgP n vm x1 A1 (c.page.toNat / 64) (c.page.toNat % 64) none).1) (A := (pgP n vm x1 A1 (c.page.toNat / 64) (c.page.toNat % 64) none).2) (c.page.toNat / 64)
              simp only
              omega
      · split
        · unfold proP
          split
          · simp only; omega
          · split
            · simp only; omega
            · rename_i q _
              split
              · simp only; omega
              · rename_i x1 A1 h
                have h1 := ready_len h
                have h2 := pgP_len (n := n) (vm := vm) (x := x1) (A := A1) (c.page.toNat / 64) (c.page.toNat % 64) (some (c.w, c.e, q.F))
                simp only
                omega
        · split
          · unfold splP
            split
            · simp only; omega
            · split
              · simp only; omega
              · split
                · simp only; omega
                · rename_i x1 A1 h
                  have h1 := ready_len h
                  simp only
                  omega
          · unfold merP
            split
            · simp only; omega
            · split
              · split
                · simp only; omega
                · rename_i w e F _
                  have h2 := repP_len (n := n) (vm := vm) (x := x) (A := A) c.page.toNat (.blk w e F)
                  simp only
                  omega
              · simp only; omega
theorem stepR_len (hR : Rep n x A) (c : Cq) : (stepR n vm x A c).x.log.length ≤ 300 := by
  rw [stepR_live hR.live]
  exact opP_len rfl c
end
/-- A row of numbers that calls on a space leave. -/
theorem seen_hop {B : Nat} {L : Loc} {w0 w w' : World} {v v' : Value} {x : Pl} {u : Value} {l : List Nat} (h : Fr.Seen B w u l) (hS : St L w0 v x) (hB : w0.heap.size ≤ B) (hp : Hop L.S v v' w w') : Fr.Seen B w' u l := by
  obtain ⟨a, cap, rfl, hcap, hr⟩ := h
  refine ⟨a, cap, rfl, hcap, fun hl => ?_⟩
  obtain ⟨b, rfl, hb, hlt, hc⟩ := hr hl
  have h1 : b ∉ L.S := fun hm => by have := hS.lts b (by simp [Loc.S] at hm; simp [Loc.all]; omega); omega
  exact ⟨b, rfl, hb, Nat.lt_of_lt_of_le hlt hp.size, fun i y hi => (hp.cell hlt h1 (hS.off (by omega)) i).trans (hc i y hi)⟩
/-- A memory that calls on a space leave. -/
theorem mem_hop {L : Loc} {w0 w w' : World} {v v' : Value} {x : Pl} {m F n c : Nat} {z : Nat → Int} (h : Mem w m F n c z) (hS : St L w0 v x) (hm : w0.heap.size ≤ m) (hF : w0.heap.size ≤ F) (hp : Hop L.S v v' w w') : Mem w' m F n c z := by
  have key : ∀ b, w0.heap.size ≤ b → b ∉ L.S ++ v.ownBlock.toList := fun b hb => by
    have h1 : b ∉ L.S := fun hm => by have := hS.lts b (by simp [Loc.S] at hm; simp [Loc.all]; omega); omega
    have h2 := hS.off hb
    simp only [List.mem_append, not_or]
    exact ⟨h1, by simpa using fun e => h2 e⟩
  exact h.kept (hop_only hp) (key m hm) (key F hF)
/-- A world stays where other blocks are written. -/
theorem Wd.side {B g : Nat} {L : Loc} {w w' : World} {v : Value} {x : Pl} {S : List Nat} (h : Wd B g L w v x) (ho : Only S w w') (hs : ∀ k ∈ S, k ∉ L.all ∧ k ≠ g ∧ v.ownBlock ≠ some k) : Wd B g L w' v x :=
  ⟨h.st.kept ho (fun k hk hm => (hs k hm).1 hk) (fun k hk => (hs k hk).2.2), h.lay.kept ho (fun hm => (hs g hm).2.1 rfl), h.out, h.off, h.new, h.newg, h.newv⟩
/-- What is new beside a world. -/
def Off (L : Loc) (g : Nat) (v : Value) (k : Nat) : Prop := k ∉ L.all ∧ k ≠ g ∧ v.ownBlock ≠ some k
theorem Wd.offs {B g : Nat} {L : Loc} {w : World} {v : Value} {x : Pl} (h : Wd B g L w v x) {k : Nat} (hk : w.heap.size ≤ k) : Off L g v k :=
  ⟨fun e => by have := h.st.lts k e; omega, fun e => by have := h.lay.lt; omega, h.st.off hk⟩
theorem Off.hop {L : Loc} {g : Nat} {v v' : Value} {w w' : World} {k : Nat} (h : Off L g v k) (hk : k < w.heap.size) (hp : Hop L.S v v' w w') : Off L g v' k := ⟨h.1, h.2.1, hp.off hk h.2.2⟩
theorem dl_same (z : Nat → Int) (k : Nat) : dl z z k = [] := by
  unfold dl
  rw [List.filter_eq_nil_iff]
  intro q _
  have : eqN 256 (fr z q) (fr z q) = true := by unfold eqN; simp
  rw [this]
  simp
theorem DRow.mono {B B' : Nat} {w : World} {u : Value} {l : List Deed} (h : DRow B w u l) (hb : B' ≤ B) : DRow B' w u l := by
  obtain ⟨a, cap, rfl, hr⟩ := h
  refine ⟨a, cap, rfl, fun hl => ?_⟩
  obtain ⟨g, rfl, hB, hlt, hc⟩ := hr hl
  exact ⟨g, rfl, by omega, hlt, hc⟩
theorem which_lt {o : Int} {os : List Nat} {t : Nat} (h : t ∈ Fr.which o os) : t < os.length := by
  obtain ⟨y, h1, _⟩ := Fr.mem_which.1 h
  exact (List.getElem?_eq_some_iff.1 h1).1
/-- Is there a drop among the first of a row? -/
def drN (l : List Deed) (i : Nat) : Bool := (l.take i).any Deed.isDrop
theorem drN_zero (l : List Deed) : drN l 0 = false := by simp [drN]
theorem drN_next {l : List Deed} {i : Nat} {d : Deed} (h : l[i]? = some d) : drN l (i + 1) = (drN l i || d.isDrop) := by
  unfold drN
  rw [List.take_add_one, h, List.any_append]
  simp
theorem drN_all (l : List Deed) : drN l l.length = l.any Deed.isDrop := by unfold drN; rw [List.take_length]
theorem isDrop_kind (d : Deed) : d.isDrop = (d.kind == 2) := by cases d <;> rfl
end St
end Go.Proofs.YtiiggmfindfkfaaGreat
