/-
  Plain: what is due, what is left, and how many there are, as WheelRight asks. Conditions: that the timers are in order and no number stands twice.
-/
import Derived.Test.YtddiapihopgpbaaWhDuo
namespace Go.Proofs.Ytddiapihopgpbaa
namespace Wh
theorem adv_in {t a : Nat} {l : List DuT} {x : DuT} (h : x ∈ advO t a l) : x.2 ≤ advT t a := by
  unfold advO at h
  unfold advT
  by_cases h0 : a ≤ 4611686018427387904
  · rw [if_pos h0] at h ⊢
    have := (List.mem_filter.1 h).2
    simpa using this
  · rw [if_neg h0] at h; cases h
theorem uni_eq {l : List DuT} (h : Uni l) {x y : DuT} (hx : x ∈ l) (hy : y ∈ l) (e : x.1 = y.1) : x = y := by
  induction l with
  | nil => cases hx
  | cons z r ih =>
    obtain ⟨h1, h2⟩ := List.pairwise_cons.1 h
    rcases List.mem_cons.1 hx with rfl | hx' <;> rcases List.mem_cons.1 hy with rfl | hy'
    · rfl
    · exact absurd e (h1 y hy')
    · exact absurd e.symm (h1 x hx')
    · exact ih h2 hx' hy'
theorem adv_gone {t a : Nat} {l : List DuT} (hu : Uni l) {x : DuT} (h : x ∈ advO t a l) : atP ((x.1 : Nat) : Int) (advL t a l) = none := by
  unfold advO at h
  unfold advL
  by_cases h0 : a ≤ 4611686018427387904
  · rw [if_pos h0] at h ⊢
    unfold atP
    rw [if_pos (by omega)]
    have hn : (rst (max t a) l).find? (fun y => y.1 == ((x.1 : Nat) : Int).toNat) = none := by
      refine List.find?_eq_none.2 (fun y hy => ?_)
      intro e
      have e' : y.1 = x.1 := by simpa using e
      have hx := List.mem_filter.1 h
      have hy2 := List.mem_filter.1 hy
      have := uni_eq hu hx.1 hy2.1 e'.symm
      subst this
      have h1 := hx.2
      have h2 := hy2.2
      rw [h1] at h2
      cases h2
    rw [hn]
    rfl
  · rw [if_neg h0] at h; cases h
theorem adv_srt {t a : Nat} {l : List DuT} (h : Srt l) : Srt (advO t a l) := by
  unfold advO
  split
  · exact srt_filter h _
  · exact List.Pairwise.nil
theorem adv_next {t a : Nat} {l : List DuT} (h0 : a ≤ 4611686018427387904) {y : DuT} (hy : y ∈ advL t a l) : advT t a < y.2 := by
  unfold advL at hy
  unfold advT
  rw [if_pos h0] at hy ⊢
  have := (List.mem_filter.1 hy).2
  simp at this
  omega
theorem adv_len (t a : Nat) (l : List DuT) : (advO t a l).length + (advL t a l).length = l.length := by
  unfold advO advL
  split
  · exact out_rst_len _ l
  · simp
theorem del_len {d : Nat} : ∀ {l : List DuT}, Uni l → has d l = true → (del d l).length + 1 = l.length
  | [], _, h => by cases h
  | y :: r, hu, h => by
    obtain ⟨h1, h2⟩ := List.pairwise_cons.1 hu
    by_cases e : y.1 = d
    · have hr : has d r = false := by
        cases hh : has d r with
        | false => rfl
        | true =>
          obtain ⟨z, hz, e'⟩ := has_iff.1 hh
          exact absurd (e.trans e'.symm) (h1 z hz)
      have : del d (y :: r) = del d r := by unfold del; rw [List.filter_cons_of_neg (by simp [e])]
      rw [this, has_no hr]
      rfl
    · have hr : has d r = true := by
        obtain ⟨z, hz, e'⟩ := has_iff.1 h
        rcases List.mem_cons.1 hz with rfl | hz
        · exact absurd e' e
        · exact has_iff.2 ⟨z, hz, e'⟩
      have : del d (y :: r) = y :: del d r := by unfold del; rw [List.filter_cons_of_pos (by simpa using e)]
      rw [this]
      have := del_len h2 hr
      simp only [List.length_cons]
      omega
theorem can_len {d : Int} {l : List DuT} (hu : Uni l) (h : canB d l = true) : (canL d l).length + 1 = l.length := by
  unfold canL
  rw [if_pos h]
  unfold canB at h
  exact del_len hu (by simpa using (Bool.and_eq_true _ _ ▸ h : decide (0 ≤ d) = true ∧ has d.toNat l = true).2)
theorem can_no {d : Int} {l : List DuT} (h : canB d l = false) : canL d l = l := by
  unfold canL
  rw [if_neg (by rw [h]; decide)]
theorem add_len {d : Int} {a : Nat} {l : List DuT} : (addL d a l).length = l.length + (if addE d a l = 0 then 1 else 0) := by
  unfold addL
  by_cases h : addE d a l = 0
  · rw [if_pos h, if_pos h, len_ins]
  · rw [if_neg h, if_neg h]; rfl
theorem srt_next {l : List DuT} (h : Srt l) {j : Nat} {x y : DuT} (hx : l[j]? = some x) (hy : l[j + 1]? = some y) : x.2 < y.2 ∨ x.2 = y.2 ∧ x.1 < y.1 := by
  have hj := (List.getElem?_eq_some_iff.1 hy).1
  have h1 := List.pairwise_iff_getElem.1 h j (j + 1) (by omega) hj (by omega)
  have e1 := (List.getElem?_eq_some_iff.1 hx).2
  have e2 := (List.getElem?_eq_some_iff.1 hy).2
  rw [e1, e2] at h1
  unfold Hp.lt at h1
  omega
end Wh
end Go.Proofs.Ytddiapihopgpbaa
