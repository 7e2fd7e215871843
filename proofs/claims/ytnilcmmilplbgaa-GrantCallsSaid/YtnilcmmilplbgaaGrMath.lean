/-
  Plain: grants by their numbers: what each call answers and leaves, what stays true of them all, and which numbers are found. Conditions: none.
-/
import Derived.Lib.Hide
namespace Go.Proofs.Ytnilcmmilplbgaa
namespace Gr
/-- A grant: its state, whose it is, of which frame, to whom, at which page, may it be written. -/
abbrev GtT := Int × Int × Int × Int × Int × Bool
abbrev sta (x : GtT) : Int := x.1
abbrev own (x : GtT) : Int := x.2.1
abbrev frm (x : GtT) : Int := x.2.2.1
abbrev too (x : GtT) : Int := x.2.2.2.1
abbrev pag (x : GtT) : Int := x.2.2.2.2.1
abbrev wri (x : GtT) : Bool := x.2.2.2.2.2
def gz : GtT := (0, 0, 0, 0, 0, false)
def upd {α : Type} (f : Nat → α) (i : Nat) (v : α) (j : Nat) : α := if j = i then v else f j
theorem upd_at {α : Type} (f : Nat → α) (i : Nat) (v : α) : upd f i v i = v := by unfold upd; rw [if_pos rfl]
theorem upd_ne {α : Type} (f : Nat → α) {i j : Nat} (v : α) (h : j ≠ i) : upd f i v j = f j := by unfold upd; rw [if_neg h]

/-! ### The least number of which something is so -/
def lst (P : GtT → Bool) (g : Nat → GtT) : Nat → Option Nat
  | 0 => none
  | n + 1 => match lst P g n with
    | some i => some i
    | none => if P (g n) = true then some n else none
section
variable {P : GtT → Bool} {g : Nat → GtT}
theorem lst_none : ∀ {n : Nat}, lst P g n = none → ∀ j, j < n → P (g j) = false
  | 0, _, j, hj => by omega
  | n + 1, h, j, hj => by
    unfold lst at h
    cases hl : lst P g n with
    | some k => rw [hl] at h; cases h
    | none =>
      rw [hl] at h
      simp only at h
      split at h
      · cases h
      · rename_i hp
        by_cases e : j = n
        · subst e; simpa using hp
        · exact lst_none hl j (by omega)
theorem lst_some : ∀ {n i : Nat}, lst P g n = some i → i < n ∧ P (g i) = true ∧ ∀ j, j < i → P (g j) = false
  | 0, i, h => by cases h
  | n + 1, i, h => by
    unfold lst at h
    cases hl : lst P g n with
    | some k =>
      rw [hl] at h
      injection h with h
      subst h
      obtain ⟨a, b, c⟩ := lst_some hl
      exact ⟨by omega, b, c⟩
    | none =>
      rw [hl] at h
      simp only at h
      split at h
      · rename_i hp
        injection h with h
        subst h
        exact ⟨by omega, hp, lst_none hl⟩
      · cases h
theorem lst_no : ∀ {n : Nat}, (∀ j, j < n → P (g j) = false) → lst P g n = none
  | 0, _ => rfl
  | n + 1, h => by
    unfold lst
    rw [lst_no (n := n) (fun j hj => h j (by omega))]
    simp only
    rw [h n (by omega), if_neg (by simp)]
theorem lst_at {n i : Nat} (hi : i < n) (h : P (g i) = true) (h0 : ∀ j, j < i → P (g j) = false) : lst P g n = some i := by
  cases hl : lst P g n with
  | none => have := lst_none hl i hi; rw [h] at this; cases this
  | some k =>
    obtain ⟨_, b, c⟩ := lst_some hl
    have : k = i := by
      by_cases e : k < i
      · have := h0 k e; rw [b] at this; cases this
      · by_cases e' : i < k
        · have := c i e'; rw [h] at this; cases this
        · omega
    rw [this]
theorem lst_isSome {n : Nat} : (lst P g n).isSome = true ↔ ∃ j, j < n ∧ P (g j) = true := by
  constructor
  · intro h
    cases hl : lst P g n with
    | none => rw [hl] at h; cases h
    | some k => obtain ⟨a, b, _⟩ := lst_some hl; exact ⟨k, a, b⟩
  · rintro ⟨j, hj, hp⟩
    cases hl : lst P g n with
    | none => have := lst_none hl j hj; rw [hp] at this; cases this
    | some k => rfl
/-- The first are looked at, one more. -/
theorem lst_next (n : Nat) : (lst P g (n + 1)).isSome = ((lst P g n).isSome || P (g n)) := by
  rw [Bool.eq_iff_iff, Bool.or_eq_true, lst_isSome, lst_isSome]
  constructor
  · rintro ⟨j, hj, hp⟩
    by_cases e : j = n
    · subst e; exact Or.inr hp
    · exact Or.inl ⟨j, by omega, hp⟩
  · rintro (⟨j, hj, hp⟩ | hp)
    · exact ⟨j, by omega, hp⟩
    · exact ⟨n, by omega, hp⟩
end

/-! ### What each call answers and leaves -/
def gst (n : Int) : Bool := decide (2 ≤ n) && decide (n ≤ 9)
def idk (n : Int) : Bool := decide (0 ≤ n) && decide (n < 32)
theorem gst_iff {n : Int} : gst n = true ↔ 2 ≤ n ∧ n ≤ 9 := by unfold gst; simp
theorem idk_iff {n : Int} : idk n = true ↔ 0 ≤ n ∧ n < 32 := by unfold idk; simp
theorem idk_nat {n : Int} (h : idk n = true) : ∃ k : Nat, n = k ∧ k < 32 := by have := idk_iff.1 h; exact ⟨n.toNat, by omega, by omega⟩
/-- A grant of an owner's frame to one, that isn't free. -/
def isSame (o f t : Int) (x : GtT) : Bool := sta x != 0 && own x == o && frm x == f && too x == t
/-- A grant that one has taken at a page. -/
def isAt (t p : Int) (x : GtT) : Bool := sta x == 2 && too x == t && pag x == p
/-- A grant of a frame that one has taken. -/
def isMay (t f : Int) (w : Bool) (x : GtT) : Bool := sta x == 2 && too x == t && frm x == f && (wri x || !w)
def isFree (x : GtT) : Bool := sta x == 0
/-- A grant of one's, or to it. -/
def isOf (t : Int) (x : GtT) : Bool := sta x != 0 && (own x == t || too x == t)
def offP (g : Nat → GtT) (o f t : Int) (w : Bool) : Int × Int × (Nat → GtT) :=
  if gst o = false ∨ gst t = false ∨ o = t ∨ f < 0 then (-1, 11, g)
  else if (lst (isSame o f t) g 32).isSome = true then (-1, 13, g)
  else match lst isFree g 32 with
    | none => (-1, 15, g)
    | some i => ((i : Int), 0, upd g i (1, o, f, t, 0, w))
def atP (g : Nat → GtT) (t p : Int) : Int := match lst (isAt t p) g 32 with
  | none => -1
  | some i => (i : Int)
def mayP (g : Nat → GtT) (t f : Int) (w : Bool) : Bool := (lst (isMay t f w) g 32).isSome
def getP (g : Nat → GtT) (n : Int) : GtT := if idk n = true then g n.toNat else gz
def accP (g : Nat → GtT) (n t p : Int) : GtT × Int × (Nat → GtT) :=
  if idk n = false ∨ gst t = false ∨ p < 0 ∨ 4095 < p then (gz, 11, g)
  else if sta (g n.toNat) = 0 ∨ too (g n.toNat) ≠ t then (gz, 12, g)
  else if sta (g n.toNat) = 2 then (gz, 20, g)
  else if (lst (isAt t p) g 32).isSome = true then (gz, 17, g)
  else ((2, own (g n.toNat), frm (g n.toNat), too (g n.toNat), p, wri (g n.toNat)), 0, upd g n.toNat (2, own (g n.toNat), frm (g n.toNat), too (g n.toNat), p, wri (g n.toNat)))
def lveP (g : Nat → GtT) (n t : Int) : GtT × Int × (Nat → GtT) :=
  if idk n = false ∨ gst t = false then (gz, 11, g)
  else if sta (g n.toNat) = 0 ∨ too (g n.toNat) ≠ t then (gz, 12, g)
  else if sta (g n.toNat) = 1 then (gz, 20, g)
  else (g n.toNat, 0, upd g n.toNat (1, own (g n.toNat), frm (g n.toNat), too (g n.toNat), 0, wri (g n.toNat)))
def revP (g : Nat → GtT) (n o : Int) : GtT × Int × (Nat → GtT) :=
  if idk n = false ∨ gst o = false then (gz, 11, g)
  else if sta (g n.toNat) = 0 ∨ own (g n.toNat) ≠ o then (gz, 16, g)
  else (g n.toNat, 0, upd g n.toNat gz)
/-- Those of one, of the first, are free. -/
def gonN (t : Int) (g : Nat → GtT) (n : Nat) : Nat → GtT := fun i => if i < n ∧ isOf t (g i) = true then gz else g i
def gonP (g : Nat → GtT) (t : Int) : Nat → GtT := gonN t g 32
/-- They, as they were. -/
def gonL (t : Int) (g : Nat → GtT) (n : Nat) : List GtT := ((List.range n).filter (fun i => isOf t (g i))).map g
theorem gonL_next (t : Int) (g : Nat → GtT) (n : Nat) : gonL t g (n + 1) = gonL t g n ++ (if isOf t (g n) = true then [g n] else []) := by
  unfold gonL
  rw [List.range_succ, List.filter_append, List.map_append]
  cases h : isOf t (g n) <;> simp [h]
theorem gonL_len (t : Int) (g : Nat → GtT) (n : Nat) : (gonL t g n).length ≤ n := by
  unfold gonL
  rw [List.length_map]
  exact Nat.le_trans (List.length_filter_le _ _) (by simp)
theorem gonN_zero (t : Int) (g : Nat → GtT) : gonN t g 0 = g := by
  funext i
  unfold gonN
  rw [if_neg (by omega)]
theorem gonN_next (t : Int) (g : Nat → GtT) (n : Nat) : gonN t g (n + 1) = if isOf t (g n) = true then upd (gonN t g n) n gz else gonN t g n := by
  funext i
  by_cases h : isOf t (g n) = true
  · rw [if_pos h]
    by_cases e : i = n
    · subst e
      rw [upd_at]
      unfold gonN
      rw [if_pos ⟨by omega, h⟩]
    · rw [upd_ne _ _ e]
      unfold gonN
      by_cases e2 : i < n ∧ isOf t (g i) = true
      · rw [if_pos ⟨by omega, e2.2⟩, if_pos e2]
      · rw [if_neg (fun x => e2 ⟨by omega, x.2⟩), if_neg e2]
  · rw [if_neg h]
    unfold gonN
    by_cases e : i = n
    · subst e
      rw [if_neg (fun x => h x.2), if_neg (fun x => h x.2)]
    · by_cases e2 : i < n ∧ isOf t (g i) = true
      · rw [if_pos ⟨by omega, e2.2⟩, if_pos e2]
      · rw [if_neg (fun x => e2 ⟨by omega, x.2⟩), if_neg e2]
/-- What is to come is as it was. -/
theorem gonN_past (t : Int) (g : Nat → GtT) {n i : Nat} (h : n ≤ i) : gonN t g n i = g i := by
  unfold gonN
  rw [if_neg (by omega)]

/-! ### What stays true of them all -/
/-- A grant is one. -/
structure Gk (x : GtT) : Prop where
  st : sta x = 0 ∨ sta x = 1 ∨ sta x = 2
  free : sta x = 0 → x = gz
  off : sta x = 1 → pag x = 0
  ow : sta x ≠ 0 → gst (own x) = true ∧ gst (too x) = true ∧ own x ≠ too x ∧ 0 ≤ frm x
  at_ : sta x = 2 → 0 ≤ pag x ∧ pag x ≤ 4095
theorem gk_gz : Gk gz := ⟨Or.inl rfl, fun _ => rfl, (fun h => by cases h), fun h => absurd rfl h, (fun h => by cases h)⟩
structure Gv (g : Nat → GtT) : Prop where
  one : ∀ i, i < 32 → Gk (g i)
  same : ∀ i j, i < 32 → j < 32 → sta (g i) ≠ 0 → sta (g j) ≠ 0 → own (g i) = own (g j) → frm (g i) = frm (g j) → too (g i) = too (g j) → i = j
  page : ∀ i j, i < 32 → j < 32 → sta (g i) = 2 → sta (g j) = 2 → too (g i) = too (g j) → pag (g i) = pag (g j) → i = j
theorem gv_new : Gv (fun _ => gz) := ⟨fun _ _ => gk_gz, fun _ _ _ _ h => absurd rfl h, fun _ _ _ _ h => by cases h⟩
section
variable {g : Nat → GtT}
theorem Gv.upd (h : Gv g) {i : Nat} {x : GtT} (hx : Gk x)
    (hs : sta x ≠ 0 → ∀ j, j < 32 → j ≠ i → sta (g j) ≠ 0 → own x = own (g j) → frm x = frm (g j) → too x = too (g j) → False)
    (hp : sta x = 2 → ∀ j, j < 32 → j ≠ i → sta (g j) = 2 → too x = too (g j) → pag x = pag (g j) → False) : Gv (upd g i x) := by
  refine ⟨fun j hj => ?_, fun j k hj hk => ?_, fun j k hj hk => ?_⟩
  · by_cases e : j = i
    · subst e; rw [upd_at]; exact hx
    · rw [upd_ne _ _ e]; exact h.one j hj
  · by_cases e : j = i
    · subst e
      rw [upd_at]
      by_cases e2 : k = j
      · exact fun _ _ _ _ _ => e2.symm
      · rw [upd_ne _ _ e2]
        exact fun a b c d f => (hs a k hk e2 b c d f).elim
    · rw [upd_ne _ _ e]
      by_cases e2 : k = i
      · subst e2
        rw [upd_at]
        exact fun a b c d f => (hs b j hj e a c.symm d.symm f.symm).elim
      · rw [upd_ne _ _ e2]
        exact h.same j k hj hk
  · by_cases e : j = i
    · subst e
      rw [upd_at]
      by_cases e2 : k = j
      · exact fun _ _ _ _ => e2.symm
      · rw [upd_ne _ _ e2]
        exact fun a b c d => (hp a k hk e2 b c d).elim
    · rw [upd_ne _ _ e]
      by_cases e2 : k = i
      · subst e2
        rw [upd_at]
        exact fun a b c d => (hp b j hj e a c.symm d.symm).elim
      · rw [upd_ne _ _ e2]
        exact h.page j k hj hk
theorem isSame_iff {o f t : Int} {x : GtT} : isSame o f t x = true ↔ sta x ≠ 0 ∧ own x = o ∧ frm x = f ∧ too x = t := by
  unfold isSame
  simp [and_assoc]
theorem isAt_iff {t p : Int} {x : GtT} : isAt t p x = true ↔ sta x = 2 ∧ too x = t ∧ pag x = p := by
  unfold isAt
  simp [and_assoc]
theorem isMay_iff {t f : Int} {w : Bool} {x : GtT} : isMay t f w x = true ↔ sta x = 2 ∧ too x = t ∧ frm x = f ∧ (wri x = true ∨ w = false) := by
  unfold isMay
  simp [and_assoc]
theorem isOf_iff {t : Int} {x : GtT} : isOf t x = true ↔ sta x ≠ 0 ∧ (own x = t ∨ too x = t) := by
  unfold isOf
  simp
theorem isFree_iff {x : GtT} : isFree x = true ↔ sta x = 0 := by unfold isFree; simp
theorem none_of {P : GtT → Bool} (h : ¬ (lst P g 32).isSome = true) : ∀ j, j < 32 → P (g j) = false := by
  cases hl : lst P g 32 with
  | none => exact lst_none hl
  | some k => rw [hl] at h; exact absurd rfl h
theorem gv_off (h : Gv g) (o f t : Int) (w : Bool) : Gv (offP g o f t w).2.2 := by
  unfold offP
  split
  · exact h
  · rename_i h1
    split
    · exact h
    · rename_i h2
      split
      · exact h
      · rename_i i hi
        have h3 := none_of h2
        have go : gst o = true := by cases x : gst o with | true => rfl | false => exact absurd (Or.inl x) h1
        have gt : gst t = true := by cases x : gst t with | true => rfl | false => exact absurd (Or.inr (Or.inl x)) h1
        have ne : o ≠ t := fun x => h1 (Or.inr (Or.inr (Or.inl x)))
        have f0 : 0 ≤ f := by
          by_cases x : f < 0
          · exact absurd (Or.inr (Or.inr (Or.inr x))) h1
          · omega
        refine h.upd ⟨Or.inr (Or.inl rfl), (fun x => by cases x), fun _ => rfl, fun _ => ⟨go, gt, ne, f0⟩, (fun x => by cases x)⟩ (fun _ j hj _ a b c d => ?_) (fun x => by cases x)
        have := h3 j hj
        rw [isSame_iff.2 ⟨a, b.symm, c.symm, d.symm⟩] at this
        cases this
theorem gv_acc (h : Gv g) (n t p : Int) : Gv (accP g n t p).2.2 := by
  unfold accP
  split
  · exact h
  · rename_i h1
    split
    · exact h
    · rename_i h2
      split
      · exact h
      · split
        · exact h
        · rename_i h4
          have h5 := none_of h4
          have hn : idk n = true := by cases x : idk n with | true => rfl | false => exact absurd (Or.inl x) h1
          obtain ⟨k, rfl, hk⟩ := idk_nat hn
          simp only [Int.toNat_natCast] at *
          have s0 : sta (g k) ≠ 0 := fun x => h2 (Or.inl x)
          have st : too (g k) = t := by
            by_cases x : too (g k) = t
            · exact x
            · exact absurd (Or.inr x) h2
          have hp : 0 ≤ p ∧ p ≤ 4095 := by
            constructor
            · by_cases x : p < 0
              · exact absurd (Or.inr (Or.inr (Or.inl x))) h1
              · omega
            · by_cases x : 4095 < p
              · exact absurd (Or.inr (Or.inr (Or.inr x))) h1
              · omega
          refine h.upd ⟨Or.inr (Or.inr rfl), (fun x => by cases x), (fun x => by cases x), fun _ => (h.one k hk).ow s0, fun _ => hp⟩ (fun _ j hj hne a b c d => ?_) (fun _ j hj _ a b c => ?_)
          · exact hne (h.same k j hk hj s0 a b c d).symm
          · have := h5 j hj
            rw [isAt_iff.2 ⟨a, by rw [← st]; exact b.symm, c.symm⟩] at this
            cases this
theorem gv_lve (h : Gv g) (n t : Int) : Gv (lveP g n t).2.2 := by
  unfold lveP
  split
  · exact h
  · rename_i h1
    split
    · exact h
    · rename_i h2
      split
      · exact h
      · have hn : idk n = true := by cases x : idk n with | true => rfl | false => exact absurd (Or.inl x) h1
        obtain ⟨k, rfl, hk⟩ := idk_nat hn
        simp only [Int.toNat_natCast] at *
        have s0 : sta (g k) ≠ 0 := fun x => h2 (Or.inl x)
        refine h.upd ⟨Or.inr (Or.inl rfl), (fun x => by cases x), fun _ => rfl, fun _ => (h.one k hk).ow s0, (fun x => by cases x)⟩ (fun _ j hj hne a b c d => hne (h.same k j hk hj s0 a b c d).symm) (fun x => by cases x)
theorem gv_rev (h : Gv g) (n o : Int) : Gv (revP g n o).2.2 := by
  unfold revP
  split
  · exact h
  · split
    · exact h
    · exact h.upd gk_gz (fun x => absurd rfl x) (fun x => by cases x)
theorem gv_gonN (h : Gv g) (t : Int) : ∀ n, Gv (gonN t g n)
  | 0 => by rw [gonN_zero]; exact h
  | n + 1 => by
    rw [gonN_next]
    split
    · exact (gv_gonN h t n).upd gk_gz (fun x => absurd rfl x) (fun x => by cases x)
    · exact gv_gonN h t n
theorem gv_gon (h : Gv g) (t : Int) : Gv (gonP g t) := gv_gonN h t 32

/-! ### What the laws ask -/
/-- A grant that is taken is found. -/
theorem may_taken {k : Nat} (hk : k < 32) (h : sta (g k) = 2) : mayP g (too (g k)) (frm (g k)) (wri (g k)) = true := by
  unfold mayP
  rw [lst_isSome]
  refine ⟨k, hk, isMay_iff.2 ⟨h, rfl, rfl, ?_⟩⟩
  cases wri (g k) with
  | true => exact Or.inl rfl
  | false => exact Or.inr rfl
theorem at_taken (hv : Gv g) {k : Nat} (hk : k < 32) (h : sta (g k) = 2) : atP g (too (g k)) (pag (g k)) = (k : Int) := by
  unfold atP
  rw [lst_at (i := k) hk (isAt_iff.2 ⟨h, rfl, rfl⟩) (fun j hj => by
    cases x : isAt (too (g k)) (pag (g k)) (g j) with
    | false => rfl
    | true =>
      obtain ⟨a, b, c⟩ := isAt_iff.1 x
      have := hv.page j k (by omega) hk a h b c
      omega)]
theorem may_gone (t f : Int) : mayP (gonP g t) t f false = false := by
  unfold mayP
  rw [lst_no]
  · rfl
  · intro j hj
    cases x : isMay t f false (gonP g t j) with
    | false => rfl
    | true =>
      obtain ⟨a, b, _⟩ := isMay_iff.1 x
      unfold gonP gonN at a b
      split at a
      · cases a
      · rename_i h
        rw [if_neg h] at b
        exact absurd ⟨hj, isOf_iff.2 ⟨by rw [a]; decide, Or.inr b⟩⟩ h
theorem gone_none (t : Int) {j : Nat} (hj : j < 32) : isOf t (gonP g t j) = false := by
  cases x : isOf t (gonP g t j) with
  | false => rfl
  | true =>
    unfold gonP gonN at x
    split at x
    · cases x
    · rename_i h; exact absurd ⟨hj, x⟩ h
theorem gone_far (t : Int) {j : Nat} (h : isOf t (g j) = false) : gonP g t j = g j := by
  unfold gonP gonN
  rw [if_neg (fun x => by rw [h] at x; cases x.2)]
/-- How many are one's. -/
def cntO (t : Int) (g : Nat → GtT) (n : Nat) : Nat := (gonL t g n).length
theorem cntO_next (t : Int) (g : Nat → GtT) (n : Nat) : cntO t g (n + 1) = cntO t g n + (if isOf t (g n) = true then 1 else 0) := by
  unfold cntO
  rw [gonL_next, List.length_append]
  split <;> simp

/-! ### All that there are -/
/-- The first are offered, frame by frame. -/
def allG (o t : Int) (w : Bool) (n : Nat) : Nat → GtT := fun j => if j < n then (1, o, (j : Int), t, 0, w) else gz
theorem allG_zero (o t : Int) (w : Bool) : allG o t w 0 = fun _ => gz := by
  funext j
  unfold allG
  rw [if_neg (by omega)]
theorem allG_next (o t : Int) (w : Bool) (n : Nat) : upd (allG o t w n) n (1, o, (n : Int), t, 0, w) = allG o t w (n + 1) := by
  funext j
  by_cases e : j = n
  · subst e
    rw [upd_at]
    unfold allG
    rw [if_pos (by omega)]
  · rw [upd_ne _ _ e]
    unfold allG
    by_cases h : j < n
    · rw [if_pos h, if_pos (by omega)]
    · rw [if_neg h, if_neg (by omega)]
theorem allG_same {o t f : Int} {w : Bool} {n : Nat} (hf : (n : Int) ≤ f) : ¬ (lst (isSame o f t) (allG o t w n) 32).isSome = true := by
  rw [lst_isSome]
  rintro ⟨j, hj, h⟩
  obtain ⟨a, _, c, _⟩ := isSame_iff.1 h
  unfold allG at a c
  split at a
  · rename_i hlt
    rw [if_pos hlt] at c
    have c : (j : Int) = f := c
    omega
  · exact a rfl
theorem off_all {o t : Int} {w : Bool} {n : Nat} (ho : gst o = true) (ht : gst t = true) (hne : o ≠ t) (hn : n < 32) : offP (allG o t w n) o n t w = ((n : Int), 0, allG o t w (n + 1)) := by
  unfold offP
  rw [if_neg (by rw [ho, ht]; simp only [Bool.true_eq_false, false_or, not_or]; exact ⟨hne, by omega⟩), if_neg (allG_same (Int.le_refl _))]
  rw [lst_at (i := n) hn (by unfold isFree allG; rw [if_neg (by omega)]; rfl) (fun j hj => by unfold isFree allG; rw [if_pos hj]; rfl)]
  simp only
  rw [allG_next]
theorem off_twice {o t : Int} {w u : Bool} {n : Nat} (ho : gst o = true) (ht : gst t = true) (hne : o ≠ t) (hn : n < 32) : offP (allG o t w (n + 1)) o n t u = (-1, 13, allG o t w (n + 1)) := by
  unfold offP
  rw [if_neg (by rw [ho, ht]; simp only [Bool.true_eq_false, false_or, not_or]; exact ⟨hne, by omega⟩), if_pos]
  rw [lst_isSome]
  refine ⟨n, hn, isSame_iff.2 ?_⟩
  unfold allG
  rw [if_pos (by omega)]
  exact ⟨(by show (1 : Int) ≠ 0; decide), rfl, rfl, rfl⟩
theorem off_full {o t : Int} {w : Bool} (ho : gst o = true) (ht : gst t = true) (hne : o ≠ t) : offP (allG o t w 32) o 32 t w = (-1, 15, allG o t w 32) := by
  unfold offP
  rw [if_neg (by rw [ho, ht]; simp only [Bool.true_eq_false, false_or, not_or]; exact ⟨hne, by omega⟩), if_neg (allG_same (by omega))]
  rw [lst_no (P := isFree) (fun j hj => by unfold isFree allG; rw [if_pos hj]; rfl)]
theorem rev_all {o t : Int} {w : Bool} (ho : gst o = true) : revP (allG o t w 32) 5 o = ((1, o, 5, t, 0, w), 0, upd (allG o t w 32) 5 gz) := by
  unfold revP
  have e : allG o t w 32 (5 : Int).toNat = (1, o, 5, t, 0, w) := rfl
  rw [e, if_neg (by rw [ho]; decide), if_neg (by rintro (x | x); exact absurd (show (1 : Int) = 0 from x) (by decide); exact x rfl)]
  rfl
theorem off_back {o t : Int} {w : Bool} (ho : gst o = true) (ht : gst t = true) (hne : o ≠ t) : offP (upd (allG o t w 32) 5 gz) t 32 o w = (5, 0, upd (upd (allG o t w 32) 5 gz) 5 (1, t, 32, o, 0, w)) := by
  unfold offP
  have n1 : ¬ (lst (isSame t 32 o) (upd (allG o t w 32) 5 gz) 32).isSome = true := by
    rw [lst_isSome]
    rintro ⟨j, hj, h⟩
    obtain ⟨a, b, _, _⟩ := isSame_iff.1 h
    by_cases e : j = 5
    · subst e; rw [upd_at] at a; exact a rfl
    · rw [upd_ne _ _ e] at b
      unfold allG at b
      rw [if_pos hj] at b
      exact hne b
  rw [if_neg (by rw [ho, ht]; simp only [Bool.true_eq_false, false_or, not_or]; exact ⟨fun x => hne x.symm, by omega⟩), if_neg n1]
  rw [lst_at (P := isFree) (i := 5) (by omega) (by rw [upd_at]; rfl) (fun j hj => by rw [upd_ne _ _ (by omega)]; unfold isFree allG; rw [if_pos (by omega)]; rfl)]
  rfl
/-- All are one's, or to it. -/
def fulG (o t : Int) (w : Bool) : Nat → GtT := upd (upd (allG o t w 32) 5 gz) 5 (1, t, 32, o, 0, w)
theorem ful_of {o t : Int} {w : Bool} {j : Nat} (hj : j < 32) : isOf o (fulG o t w j) = true := by
  unfold fulG
  by_cases e : j = 5
  · subst e
    rw [upd_at]
    exact isOf_iff.2 ⟨(by show (1 : Int) ≠ 0; decide), Or.inr rfl⟩
  · rw [upd_ne _ _ e, upd_ne _ _ e]
    unfold allG
    rw [if_pos hj]
    exact isOf_iff.2 ⟨(by show (1 : Int) ≠ 0; decide), Or.inl rfl⟩
theorem ful_len (o t : Int) (w : Bool) : ∀ n, n ≤ 32 → (gonL o (fulG o t w) n).length = n
  | 0, _ => rfl
  | n + 1, h => by
    rw [gonL_next, List.length_append, ful_len o t w n (by omega), if_pos (ful_of (by omega))]
    rfl
theorem ful_gone (o t : Int) (w : Bool) : ∀ n, n ≤ 32 → (gonL t (gonP (fulG o t w) o) n).length = 0
  | 0, _ => rfl
  | n + 1, h => by
    have e : gonP (fulG o t w) o n = gz := by
      unfold gonP gonN
      rw [if_pos ⟨by omega, ful_of (by omega)⟩]
    rw [gonL_next, List.length_append, ful_gone o t w n (by omega), e]
    rfl
end
end Gr
end Go.Proofs.Ytnilcmmilplbgaa
