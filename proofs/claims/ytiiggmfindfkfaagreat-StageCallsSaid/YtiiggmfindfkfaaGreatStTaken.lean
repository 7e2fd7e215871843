/-
  The statement's 'taken': frames that stand in one row and not in another one are filled with noughts. Conditions: that a memory lies there.
-/
import Derived.Test.YtiiggmfindfkfaaGreatStDid
namespace Go.Proofs.YtiiggmfindfkfaaGreat
open Go.RowKit
namespace St
open Ph
theorem all_of {B : Nat} {w : World} {a : Option Addr} {n cap : Nat} {l : List Nat} (h : Fr.Seen B w (.slice a n cap) l) (hl : 0 < l.length) : ∃ b, a = some ⟨b, 0, none⟩ ∧ B ≤ b ∧ b < w.heap.size ∧ ∀ (i x : Nat), l[i]? = some x → w.cell? ⟨b, i, none⟩ = some (.int .i64 (x : Int)) := by
  obtain ⟨a', cap', e, _, hr⟩ := h
  injection e with e1 _ e2
  subst e1
  obtain ⟨b, rfl, hB, hlt, hc⟩ := hr hl
  exact ⟨b, rfl, hB, hlt, hc⟩
/-- Does a number stand among the first of a row? -/
def hvN (a : Nat) (l : List Nat) (i : Nat) : Bool := (l.take i).any (· == a)
theorem hvN_zero (a : Nat) (l : List Nat) : hvN a l 0 = false := by simp [hvN]
theorem hvN_next {a j i : Nat} {l : List Nat} (h : l[i]? = some j) : hvN a l (i + 1) = (hvN a l i || (j == a)) := by
  unfold hvN
  rw [List.take_add_one, h, List.any_append]
  simp
theorem hvN_all (a : Nat) (l : List Nat) : hvN a l l.length = l.any (· == a) := by unfold hvN; rw [List.take_length]
/-- The bytes, the frames of k that don't stand in l having been filled. -/
def tkn (z : Nat → Int) (l k : List Nat) : Nat → Int := k.foldl (fun z t => if l.any (· == t) = true then z else fil z t) z
theorem tkn_next {z : Nat → Int} {l k : List Nat} {i t : Nat} (h : k[i]? = some t) : tkn z l (k.take (i + 1)) = if l.any (· == t) = true then tkn z l (k.take i) else fil (tkn z l (k.take i)) t := by
  unfold tkn
  rw [List.take_add_one, h, List.foldl_append]
  rfl
set_option maxRecDepth 100000 in
set_option maxHeartbeats 1600000 in
theorem taken_any (m F n c : Nat) (z : Nat → Int) (l k : List Nat) (u v : Value) (w : World) (hM : Mem w m F n c z) (hu : Fr.Seen (F + 1) w u l) (hv : Fr.Seen (F + 1) w v k) (hk : ∀ t ∈ k, t < n) (hl : l.length ≤ 1024) (hkl : k.length ≤ 1024) :
    Calls Tryz.prog 17 #[.pointer (some ⟨m, 0, none⟩), u, v] w fun e w' => e = .returned (.tuple #[]) ∧ Mem w' m F n c (tkn z l k) ∧ Only [F] w w' := by
  obtain ⟨ua, uc, rfl⟩ := hu.form
  obtain ⟨va, vc, rfl⟩ := hv.form
  have HU := Lib.hid hu
  have HV := Lib.hid hv
  have HM := Lib.hid hM
  have HK := Lib.hid hk
  clear hu hv hM hk
  go_enter Tryz.func17, Tryz.ntmps17
  go_wp2_with fail
  go_loopw [6] (fun q wr => ∃ i : Nat, q = .int .i64 i ∧ i ≤ k.length ∧ Mem wr m F n c (tkn z l (k.take i)) ∧ Only [F] w wr) (fun q _ => k.length - (intOf q).toNat)
  case atStart => exact ⟨0, rfl, Nat.zero_le _, HM.out, Only.refl _ _⟩
  case round =>
    obtain ⟨i, rfl, hi, hMi, hOi⟩ := hrel
    have MI := Lib.hid hMi
    have OI := Lib.hid hOi
    have SU := Lib.hid (HU.out.kept hOi (by simp))
    have SV := Lib.hid (HV.out.kept hOi (by simp))
    clear hMi hOi
    by_cases hin : i < k.length
    · obtain ⟨t, ht⟩ : ∃ t, k[i]? = some t := ⟨_, List.getElem?_eq_getElem hin⟩
      have htn := HK.out t (List.mem_of_getElem? ht)
      have HT := Lib.hid ht
      have TK := Lib.hid (tkn_next (z := z) (l := l) ht)
      have hik : (i : Int) < (k.length : Int) := by omega
      clear ht SV SU
      go_wp2_with fail
      go_loopw [7, 8] (fun f q wx => ∃ j : Nat, q = .int .i64 j ∧ j ≤ l.length ∧ f = .bool (hvN t l j) ∧ Mem wx m F n c (tkn z l (k.take i)) ∧ Only [F] w wx) (fun _ q _ => l.length - (intOf q).toNat)
      case atStart => exact ⟨0, rfl, Nat.zero_le _, by rw [hvN_zero], MI.out, OI.out⟩
      case round =>
        clear MI OI
        obtain ⟨j, rfl, hj, rfl, hMj, hOj⟩ := hrel
        have MJ := Lib.hid hMj
        have OJ := Lib.hid hOj
        have SU := HU.out.kept hOj (by simp)
        have SV := HV.out.kept hOj (by simp)
        clear hMj hOj
        obtain ⟨bv, hbv, _, hbv1, hcv⟩ := all_of SV (by omega)
        subst hbv
        have ct := hcv i t HT.out
        clear hcv SV
        by_cases hjn : j < l.length
        · obtain ⟨x, hx⟩ : ∃ x, l[j]? = some x := ⟨_, List.getElem?_eq_getElem hjn⟩
          obtain ⟨bu, hbu, _, hbu1, hcu⟩ := all_of SU (by omega)
          subst hbu
          have hcx := hcu j x hx
          have HN := Lib.hid (hvN_next (a := t) hx)
          have hjl : (j : Int) < (l.length : Int) := by omega
          clear hx hcu SU
          cases hh : hvN t l j with
          | true =>
            go_wp2_with fail
            go_region
            go_wp2_with fail
            go_roundw
            case rel => exact ⟨j + 1, rfl, by omega, by rw [HN.out, hh]; rfl, MJ.out.kept (Only.drewN [] _ 1) (by simp) (by simp), OJ.out.trans ((Only.drewN [] _ 1).mono (by simp))⟩
            case measure => simp only [intOf, Int.toNat_natCast]; omega
          | false =>
            have ex : (x == t) = ((x : Int) == (t : Int)) := by rw [Bool.eq_iff_iff]; simp; omega
            go_wp2_with fail
            go_region
            go_wp2_with fail
            go_roundw
            case rel => exact ⟨j + 1, rfl, by omega, by rw [HN.out, hh, ex]; rfl, MJ.out.kept (Only.drewN [] _ 1) (by simp) (by simp), OJ.out.trans ((Only.drewN [] _ 1).mono (by simp))⟩
            case measure => simp only [intOf, Int.toNat_natCast]; omega
        · obtain rfl : j = l.length := by omega
          rw [hvN_all]
          have TQ := TK.out
          clear SU
          cases hh : l.any (· == t) with
          | true =>
            rw [hh, if_pos rfl] at TQ
            have TQ' := Lib.hid TQ
            clear TQ
            go_wp2_with fail
            go_roundw
            case rel => exact ⟨i + 1, by simp, by omega, by rw [TQ'.out]; exact MJ.out, OJ.out⟩
            case measure => simp only [intOf, Int.toNat_natCast]; omega
          | false =>
            rw [hh, if_neg (by simp)] at TQ
            have TQ' := Lib.hid TQ
            have CF := Lib.hid (fill_yes m F n c t (tkn z l (k.take i)) (fun _ => 0) none 0 0 _ MJ.out htn (by omega) (rd_nil _ _))
            clear TQ
            go_wp2_with fail
            refine CF.out.mono ?_
            rintro e w5 ⟨rfl, hM5, hO5⟩
            have M5 := Lib.hid hM5
            have O5 := Lib.hid (OJ.out.trans hO5)
            clear hM5 hO5 CF
            go_wp2_with fail
            go_roundw
            case rel => exact ⟨i + 1, by simp, by omega, by rw [TQ'.out]; exact M5.out, O5.out⟩
            case measure => simp only [intOf, Int.toNat_natCast]; omega
    · obtain rfl : i = k.length := by omega
      have MI' := Lib.hid (by have := MI.out; rwa [List.take_length] at this)
      go_wp2_with fail
      go_end0
      exact ⟨rfl, MI'.out, OI.out⟩
theorem fil_fil (z : Nat → Int) (t : Nat) : fil (fil z t) t = fil z t := by
  funext j
  by_cases h : j / 256 = t
  · rw [fil_in _ h, fil_in _ h]
  · rw [fil_off _ h]
theorem tkn_all {l : List Nat} : ∀ {k : List Nat} {z : Nat → Int}, (∀ t ∈ k, l.any (· == t) = true) → tkn z l k = z
  | [], _, _ => rfl
  | t :: k, z, h => by
    show tkn (if l.any (· == t) = true then z else fil z t) l k = z
    rw [if_pos (h t (by simp))]
    exact tkn_all fun s hs => h s (by simp [hs])
theorem tkn_one {l : List Nat} {t0 : Nat} (h0 : l.any (· == t0) = false) : ∀ {k : List Nat} {z : Nat → Int}, (∀ t ∈ k, l.any (· == t) = true ∨ t = t0) → tkn z l k = if t0 ∈ k then fil z t0 else z
  | [], _, _ => rfl
  | t :: k, z, h => by
    show tkn (if l.any (· == t) = true then z else fil z t) l k = _
    rcases h t (by simp) with e | rfl
    · rw [if_pos e, tkn_one h0 fun s hs => h s (by simp [hs])]
      have hne : t0 ≠ t := fun he => by rw [← he, h0] at e; cases e
      by_cases hk : t0 ∈ k
      · rw [if_pos hk, if_pos (by simp [hk])]
      · rw [if_neg hk, if_neg (by simp [hk, hne])]
    · rw [if_neg (by rw [h0]; simp), tkn_one h0 fun s hs => h s (by simp [hs]), if_pos (by simp : t ∈ t :: k)]
      split
      · exact fil_fil z t
      · rfl
theorem any_mem {l : List Nat} {t : Nat} : l.any (· == t) = true ↔ t ∈ l := by simp
/-- The frames that a call took. -/
theorem tkn_did {n vm : Nat} {x x' : Pl} {A A' : Nat → Fst} {tk gv : Option Nat} (h : Did n vm x x' A A' tk gv) (hR : Rep n x A) (z : Nat → Int) : tkn z (Fr.which 1 x.os) (Fr.which 1 x'.os) = filO z tk := by
  have hg : ∀ g, gv = some g → x.os[g]? = some 1 := fun g e => by
    obtain ⟨i, pg, hi, hA⟩ := h.mine g e
    exact (hR.tabAt hi hA).2.1
  have key : ∀ t, t ∈ Fr.which 1 x'.os → t ∈ Fr.which 1 x.os ∨ tk = some t := by
    intro t ht
    obtain ⟨y, h1, h2⟩ := Fr.mem_which.1 ht
    rw [h.os] at h1
    have e1 : (setO x.os tk 1)[t]? = some y := by
      cases gv with
      | none => exact h1
      | some g =>
        change ((setO x.os tk 1).set g 0)[t]? = some y at h1
        by_cases hgt : g = t
        · subst hgt
          by_cases hlt : g < (setO x.os tk 1).length
          · rw [List.getElem?_set_self hlt] at h1
            injection h1 with h1
            omega
          · rw [List.getElem?_eq_none (by rw [List.length_set]; omega)] at h1
            cases h1
        · rwa [List.getElem?_set_ne hgt] at h1
    cases tk with
    | none => exact Or.inl (Fr.mem_which.2 ⟨y, e1, h2⟩)
    | some q =>
      by_cases hq : q = t
      · exact Or.inr (by rw [hq])
      · simp only [setO] at e1
        rw [List.getElem?_set_ne hq] at e1
        exact Or.inl (Fr.mem_which.2 ⟨y, e1, h2⟩)
  cases tk with
  | none =>
    rw [tkn_all fun t ht => any_mem.2 ((key t ht).resolve_right (by simp))]
    rfl
  | some q =>
    have hq := h.free q rfl
    have h0 : (Fr.which 1 x.os).any (· == q) = false := by
      rw [Bool.eq_false_iff]
      intro e
      obtain ⟨y, h1, h2⟩ := Fr.mem_which.1 (any_mem.1 e)
      rw [hq] at h1
      injection h1 with h1
      omega
    rw [tkn_one h0 fun t ht => (key t ht).elim (fun e => Or.inl (any_mem.2 e)) fun e => Or.inr (by injection e with e; exact e.symm), if_pos]
    · rfl
    · refine Fr.mem_which.2 ⟨1, ?_, rfl⟩
      rw [h.os]
      have hl := (List.getElem?_eq_some_iff.1 hq).1
      have e1 : (setO x.os (some q) 1)[q]? = some 1 := by simp only [setO]; exact List.getElem?_set_self hl
      cases gv with
      | none => exact e1
      | some g =>
        have hgq : g ≠ q := fun e => by have := hg g rfl; rw [e, hq] at this; cases this
        simp only [setO]
        rw [List.getElem?_set_ne hgq]
        exact e1
end St
end Go.Proofs.YtiiggmfindfkfaaGreat
