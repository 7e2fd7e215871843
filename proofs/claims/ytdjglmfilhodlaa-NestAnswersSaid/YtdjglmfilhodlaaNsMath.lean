/-
  Plain facts of translations by two stages; no condition but those that each states.
-/
import Derived.Test.YtdjglmfilhodlaaNsTrans
namespace Go.Proofs.Ytdjglmfilhodlaa
open Go.RowKit Nt
namespace Ns
open Ph En Wk
theorem alw_valid {V W X : Bool} {a : Int} (h : alw V W X a = true) : V = true := by unfold alw at h; simp at h; exact h.1
/-- What may be reached may be read, by the same walk. -/
theorem walk_read {n : Nat} {z : Nat → Int} {root a acc : Int} (h : (walkS n z root a acc).f = 0) : walkS n z root a 0 = walkS n z root a acc ∧ alw true (walkS n z root a acc).W (walkS n z root a acc).X acc = true := by
  unfold walkS at h ⊢
  obtain ⟨⟨⟨V, W, X, B, F⟩, r, f⟩, ht⟩ : ∃ t, tellS n z root a = t := ⟨_, rfl⟩
  rw [ht] at h ⊢
  by_cases hf : f = 0
  · subst hf
    by_cases hc : checkS n ⟨V, W, X, B, F⟩ acc = 0
    · rw [hit_ok hc]
      have h1 : alw V W X acc = true ∧ inM n F = true := by
        unfold checkS at hc
        cases ha : alw V W X acc
        · rw [if_pos ha] at hc; simp at hc
        · rw [if_neg (by simp [ha])] at hc
          cases hk : inM n F
          · rw [if_pos hk] at hc; simp at hc
          · exact ⟨rfl, rfl⟩
      have hV := alw_valid h1.1
      subst hV
      rw [hit_ok (check_ok (by rw [alw0]) h1.2)]
      exact ⟨rfl, h1.1⟩
    · rw [hit_check hc] at h
      exact absurd h hc
  · rw [hit_fault hf] at h
    exact absurd h hf
theorem slotS_bad {n : Nat} {z : Nat → Int} {tb va p i rd r : Int} {f : Flt} (h : slotS n z tb va p i rd = .bad r f) : rd ≤ r ∧ r ≤ rd + 2 ∧ f.kd ≠ 0 ∧ (f.st = 1 ∨ f.st = 2) := by
  unfold slotS ipaS at h
  split at h
  · simp only [Out.bind] at h
    split at h
    · cases h
    · rename_i hp
      obtain ⟨h1, h2, h3, h4⟩ := placeS_bad hp
      injection h with h5 h6
      subst h5 h6 h3
      exact ⟨h1, h2, h4, .inr rfl⟩
  · simp only [Out.bind] at h
    injection h with h5 h6
    subst h5 h6
    exact ⟨by omega, by omega, by simp, .inl rfl⟩
theorem tellsS_bad {n : Nat} {z : Nat → Int} {tb va root rd r : Int} {f : Flt} (h : tellsS n z tb va root rd = .bad r f) : rd ≤ r ∧ r ≤ rd + 4 ∧ f.kd ≠ 0 ∧ (f.st = 1 ∨ f.st = 2) := by
  unfold tellsS at h
  cases h1 : slotS n z tb va (root / 256) (va / 16384 % 64) rd with
  | bad r1 f1 =>
    rw [h1] at h
    simp only [Out.bind] at h
    injection h with h2 h3
    subst h2 h3
    have := slotS_bad h1
    exact ⟨by omega, by omega, this.2.2.1, this.2.2.2⟩
  | ok r1 e1 =>
    have b1 := slotS_ok h1
    rw [h1] at h
    simp only [Out.bind] at h
    split at h
    · injection h with h2 h3
      subst h2 h3
      exact ⟨by omega, by omega, by simp, .inl rfl⟩
    · split at h
      · cases h
      · cases h2 : slotS n z tb va e1.F (va / 256 % 64) r1 with
        | bad r2 f2 =>
          rw [h2] at h
          simp only at h
          injection h with h3 h4
          subst h3 h4
          have := slotS_bad h2
          exact ⟨by omega, by omega, this.2.2.1, this.2.2.2⟩
        | ok r2 e2 =>
          have b2 := slotS_ok h2
          rw [h2] at h
          simp only at h
          split at h
          · injection h with h3 h4
            subst h3 h4
            exact ⟨by omega, by omega, by simp, .inl rfl⟩
          · cases h
theorem ownS_bad {n : Nat} {z : Nat → Int} {tb va root acc rd r : Int} {f : Flt} (h : ownS n z tb va root acc rd = .bad r f) : rd ≤ r ∧ r ≤ rd + 4 ∧ f.kd ≠ 0 ∧ (f.st = 1 ∨ f.st = 2) := by
  unfold ownS at h
  split at h
  · injection h with h2 h3
    subst h2 h3
    exact ⟨by omega, by omega, by simp, .inl rfl⟩
  · split at h
    · cases h
    · cases h1 : tellsS n z tb va root rd with
      | bad r1 f1 =>
        rw [h1] at h
        simp only [Out.bind] at h
        injection h with h2 h3
        subst h2 h3
        exact tellsS_bad h1
      | ok r1 e1 =>
        have b1 := tellsS_ok h1
        rw [h1] at h
        simp only [Out.bind] at h
        split at h
        · injection h with h2 h3
          subst h2 h3
          exact ⟨by omega, by omega, by simp, .inl rfl⟩
        · cases h
/-- What the guest's own stage tells allows the access, or there is no such stage. -/
theorem ownS_alw {n : Nat} {z : Nat → Int} {tb va root acc rd r : Int} {e : Ent} (h : ownS n z tb va root acc rd = .ok r e) : (acc = 1 → e.W = true) ∧ (acc = 2 → e.X = true) := by
  unfold ownS at h
  split at h
  · cases h
  · split at h
    · injection h with h1 h2
      subst h1 h2
      exact ⟨fun _ => rfl, fun _ => rfl⟩
    · cases h1 : tellsS n z tb va root rd with
      | bad r1 f1 => rw [h1] at h; simp only [Out.bind] at h; cases h
      | ok r1 e1 =>
        rw [h1] at h
        simp only [Out.bind] at h
        split at h
        · cases h
        · rename_i ha
          injection h with h2 h3
          subst h2 h3
          have ha' : alw e1.V e1.W e1.X acc = true := by simpa using ha
          refine ⟨fun k => ?_, fun k => ?_⟩
          · subst k
            rw [alw1] at ha'
            simp at ha'
            exact ha'.2
          · subst k
            rw [alw2] at ha'
            simp at ha'
            exact ha'.2
theorem runS_ok {n : Nat} {z : Nat → Int} {tb va root acc rd r : Int} {x : Fine} (h : runS n z tb va root acc rd = .ok r x) :
    ∃ r1 e s, ownS n z tb va root acc rd = .ok r1 e ∧ 0 ≤ e.F ∧ e.F < 4096 ∧ placeS n z tb (e.F * 256 + va % 256) acc false r1 = .ok r s ∧ x = ⟨e.F, s.A, e.V && (e.W && s.h.W), e.V && (e.X && s.h.X)⟩ := by
  unfold runS at h
  cases h1 : ownS n z tb va root acc rd with
  | bad r1 f1 => rw [h1] at h; simp only [Out.bind] at h; cases h
  | ok r1 e1 =>
    rw [h1] at h
    simp only [Out.bind] at h
    unfold ipaS at h
    by_cases hp : 0 ≤ e1.F ∧ e1.F < 4096
    · rw [if_pos hp] at h
      simp only at h
      cases h2 : placeS n z tb (e1.F * 256 + va % 256) acc false r1 with
      | bad r2 f2 => rw [h2] at h; simp only at h; cases h
      | ok r2 s2 =>
        rw [h2] at h
        simp only at h
        injection h with h3 h4
        subst h3 h4
        exact ⟨r1, e1, s2, rfl, hp.1, hp.2, h2, rfl⟩
    · rw [if_neg hp] at h
      simp only at h
      cases h
theorem runS_bad {n : Nat} {z : Nat → Int} {tb va root acc rd r : Int} {f : Flt} (h : runS n z tb va root acc rd = .bad r f) : rd ≤ r ∧ r ≤ rd + 6 ∧ f.kd ≠ 0 ∧ (f.st = 1 ∨ f.st = 2) := by
  unfold runS at h
  cases h1 : ownS n z tb va root acc rd with
  | bad r1 f1 =>
    rw [h1] at h
    simp only [Out.bind] at h
    injection h with h2 h3
    subst h2 h3
    have := ownS_bad h1
    exact ⟨by omega, by omega, this.2.2.1, this.2.2.2⟩
  | ok r1 e1 =>
    have b1 := ownS_ok h1
    rw [h1] at h
    simp only [Out.bind] at h
    unfold ipaS at h
    by_cases hp : 0 ≤ e1.F ∧ e1.F < 4096
    · rw [if_pos hp] at h
      simp only at h
      cases h2 : placeS n z tb (e1.F * 256 + va % 256) acc false r1 with
      | bad r2 f2 =>
        rw [h2] at h
        simp only at h
        injection h with h3 h4
        subst h3 h4
        obtain ⟨h5, h6, h7, h8⟩ := placeS_bad h2
        subst h7
        exact ⟨by omega, by omega, h8, .inr rfl⟩
      | ok r2 s2 => rw [h2] at h; simp only at h; cases h
    · rw [if_neg hp] at h
      simp only at h
      injection h with h3 h4
      subst h3 h4
      exact ⟨by omega, by omega, by simp, .inl rfl⟩
/-- A translation without a fault comes to what the monitor's table tells for its page; one with a fault tells nothing else. -/
theorem reach (n : Nat) (z : Nat → Int) (root tb va acc : Int) :
    (∃ f r, transS n z root tb va acc = ⟨f, r, 0, 0, false, false⟩ ∧ f.kd ≠ 0 ∧ (f.st = 1 ∨ f.st = 2) ∧ 0 ≤ r ∧ r ≤ 6) ∨
    (∃ (r P F : Int) (W X W' X' B' : Bool), transS n z root tb va acc = ⟨⟨0, 0, 0, false⟩, r, P, 256 * F + va % 256, W, X⟩ ∧ 0 ≤ r ∧ 1 ≤ r ∧ r ≤ 6 ∧ 0 ≤ P ∧ P < 4096 ∧ 0 ≤ F ∧ F < n ∧ lookS n z tb P = ⟨⟨true, W', X', B', F⟩, true⟩ ∧ alw true W' X' acc = true ∧ (W = true → W' = true) ∧ (X = true → X' = true) ∧ (acc = 1 → W = true) ∧ (acc = 2 → X = true)) := by
  unfold transS
  cases hR : runS n z tb va root acc 0 with
  | bad r f =>
    have := runS_bad hR
    exact .inl ⟨f, r, rfl, this.2.2.1, this.2.2.2, this.1, by omega⟩
  | ok r x =>
    obtain ⟨r1, e, s, h1, h2, h3, h4, h5⟩ := runS_ok hR
    obtain ⟨o1, o2, oV, -, -⟩ := ownS_ok h1
    obtain ⟨oW, oX⟩ := ownS_alw h1
    obtain ⟨p1, p2, pH, pf, pA, pF0, pF1⟩ := placeS_ok h4
    obtain ⟨A, f', r', F', W', X', B'⟩ := s
    simp only at pH pf pA pF0 pF1
    subst pf pA h5
    have hw : (walkS n z tb (e.F * 256 + va % 256) acc).f = 0 := by rw [← pH]
    obtain ⟨w1, w2⟩ := walk_read hw
    have hpg := walkS_page (n := n) (z := z) (root := tb) (p := e.F) (o := va % 256) (acc := 0) (by omega) (by omega)
    rw [← pH] at w1 w2
    rw [hpg] at w1
    simp only at w2
    have hr : 1 ≤ r := by
      unfold placeS at h4
      rw [if_pos hw, ← pH] at h4
      injection h4 with h6 h7
      simp only at h6
      have : 1 ≤ r' := by
        have hh := pH
        unfold walkS at hh
        obtain ⟨⟨⟨V, W0, X0, B, F0⟩, r0, f0⟩, ht⟩ : ∃ t, tellS n z tb (e.F * 256 + va % 256) = t := ⟨_, rfl⟩
        rw [ht] at hh
        have hr0 : r0 = r' ∧ f0 = 0 := by
          unfold hitOf at hh
          split at hh
          · rename_i hf0
            injection hh with q1 q2
            exact absurd q1.symm hf0
          · rename_i hf0
            split at hh
            · rename_i hc
              injection hh with q1 q2
              exact absurd q1.symm hc
            · injection hh with q1 q2
              exact ⟨q2.symm, by simpa using hf0⟩
        obtain ⟨rfl, rfl⟩ := hr0
        unfold tellS at ht
        repeat' split at ht
        all_goals (injection ht with q1 q2 q3; omega)
      omega
    right
    refine ⟨r, e.F, F', e.V && (e.W && W'), e.V && (e.X && X'), W', X', B', by simp only [toldOf]; rw [show (e.F * 256 + va % 256) % 256 = va % 256 by omega], by omega, hr, by omega, h2, h3, pF0, pF1, ?_, w2, ?_, ?_, ?_, ?_⟩
    · unfold lookS
      rw [if_pos ⟨h2, h3⟩, w1]
      unfold seenOf
      rw [if_pos rfl]
    · intro h; simp at h; exact h.2.2
    · intro h; simp at h; exact h.2.2
    · intro k
      have := oW k
      subst k
      rw [alw1] at w2
      simp at w2
      simp [oV, this, w2]
    · intro k
      have := oX k
      subst k
      rw [alw2] at w2
      simp at w2
      simp [oV, this, w2]
/-! ### Rights -/
def preS (n : Nat) (z : Nat → Int) (tb va root rd : Int) : Out Ent :=
  if 1048576 ≤ va then .bad rd ⟨1, 1, va, false⟩ else if root = 0 then .ok rd ⟨true, true, true, false, va / 256 % 4096⟩ else tellsS n z tb va root rd
theorem ownS_pre {n : Nat} {z : Nat → Int} {tb va root acc rd : Int} (h : alw true true true acc = true) :
    ownS n z tb va root acc rd = (preS n z tb va root rd).bind fun r e => if alw e.V e.W e.X acc = false then .bad r ⟨1, 4, va, false⟩ else .ok r e := by
  unfold ownS preS
  by_cases h1 : 1048576 ≤ va
  · rw [if_pos h1, if_pos h1]; rfl
  · rw [if_neg h1, if_neg h1]
    by_cases h2 : root = 0
    · rw [if_pos h2, if_pos h2]
      simp only [Out.bind]
      rw [if_neg (by simp [h])]
    · rw [if_neg h2, if_neg h2]
theorem preS_bad {n : Nat} {z : Nat → Int} {tb va root rd r : Int} {f : Flt} (h : preS n z tb va root rd = .bad r f) : f.kd ≠ 0 := by
  unfold preS at h
  split at h
  · injection h with h1 h2; subst h2; simp
  · split at h
    · cases h
    · exact (tellsS_bad h).2.2.1
theorem preS_ok {n : Nat} {z : Nat → Int} {tb va root rd r : Int} {e : Ent} (h : preS n z tb va root rd = .ok r e) : e.V = true := by
  unfold preS at h
  split at h
  · cases h
  · split at h
    · injection h with h1 h2; subst h2; rfl
    · exact (tellsS_ok h).2.2.1
theorem place_f {n : Nat} {z : Nat → Int} {tb a acc : Int} {t : Bool} {rd : Int} {h : Hit} (hw : walkS n z tb a acc = h) (hf : h.f ≠ 0) : placeS n z tb a acc t rd = .bad (rd + h.r) ⟨2, h.f, a, t⟩ := by
  unfold placeS
  rw [hw, if_neg hf]
theorem place_0 {n : Nat} {z : Nat → Int} {tb a acc : Int} {t : Bool} {rd : Int} {h : Hit} (hw : walkS n z tb a acc = h) (hf : h.f = 0) : placeS n z tb a acc t rd = .ok (rd + h.r) ⟨256 * h.F + a % 256, h⟩ := by
  unfold placeS
  rw [hw, if_pos hf]
/-- With a fault nothing else is told. -/
def Bad (t : Tld) : Prop := ∃ f r, t = ⟨f, r, 0, 0, false, false⟩ ∧ f.kd ≠ 0
theorem rights (n : Nat) (z : Nat → Int) (root tb va : Int) :
    (Bad (transS n z root tb va 0) ∧ Bad (transS n z root tb va 1) ∧ Bad (transS n z root tb va 2)) ∨
    (∃ (r P A : Int) (W X : Bool) (g h : Flt) (s t : Int), transS n z root tb va 0 = ⟨⟨0, 0, 0, false⟩, r, P, A, W, X⟩ ∧ g.kd = 4 ∧ h.kd = 4 ∧
      transS n z root tb va 1 = (if W = true then ⟨⟨0, 0, 0, false⟩, r, P, A, W, X⟩ else ⟨g, s, 0, 0, false, false⟩) ∧
      transS n z root tb va 2 = (if X = true then ⟨⟨0, 0, 0, false⟩, r, P, A, W, X⟩ else ⟨h, t, 0, 0, false, false⟩)) := by
  unfold transS runS
  rw [ownS_pre (acc := 0) rfl, ownS_pre (acc := 1) rfl, ownS_pre (acc := 2) rfl]
  cases hp : preS n z tb va root 0 with
  | bad r f =>
    have := preS_bad hp
    exact .inl ⟨⟨f, r, rfl, this⟩, ⟨f, r, rfl, this⟩, ⟨f, r, rfl, this⟩⟩
  | ok r e =>
    have hV := preS_ok hp
    obtain ⟨V, W, X, B, F⟩ := e
    simp only at hV
    subst hV
    simp only [Out.bind]
    rw [alw0, alw1, alw2, if_neg (by simp)]
    simp only [Bool.true_and]
    unfold ipaS
    by_cases hF : 0 ≤ F ∧ F < 4096
    · simp only [if_pos hF]
      obtain ⟨t, htl⟩ : ∃ t, tellS n z tb (F * 256 + va % 256) = t := ⟨_, rfl⟩
      have hw : ∀ acc, walkS n z tb (F * 256 + va % 256) acc = hitOf n t acc := fun acc => by unfold walkS; rw [htl]
      by_cases h0 : (hitOf n t 0).f = 0
      · rcases hits n t with ⟨k, kb, kc, rr, hk, k0, k1, k2, k3⟩ | ⟨rr, FF, W', X', B', hF2, k0, k1, k2⟩
        · rw [k0] at h0
          exact absurd h0 hk
        · right
          have p0 := place_0 (t := false) (rd := r) ((hw 0).trans k0) rfl
          have cW : W' = true → hitOf n t 1 = ⟨0, rr, FF, W', X', B'⟩ := fun h => by rw [k1, if_pos h]
          have cX : X' = true → hitOf n t 2 = ⟨0, rr, FF, W', X', B'⟩ := fun h => by rw [k2, if_pos h]
          have dW : W' = false → hitOf n t 1 = ht 4 rr := fun h => by rw [k1, if_neg (by simp [h])]
          have dX : X' = false → hitOf n t 2 = ht 4 rr := fun h => by rw [k2, if_neg (by simp [h])]
          have pW : W' = true → placeS n z tb (F * 256 + va % 256) 1 false r = placeS n z tb (F * 256 + va % 256) 0 false r := fun h => by
            rw [p0]; exact place_0 ((hw 1).trans (cW h)) rfl
          have pX : X' = true → placeS n z tb (F * 256 + va % 256) 2 false r = placeS n z tb (F * 256 + va % 256) 0 false r := fun h => by
            rw [p0]; exact place_0 ((hw 2).trans (cX h)) rfl
          have qW : W' = false → placeS n z tb (F * 256 + va % 256) 1 false r = .bad (r + rr) ⟨2, 4, F * 256 + va % 256, false⟩ := fun h => place_f ((hw 1).trans (dW h)) (by unfold Wk.ht; simp)
          have qX : X' = false → placeS n z tb (F * 256 + va % 256) 2 false r = .bad (r + rr) ⟨2, 4, F * 256 + va % 256, false⟩ := fun h => place_f ((hw 2).trans (dX h)) (by unfold Wk.ht; simp)
          refine ⟨r + rr, F, 256 * FF + (F * 256 + va % 256) % 256, W && W', X && X', if W = true then ⟨2, 4, F * 256 + va % 256, false⟩ else ⟨1, 4, va, false⟩, if X = true then ⟨2, 4, F * 256 + va % 256, false⟩ else ⟨1, 4, va, false⟩, if W = true then r + rr else r, if X = true then r + rr else r, ?_, ?_, ?_, ?_, ?_⟩
          · rw [p0]; rfl
          · cases W <;> rfl
          · cases X <;> rfl
          · cases W
            · rfl
            · cases W'
              · rw [if_neg (by simp)]; simp only [if_pos hF]; rw [qW rfl]; rfl
              · rw [if_neg (by simp)]; simp only [if_pos hF]; rw [pW rfl, p0]; rfl
          · cases X
            · rfl
            · cases X'
              · rw [if_neg (by simp)]; simp only [if_pos hF]; rw [qX rfl]; rfl
              · rw [if_neg (by simp)]; simp only [if_pos hF]; rw [pX rfl, p0]; rfl
      · left
        have nz : ∀ acc, (hitOf n t acc).f ≠ 0 := fun acc h => by
          have := walk_read (n := n) (z := z) (root := tb) (a := F * 256 + va % 256) (acc := acc) (by rw [hw]; exact h)
          rw [hw, hw] at this
          exact h0 (by rw [this.1]; exact h)
        have pb : ∀ acc, placeS n z tb (F * 256 + va % 256) acc false r = .bad (r + (hitOf n t acc).r) ⟨2, (hitOf n t acc).f, F * 256 + va % 256, false⟩ := fun acc => place_f (hw acc) (nz acc)
        refine ⟨?_, ?_, ?_⟩
        · rw [pb 0]
          exact ⟨_, _, rfl, nz 0⟩
        · cases W
          · exact ⟨_, _, rfl, by simp⟩
          · rw [if_neg (by simp)]
            simp only [if_pos hF]
            rw [pb 1]
            exact ⟨_, _, rfl, nz 1⟩
        · cases X
          · exact ⟨_, _, rfl, by simp⟩
          · rw [if_neg (by simp)]
            simp only [if_pos hF]
            rw [pb 2]
            exact ⟨_, _, rfl, nz 2⟩
    · simp only [if_neg hF]
      left
      refine ⟨⟨_, _, rfl, by simp⟩, ?_, ?_⟩
      · cases W
        · exact ⟨_, _, rfl, by simp⟩
        · rw [if_neg (by simp)]
          simp only [if_neg hF]
          exact ⟨_, _, rfl, by simp⟩
      · cases X
        · exact ⟨_, _, rfl, by simp⟩
        · rw [if_neg (by simp)]
          simp only [if_neg hF]
          exact ⟨_, _, rfl, by simp⟩
/-! ### Without a root; addresses of one page -/
theorem off {n : Nat} {z : Nat → Int} {tb va acc : Int} {h : Hit} (h0 : 0 ≤ va) (h1 : va < 1048576) (hw : walkS n z tb va acc = h) :
    transS n z 0 tb va acc = if h.f = 0 then ⟨⟨0, 0, 0, false⟩, h.r, va / 256, 256 * h.F + va % 256, h.W, h.X⟩ else ⟨⟨2, h.f, va, false⟩, h.r, 0, 0, false, false⟩ := by
  have e1 : ownS n z tb va 0 acc 0 = .ok 0 ⟨true, true, true, false, va / 256 % 4096⟩ := by unfold ownS; rw [if_neg (by omega), if_pos rfl]
  have e2 : va / 256 % 4096 * 256 + va % 256 = va := by omega
  unfold transS runS
  rw [e1]
  simp only [Out.bind]
  unfold ipaS
  rw [if_pos (by constructor <;> omega)]
  simp only
  rw [e2]
  by_cases hf : h.f = 0
  · rw [place_0 hw hf, if_pos hf]
    simp only [toldOf, Bool.true_and]
    rw [show va / 256 % 4096 = va / 256 by omega, show (0 : Int) + h.r = h.r by omega]
  · rw [place_f hw hf, if_neg hf]
    simp only [toldOf]
    rw [show (0 : Int) + h.r = h.r by omega]
/-- A fault of the guest's own stage, told of another address. -/
def reF (va : Int) (f : Flt) : Flt := if f.st = 1 then ⟨1, f.kd, va, f.tb⟩ else f
def Out.re {α : Type} (va : Int) : Out α → Out α
  | .ok r x => .ok r x
  | .bad r f => .bad r (reF va f)
theorem slotS_re (n : Nat) (z : Nat → Int) (tb va va' p i rd : Int) : slotS n z tb va p i rd = (slotS n z tb va' p i rd).re va := by
  unfold slotS ipaS
  by_cases hp : 0 ≤ p ∧ p < 4096
  · rw [if_pos hp, if_pos hp]
    simp only [Out.bind]
    cases h : placeS n z tb (p * 256 + 4 * i) 0 true rd with
    | ok r s => rfl
    | bad r f =>
      obtain ⟨-, -, h3, -⟩ := placeS_bad h
      subst h3
      rfl
  · rw [if_neg hp, if_neg hp]
    rfl
theorem tellsS_re (n : Nat) (z : Nat → Int) (tb va va' root rd : Int) (hp : va / 256 = va' / 256) : tellsS n z tb va root rd = (tellsS n z tb va' root rd).re va := by
  have e1 : va / 16384 % 64 = va' / 16384 % 64 := by omega
  unfold tellsS
  rw [slotS_re n z tb va va' (root / 256) (va / 16384 % 64) rd, e1, hp]
  cases h : slotS n z tb va' (root / 256) (va' / 16384 % 64) rd with
  | bad r f => rfl
  | ok r e =>
    simp only [Out.re, Out.bind]
    by_cases h1 : e.V = false
    · rw [if_pos h1, if_pos h1]; rfl
    · rw [if_neg h1, if_neg h1]
      by_cases h2 : e.B = true
      · rw [if_pos h2, if_pos h2]
      · rw [if_neg h2, if_neg h2, slotS_re n z tb va va' e.F (va' / 256 % 64) r]
        cases h3 : slotS n z tb va' e.F (va' / 256 % 64) r with
        | bad r f => rfl
        | ok r e =>
          simp only [Out.re]
          by_cases h4 : e.V = false
          · rw [if_pos h4, if_pos h4]; rfl
          · rw [if_neg h4, if_neg h4]
theorem ownS_re (n : Nat) (z : Nat → Int) (tb va va' root acc rd : Int) (hp : va / 256 = va' / 256) (h1 : va < 1048576) : ownS n z tb va root acc rd = (ownS n z tb va' root acc rd).re va := by
  unfold ownS
  rw [if_neg (show ¬ 1048576 ≤ va by omega), if_neg (show ¬ 1048576 ≤ va' by omega), hp]
  by_cases hr : root = 0
  · rw [if_pos hr, if_pos hr]; rfl
  · rw [if_neg hr, if_neg hr, tellsS_re n z tb va va' root rd hp]
    cases h : tellsS n z tb va' root rd with
    | bad r f => rfl
    | ok r e =>
      simp only [Out.re, Out.bind]
      by_cases h1 : alw e.V e.W e.X acc = false
      · rw [if_pos h1, if_pos h1]; rfl
      · rw [if_neg h1, if_neg h1]
theorem same_page (n : Nat) (z : Nat → Int) (root tb va va' acc : Int) (hp : va / 256 = va' / 256) (h1 : va < 1048576) :
    (∃ f f' r, transS n z root tb va acc = ⟨f, r, 0, 0, false, false⟩ ∧ transS n z root tb va' acc = ⟨f', r, 0, 0, false, false⟩ ∧ f.kd = f'.kd ∧ f.st = f'.st ∧ f.kd ≠ 0) ∨
    (∃ (r P A : Int) (W X : Bool), transS n z root tb va acc = ⟨⟨0, 0, 0, false⟩, r, P, A + va % 256, W, X⟩ ∧ transS n z root tb va' acc = ⟨⟨0, 0, 0, false⟩, r, P, A + va' % 256, W, X⟩ ∧ 0 ≤ A ∧ A ≤ 256 * n) := by
  unfold transS runS
  rw [ownS_re n z tb va va' root acc 0 hp h1]
  cases h : ownS n z tb va' root acc 0 with
  | bad r f =>
    left
    refine ⟨reF va f, f, r, rfl, rfl, ?_, ?_, ?_⟩
    · unfold reF; split <;> rfl
    · unfold reF; split
      · rename_i h2; exact h2.symm
      · rfl
    · have := (ownS_bad h).2.2.1
      unfold reF; split <;> exact this
  | ok r e =>
    simp only [Out.re, Out.bind]
    unfold ipaS
    by_cases hF : 0 ≤ e.F ∧ e.F < 4096
    · rw [if_pos hF, if_pos hF]
      simp only
      have w1 := walkS_page (n := n) (z := z) (root := tb) (p := e.F) (o := va % 256) (acc := acc) (by omega) (by omega)
      have w2 := walkS_page (n := n) (z := z) (root := tb) (p := e.F) (o := va' % 256) (acc := acc) (by omega) (by omega)
      by_cases hf : (walkS n z tb (e.F * 256) acc).f = 0
      · right
        have hb := walkS_F hf
        rw [place_0 w1 hf, place_0 w2 hf]
        refine ⟨_, _, 256 * (walkS n z tb (e.F * 256) acc).F, _, _, by simp only [toldOf]; rw [show (e.F * 256 + va % 256) % 256 = va % 256 by omega], by simp only [toldOf]; rw [show (e.F * 256 + va' % 256) % 256 = va' % 256 by omega], by omega, by omega⟩
      · left
        rw [place_f w1 hf, place_f w2 hf]
        exact ⟨_, _, _, rfl, rfl, rfl, rfl, hf⟩
    · rw [if_neg hF, if_neg hF]
      left
      exact ⟨_, _, _, rfl, rfl, rfl, rfl, by simp⟩
/-! ### What a translation hangs on -/
theorem trans_same {n : Nat} {z z' : Nat → Int} {own va acc : Int} (h0 : Ag z z' 0)
    (h1 : ∀ i : Int, 0 ≤ i → i < 64 → (slotE n z 0 i).V = true → (slotE n z 0 i).B = false → ∀ q : Nat, (slotE n z 0 i).F = q → Ag z z' q)
    (h2 : ∀ p : Int, 0 ≤ p → p < 4096 → (lookS n z 0 p).ok = true → ∀ q : Nat, (lookS n z 0 p).e.F = q → Ag z z' q) :
    transS n z' own 0 va acc = transS n z own 0 va acc := by
  have hw : ∀ a acc, walkS n z' 0 a acc = walkS n z 0 a acc := fun a acc => walkS_same ⟨h0, fun hV hB q hq => h1 _ (by omega) (by omega) hV hB q hq⟩
  have hpl : ∀ a acc t rd, placeS n z' 0 a acc t rd = placeS n z 0 a acc t rd := fun a acc t rd => by unfold placeS; rw [hw]
  have hs : ∀ p i rd, 0 ≤ i → i < 64 → slotS n z' 0 va p i rd = slotS n z 0 va p i rd := fun p i rd i0 i1 => by
    unfold slotS ipaS
    by_cases hp : 0 ≤ p ∧ p < 4096
    · rw [if_pos hp]
      simp only [Out.bind]
      rw [hpl]
      cases h : placeS n z 0 (p * 256 + 4 * i) 0 true rd with
      | bad r f => rfl
      | ok r s =>
        simp only
        obtain ⟨-, -, hH, hf, hA, hF0, hF1⟩ := placeS_ok h
        obtain ⟨q, hq⟩ := Int.eq_ofNat_of_zero_le hF0
        have hpg := walkS_page (n := n) (z := z) (root := 0) (p := p) (o := 4 * i) (acc := 0) (by omega) (by omega)
        have hl : lookS n z 0 p = ⟨⟨true, s.h.W, s.h.X, s.h.B, s.h.F⟩, true⟩ := by
          unfold lookS
          rw [if_pos hp, ← hpg, ← hH]
          unfold seenOf
          rw [if_pos hf]
        have ha := h2 p hp.1 hp.2 (by rw [hl]) q (by rw [hl]; exact hq)
        have e1 : s.A.toNat = (256 * (q : Int) + 4 * i).toNat := by rw [hA, hq]; omega
        have e2 := ha.slot n i i0 i1
        unfold slotE wAt at e2
        rw [e1, e2]
    · rw [if_neg hp]
      rfl
  have ht : ∀ rd, tellsS n z' 0 va own rd = tellsS n z 0 va own rd := fun rd => by
    unfold tellsS
    rw [hs _ _ _ (by omega) (by omega)]
    cases h : slotS n z 0 va (own / 256) (va / 16384 % 64) rd with
    | bad r f => rfl
    | ok r e =>
      simp only [Out.bind]
      rw [hs _ _ _ (by omega) (by omega)]
  have ho : ∀ rd, ownS n z' 0 va own acc rd = ownS n z 0 va own acc rd := fun rd => by unfold ownS; rw [ht]
  unfold transS runS
  rw [ho]
  simp only [hpl]
end Ns
end Go.Proofs.Ytdjglmfilhodlaa
