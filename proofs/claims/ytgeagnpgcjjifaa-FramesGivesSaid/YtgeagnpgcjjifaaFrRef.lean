/-
  What the document's own Take and Move answer. Conditions: that its table lies there.
-/
import Derived.Test.YtgeagnpgcjjifaaFrList
namespace Go.Proofs.Ytgeagnpgcjjifaa
open Go.RowKit
namespace Fr
open Ph (Only)

/-- Are the first i of a run nobody's? -/
def fr (os : List Nat) (a i : Nat) : Bool := ((os.drop a).take i).all (· == 0)
theorem fr_zero (os : List Nat) (a : Nat) : fr os a 0 = true := by simp [fr]
theorem fr_next {os : List Nat} {a i x : Nat} (hx : os[a + i]? = some x) : fr os a (i + 1) = (fr os a i && (x == 0)) := by
  unfold fr
  rw [List.take_add_one, List.getElem?_drop, hx, List.all_append]
  simp
theorem isRun_fr {n : Nat} {os : List Nat} {k : Nat} (h : n * k + n ≤ os.length) : isRun n os k = fr os (n * k) n := by
  unfold isRun fr
  rw [decide_eq_true h, Bool.true_and]
set_option maxRecDepth 100000 in
theorem rtake_any (r G n : Nat) (o : Int) (os : List Nat) (w : World) (hT : RTab w r G os) (hlen : os.length ≤ 1024) (hn : 1 ≤ n) (hn64 : n ≤ 64) :
    Calls Try.prog 23 #[.pointer (some ⟨r, 0, none⟩), .int .i64 o, .int .i64 n] w fun e w' => e = .returned (.tuple #[.int .i64 (takeP n o os).1, .int .i64 (takeP n o os).2.1]) ∧ RTab w' r G (takeP n o os).2.2 ∧ Only [G] w w' := by
  have HT := Lib.hid hT
  have hh := hT.head
  clear hT
  cases htk : tk o with
  | false =>
    have e : takeP n o os = (-1, 11, os) := by unfold takeP; rw [htk]; rfl
    rw [e]
    clear e
    go_enter Try.func23, Try.ntmps23
    go_wp2_with (go_at_call 31; refine (rowner_any o _).mono ?_; rintro e w1 ⟨rfl, rfl⟩; rw [htk])
    go_ret2
    exact ⟨rfl, HT.out, Only.refl _ _⟩
  | true =>
    obtain ⟨q, rfl, hq1, hq9⟩ := tk_nat htk
    obtain ⟨ans, hans⟩ : ∃ ans, ans = takeP n q os := ⟨_, rfl⟩
    rw [← hans]
    have HN := Lib.hid hans
    clear hans
    go_enter Try.func23, Try.ntmps23
    go_wp2_with (go_at_call 31; refine (rowner_any (q : Int) _).mono ?_; rintro e w1 ⟨rfl, rfl⟩; rw [htk])
    go_loopw [8] (fun c wr => ∃ k : Nat, c = .int .i64 ((n * k : Nat) : Int) ∧ n * k ≤ os.length ∧ (∀ j, j < k → isRun n os j = false) ∧ w = wr) (fun c _ => os.length + 1 - (intOf c).toNat)
    case atStart => exact ⟨0, by simp, by simp, fun j hj => absurd hj (by omega), rfl⟩
    case round =>
      obtain ⟨k, rfl, hk, hno, rfl⟩ := hrel
      have HNO := Lib.hid hno
      clear hno
      obtain ⟨a, ha⟩ : ∃ a, a = n * k := ⟨_, rfl⟩
      rw [← ha] at hk ⊢
      have HA := Lib.hid ha
      clear ha
      by_cases hfar : a + n ≤ os.length
      · have hfarI : (a : Int) + (n : Int) ≤ (os.length : Int) := by omega
        go_wp2_with fail
        go_loopw [9, 10] (fun f c wr => ∃ i : Nat, c = .int .i64 i ∧ i ≤ n ∧ f = .bool (fr os a i) ∧ w = wr) (fun _ c _ => n - (intOf c).toNat)
        case atStart => exact ⟨0, rfl, Nat.zero_le _, by rw [fr_zero], rfl⟩
        case round =>
          obtain ⟨i, rfl, hi, rfl, rfl⟩ := hrel
          by_cases hin : i < n
          · obtain ⟨x, hx⟩ : ∃ x, os[a + i]? = some x := ⟨os[a + i], List.getElem?_eq_getElem (by omega)⟩
            have hc := HT.out.row.cell _ x hx
            have HF := Lib.hid (fr_next hx)
            clear hx
            cases hfr : fr os a i with
            | false =>
              go_wp2_with fail
              go_roundw
              case rel => exact ⟨i + 1, rfl, by omega, by rw [HF.out, hfr]; rfl, by trivial⟩
              case measure => simp only [intOf, Int.toNat_natCast]; omega
            | true =>
              have ex : (x == 0) = ((x : Int) == 0) := by rw [Bool.eq_iff_iff]; simp
              go_wp2_with fail
              go_roundw
              case rel => exact ⟨i + 1, rfl, by omega, by rw [HF.out, hfr, ex]; rfl, by trivial⟩
              case measure => simp only [intOf, Int.toNat_natCast]; omega
          · obtain rfl : i = n := by omega
            cases hfr : fr os a i with
            | false =>
              go_wp2_with fail
              go_roundw
              case rel =>
                have := HA.out
                refine ⟨k + 1, by rw [this]; simp [Nat.mul_add], by rw [Nat.mul_add]; omega, fun j hj => ?_, by trivial⟩
                by_cases e : j = k
                · subst e; rw [isRun_fr (by omega), ← this]; exact hfr
                · exact HNO.out j (by omega)
              case measure => simp only [intOf, Int.toNat_natCast]; omega
            | true =>
              have hs : spot i os = some k := spot_at hn (by have := HA.out; rw [isRun_fr (by omega), ← this]; exact hfr) HNO.out
              have e : takeP i q os = ((a : Int), 0, setR os a i q) := by unfold takeP; rw [htk, hs, HA.out]; rfl
              obtain rfl := HN.out.trans e
              clear e hs
              go_wp2_with fail
              go_loopw [11] (fun c wr => ∃ j : Nat, c = .int .i64 j ∧ j ≤ i ∧ RTab wr r G (setR os a j q) ∧ Only [G] w wr) (fun c _ => i - (intOf c).toNat)
              case atStart => exact ⟨0, rfl, Nat.zero_le _, HT.out, Only.refl _ _⟩
              case round =>
                obtain ⟨j, rfl, hj, hTj, hOj⟩ := hrel
                have HTJ := Lib.hid hTj
                have HOJ := Lib.hid hOj
                have hh' := hTj.head
                rw [setR_len] at hh'
                clear hTj hOj
                by_cases hji : j < i
                · have hlt : a + j < (setR os a j q).length := by rw [setR_len]; omega
                  obtain ⟨x, hx⟩ : ∃ x, (setR os a j q)[a + j]? = some x := ⟨_, List.getElem?_eq_getElem hlt⟩
                  have hsm := HTJ.out.row.cell _ x hx
                  clear hx
                  have hfz := HTJ.out.row.free _ hlt
                  obtain ⟨T2, O2⟩ := HTJ.out.set (a + j) q hlt
                  have HT2 := Lib.hid T2
                  have HO2 := Lib.hid O2
                  clear T2 O2 hlt
                  go_wp2_with fail
                  go_roundw
                  case rel => exact ⟨j + 1, rfl, by omega, HT2.out, HOJ.out.trans HO2.out⟩
                  case measure => simp only [intOf, Int.toNat_natCast]; omega
                · obtain rfl : j = i := by omega
                  go_wp2_with fail
                  go_ret2
                  exact ⟨rfl, HTJ.out, HOJ.out⟩
      · have e : takeP n q os = (-1, 15, os) := by
          have hs : spot n os = none := spot_no fun j => by
            by_cases e : j < k
            · exact HNO.out j e
            · have := HA.out
              refine isRun_far ?_
              have := Nat.mul_le_mul_left n (show k ≤ j by omega)
              omega
          unfold takeP
          rw [htk, hs]
          rfl
        obtain rfl := HN.out.trans e
        clear e
        have hfarI : ¬ (a : Int) + (n : Int) ≤ (os.length : Int) := by omega
        go_wp2_with fail
        go_ret2
        exact ⟨rfl, HT.out, Only.refl _ _⟩
set_option maxRecDepth 100000 in
theorem rmove_any (r G : Nat) (f a b : Int) (os : List Nat) (w : World) (hT : RTab w r G os) :
    Calls Try.prog 24 #[.pointer (some ⟨r, 0, none⟩), .int .i64 f, .int .i64 a, .int .i64 b] w fun e w' => e = .returned (.int .i64 (mvP f a b os).1) ∧ RTab w' r G (mvP f a b os).2 ∧ Only [G] w w' := by
  have hh := hT.head
  have HT := Lib.hid hT
  clear hT
  obtain ⟨ans, hans⟩ : ∃ ans, ans = mvP f a b os := ⟨_, rfl⟩
  rw [← hans]
  by_cases h1 : f < 0
  · have e : mvP f a b os = (11, os) := by unfold mvP; rw [if_pos (Or.inl h1)]
    obtain rfl := hans.trans e
    clear e hans
    have d1 : decide (f < 0) = true := decide_eq_true h1
    go_enter Try.func24, Try.ntmps24
    go_wp2_with fail
    go_ret
    exact ⟨rfl, HT.out, Only.refl _ _⟩
  by_cases h2 : (os.length : Int) ≤ f
  · have e : mvP f a b os = (11, os) := by unfold mvP; rw [if_pos (Or.inr (Or.inl h2))]
    obtain rfl := hans.trans e
    clear e hans
    go_enter Try.func24, Try.ntmps24
    go_wp2_with fail
    go_ret
    exact ⟨rfl, HT.out, Only.refl _ _⟩
  obtain ⟨k, rfl⟩ : ∃ k : Nat, f = k := ⟨f.toNat, by omega⟩
  cases ha : tk a with
  | false =>
    have e : mvP k a b os = (11, os) := by unfold mvP; rw [if_pos (Or.inr (Or.inr (Or.inl ha)))]
    obtain rfl := hans.trans e
    clear e hans
    go_enter Try.func24, Try.ntmps24
    go_wp2_with (go_at_call 31; refine (rowner_any a _).mono ?_; rintro e w1 ⟨rfl, rfl⟩; rw [ha])
    go_ret
    exact ⟨rfl, HT.out, Only.refl _ _⟩
  | true =>
    obtain ⟨q, rfl, hq1, hq9⟩ := tk_nat ha
    have hk : k < os.length := by omega
    obtain ⟨x, hx⟩ : ∃ x, os[k]? = some x := ⟨os[k], List.getElem?_eq_getElem hk⟩
    have hc := HT.out.row.cell k x hx
    have hf := HT.out.row.free k hk
    by_cases hb : b ≠ 0 ∧ tk b = false
    · have e : mvP k q b os = (11, os) := by unfold mvP; rw [if_pos (Or.inr (Or.inr (Or.inr hb)))]
      obtain rfl := hans.trans e
      obtain ⟨hb0, hb1⟩ := hb
      have d1 : (b != 0) = true := by simp; exact hb0
      clear e hans hx hb0
      go_enter Try.func24, Try.ntmps24
      go_wp2_with (first | (go_at_call 31; with_reducible refine (rowner_any (q : Int) _).mono ?_; rintro e w1 ⟨rfl, rfl⟩; rw [ha]) | (go_at_call 31; with_reducible refine (rowner_any b _).mono ?_; rintro e w1 ⟨rfl, rfl⟩; rw [hb1]))
      go_ret
      exact ⟨rfl, HT.out, Only.refl _ _⟩
    · have e : mvP k q b os = if (x : Int) ≠ q then (16, os) else (0, os.set k b.toNat) := by
        unfold mvP
        rw [if_neg (by rw [ha]; simp only [not_or]; exact ⟨h1, h2, by simp, hb⟩), show (k : Int).toNat = k from rfl, hx]
        rfl
      have hbq : ∃ p : Nat, b = p := by
        by_cases h0 : b = 0
        · exact ⟨0, h0⟩
        · have : tk b = true := by
            cases h : tk b with
            | true => rfl
            | false => exact absurd ⟨h0, h⟩ hb
          obtain ⟨p, hp, _⟩ := tk_nat this
          exact ⟨p, hp⟩
      obtain ⟨p, rfl⟩ := hbq
      obtain ⟨T2, O2⟩ := HT.out.set k p hk
      have HT2 := Lib.hid T2
      have HO2 := Lib.hid O2
      clear T2 O2 hx
      by_cases hp0 : p = 0
      · subst hp0
        by_cases hxq : (x : Int) = q
        · rw [if_neg (by simp; omega)] at e
          have dx : ((x : Int) == (q : Int)) = true := by simp; omega
          obtain rfl := hans.trans e
          clear e hans hb
          go_enter Try.func24, Try.ntmps24
          go_wp2_with (go_at_call 31; with_reducible refine (rowner_any (q : Int) _).mono ?_; rintro e w1 ⟨rfl, rfl⟩; rw [ha])
          go_ret
          exact ⟨rfl, HT2.out, HO2.out⟩
        · rw [if_pos hxq] at e
          have dx : ((x : Int) == (q : Int)) = false := by simp; omega
          obtain rfl := hans.trans e
          clear e hans hb
          go_enter Try.func24, Try.ntmps24
          go_wp2_with (go_at_call 31; with_reducible refine (rowner_any (q : Int) _).mono ?_; rintro e w1 ⟨rfl, rfl⟩; rw [ha])
          go_ret
          exact ⟨rfl, HT.out, Only.refl _ _⟩
      · have hbt : tk p = true := by
          cases h : tk p with
          | true => rfl
          | false => exact absurd ⟨by omega, h⟩ hb
        have d1 : ((p : Int) != 0) = true := by simp; omega
        by_cases hxq : (x : Int) = q
        · rw [if_neg (by simp; omega)] at e
          have dx : ((x : Int) == (q : Int)) = true := by simp; omega
          obtain rfl := hans.trans e
          clear e hans hb hp0
          go_enter Try.func24, Try.ntmps24
          go_wp2_with (first | (go_at_call 31; with_reducible refine (rowner_any (q : Int) _).mono ?_; rintro e w1 ⟨rfl, rfl⟩; rw [ha]) | (go_at_call 31; with_reducible refine (rowner_any (p : Int) _).mono ?_; rintro e w1 ⟨rfl, rfl⟩; rw [hbt]))
          go_ret
          exact ⟨rfl, HT2.out, HO2.out⟩
        · rw [if_pos hxq] at e
          have dx : ((x : Int) == (q : Int)) = false := by simp; omega
          obtain rfl := hans.trans e
          clear e hans hb hp0
          go_enter Try.func24, Try.ntmps24
          go_wp2_with (first | (go_at_call 31; with_reducible refine (rowner_any (q : Int) _).mono ?_; rintro e w1 ⟨rfl, rfl⟩; rw [ha]) | (go_at_call 31; with_reducible refine (rowner_any (p : Int) _).mono ?_; rintro e w1 ⟨rfl, rfl⟩; rw [hbt]))
          go_ret
          exact ⟨rfl, HT.out, Only.refl _ _⟩
end Fr
end Go.Proofs.Ytgeagnpgcjjifaa
