/-
  What frames's takes, pass, Owner and Count answer. Conditions: that a table lies there.
-/
import Derived.Test.YtgeagnpgcjjifaaFrBase
namespace Go.Proofs.Ytgeagnpgcjjifaa
open Go.RowKit
namespace Fr
open Ph (Only)

/-- May it take frames? -/
def tk (o : Int) : Bool := decide (1 ≤ o) && decide (o ≤ 9)
theorem takes_any (o : Int) (w : World) : Calls Try.prog 30 #[.int .i64 o] w fun e w' => e = .returned (.bool (tk o)) ∧ w = w' := by
  unfold tk
  by_cases h : 1 ≤ o
  · have d1 : decide (1 ≤ o) = true := decide_eq_true h
    rw [d1, Bool.true_and]
    go_enter Try.func30, Try.ntmps30
    go_wp2
    go_ret
    exact ⟨rfl, rfl⟩
  · have d1 : decide (1 ≤ o) = false := decide_eq_false h
    rw [d1, Bool.false_and]
    go_enter Try.func30, Try.ntmps30
    go_wp2
    go_ret
    exact ⟨rfl, rfl⟩
theorem count_yes (t F k : Nat) (os : List Nat) (w : World) (hT : Tab w t F os) (hk : k < 10) :
    Calls Try.prog 15 #[.pointer (some ⟨t, 0, none⟩), .int .i64 k] w fun e w' => e = .returned (.int .i64 (cn os k)) ∧ w = w' := by
  have hc := hT.tb.cnt k hk
  have h0 : ¬ ((k : Int) < 0) := by omega
  have h1 : ¬ (10 ≤ (k : Int)) := by omega
  clear hT
  go_enter Try.func15, Try.ntmps15
  go_wp2
  go_ret
  exact ⟨rfl, rfl⟩
theorem count_no (p : Value) (k : Int) (w : World) (hk : k < 0 ∨ 10 ≤ k) :
    Calls Try.prog 15 #[p, .int .i64 k] w fun e w' => e = .returned (.int .i64 0) ∧ w = w' := by
  by_cases h : k < 0
  · clear hk
    go_enter Try.func15, Try.ntmps15
    go_wp2
    go_ret
    exact ⟨rfl, rfl⟩
  · have h2 : 10 ≤ k := by omega
    clear hk
    go_enter Try.func15, Try.ntmps15
    go_wp2
    go_ret
    exact ⟨rfl, rfl⟩
theorem owner_yes (t F k x : Nat) (os : List Nat) (w : World) (hT : Tab w t F os) (hx : os[k]? = some x) :
    Calls Try.prog 16 #[.pointer (some ⟨t, 0, none⟩), .int .i64 k] w fun e w' => e = .returned (.int .i64 x) ∧ w = w' := by
  have hc := hT.tb.row.cell k x hx
  have hh := hT.tb.head
  have hl : k < os.length := (List.getElem?_eq_some_iff.1 hx).1
  have h0 : ¬ ((k : Int) < 0) := by omega
  have h1 : ¬ ((os.length : Int) ≤ (k : Int)) := by omega
  clear hT hx
  go_enter Try.func16, Try.ntmps16
  go_wp2
  go_ret
  exact ⟨rfl, rfl⟩
theorem owner_no (t F : Nat) (k : Int) (os : List Nat) (w : World) (hT : Tab w t F os) (hk : k < 0 ∨ os.length ≤ k) :
    Calls Try.prog 16 #[.pointer (some ⟨t, 0, none⟩), .int .i64 k] w fun e w' => e = .returned (.int .i64 (-1)) ∧ w = w' := by
  have hh := hT.tb.head
  clear hT
  by_cases h : k < 0
  · clear hk
    go_enter Try.func16, Try.ntmps16
    go_wp2
    go_ret
    exact ⟨rfl, rfl⟩
  · have h2 : os.length ≤ k := by omega
    clear hk
    go_enter Try.func16, Try.ntmps16
    go_wp2
    go_ret
    exact ⟨rfl, rfl⟩
theorem pass_any (t F f x to : Nat) (os : List Nat) (w : World) (hT : Tab w t F os) (hx : os[f]? = some x) (hto : to ≤ 9) :
    Calls Try.prog 29 #[.pointer (some ⟨t, 0, none⟩), .int .i64 f, .int .i64 to] w fun e w' => e = .returned (.tuple #[]) ∧ Tab w' t F (os.set f to) ∧ Only [t, F] w w' := by
  have hl : f < os.length := (List.getElem?_eq_some_iff.1 hx).1
  have hx9 : x ≤ 9 := hT.few x (List.mem_of_getElem? hx)
  have hlen := hT.len
  have hh := hT.tb.head
  have hc := hT.tb.row.cell f x hx
  have hk := hT.tb.cnt x (by omega)
  have hf := hT.tb.cfree x (by omega)
  have b := cn_le os x
  have b1 : 0 ≤ cn os x := b.1
  have b2 : cn os x ≤ 1024 := by have := b.2; omega
  obtain ⟨T1, O1⟩ := hT.tb.setCnt x (cn os x - 1) (by omega)
  have D1 := Only.drewN [] (w.setCell ⟨t, 1 + x, none⟩ (.int .i64 (cn os x - 1))) 1
  have T1' := Lib.hid (T1.kept D1 (by simp) (by simp))
  have O1' := Lib.hid (O1.trans (D1.mono (by simp)))
  have HT := Lib.hid hT
  have HX := Lib.hid hx
  clear b T1 O1 D1 hT hx
  generalize hcn : cn os x = c at *
  have HN := Lib.hid hcn
  clear hcn
  go_enter Try.func29, Try.ntmps29
  go_wp2_with fail
  go_region
  have T2 := T1'.out
  have O2 := O1'.out
  clear T1' O1' hh hc hk hf
  change Tb (w.setCell ⟨t, 1 + x, none⟩ (.int .i64 (c - 1))).drew t F os (upd (cn os) x (c - 1)) at T2
  change Only [t] w (w.setCell ⟨t, 1 + x, none⟩ (.int .i64 (c - 1))).drew at O2
  generalize (w.setCell ⟨t, 1 + x, none⟩ (.int .i64 (c - 1))).drew = w1 at *
  have hk := T2.cnt to (by omega)
  have hf := T2.cfree to (by omega)
  have hv : 0 ≤ upd (cn os) x (c - 1) to + 1 ∧ upd (cn os) x (c - 1) to ≤ 1024 := by
    have := cn_le os to
    unfold upd
    split <;> omega
  have hv1 := hv.1
  have hv2 := hv.2
  obtain ⟨T3, O3⟩ := T2.setCnt to (upd (cn os) x (c - 1) to + 1) (by omega)
  have D3 := Only.drewN [] (w1.setCell ⟨t, 1 + to, none⟩ (.int .i64 (upd (cn os) x (c - 1) to + 1))) 1
  have T3' := Lib.hid (T3.kept D3 (by simp) (by simp))
  have O3' := Lib.hid (O2.trans (O3.trans (D3.mono (by simp))))
  clear T3 O3 D3 T2 O2 hv
  generalize hcc : upd (cn os) x (c - 1) = cc at *
  have HC := Lib.hid hcc
  clear hcc
  generalize hd : cc to = d at *
  have HD := Lib.hid hd
  clear hd
  go_wp2_with fail
  go_region
  have T4 := T3'.out
  have O4 := O3'.out
  clear T3' O3' hk hf
  change Tb (w1.setCell ⟨t, 1 + to, none⟩ (.int .i64 (d + 1))).drew t F os (upd cc to (d + 1)) at T4
  change Only [t] w (w1.setCell ⟨t, 1 + to, none⟩ (.int .i64 (d + 1))).drew at O4
  generalize (w1.setCell ⟨t, 1 + to, none⟩ (.int .i64 (d + 1))).drew = w2 at *
  have hh := T4.head
  have hs := T4.row.some hl
  have hc := T4.row.cell f x HX.out
  have hf := T4.row.free f hl
  obtain ⟨T5, O5⟩ := T4.setRow f to hl
  have HT5 := Lib.hid T5
  have HO5 := Lib.hid ((O4.mono (S' := [t, F]) (by simp)).trans (O5.mono (by simp)))
  clear T5 O5 T4 O4
  go_wp2_with fail
  go_end0
  refine ⟨rfl, ⟨?_, few_set HT.out.few f to hto, by rw [List.length_set]; exact hlen⟩, HO5.out⟩
  have e : upd cc to (d + 1) = cn (os.set f to) := by
    funext k
    rw [cn_set HX.out k, ← HD.out, ← HC.out, ← HN.out]
    unfold upd
    by_cases h1 : k = x
    · subst h1
      by_cases h2 : k = to
      · subst h2
        simp
      · rw [if_neg h2, if_pos rfl, if_pos rfl, if_neg h2]; omega
    · by_cases h2 : k = to
      · subst h2
        rw [if_pos rfl, if_neg h1, if_neg h1, if_pos rfl]; omega
      · rw [if_neg h2, if_neg h1, if_neg h1, if_neg h2]; omega
  rw [← e]
  exact HT5.out
end Fr
end Go.Proofs.Ytgeagnpgcjjifaa
