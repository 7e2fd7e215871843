/-
  What CopyBytes, Four and the document's own Get do, at every argument of at most 2,000 bytes.
-/
import Derived.Test.YtlbdklkocjlobaaBytes
import Derived.Deep.AppendLies
namespace Go.Proofs.Ytlbdklkocjlobaa
open Go.RowKit
namespace Cp
/-- Bytes, as values. -/
def vs (zs : List Int) : List Value := zs.map (Value.int .u8)
/-- A slice that came in reads as a list of bytes. -/
def Reads (w : World) (pa : Option Addr) (n : Nat) (zs : List Int) : Prop :=
  zs.length = n ∧ (0 < n → ∃ b off, pa = some ⟨b, off, none⟩ ∧ ∀ j, j < n → w.cell? ⟨b, off + j, none⟩ = some (.int .u8 (zs.getD j 0)))
theorem add_eq (b off j : Nat) : (⟨b, off, none⟩ : Addr).add j = ⟨b, off + j, none⟩ := by unfold Addr.add; split <;> simp_all
theorem copy_pos (b off n cap : Nat) (zs : List Int) (w : World) (hn : 0 < n) (h2 : n ≤ 2000) (hl : zs.length = n) (hc : ∀ j, j < n → w.cell? ⟨b, off + j, none⟩ = some (.int .u8 (zs.getD j 0))) :
    Calls Try.prog 18 #[.slice (some ⟨b, off, none⟩) n cap] w fun e w' => ∃ g c, e = .returned (.slice (some ⟨g, 0, none⟩) n c) ∧
      w'.ownsRow w.heap.size 5 1 (.slice (some ⟨g, 0, none⟩) n c) n (vs zs) ∧ Below w.heap.size w w' := by
  obtain ⟨i0, hi, hz0, hz1, hz2⟩ := info_parts info5
  go_enter Try.func18, Try.ntmps18
  have own0 : (w.alloc (.cells #[] 5)).ownsRow w.heap.size 5 1 (.slice (some ⟨w.heap.size, 0, none⟩) 0 0) 0 [] :=
    World.ownsRow_lit w #[] 0 (Nat.le_refl _) (by decide) rfl
  have news : ∀ j u, (vs zs)[j]? = some u → (w.alloc (.cells #[] 5)).cell? ((⟨b, off, none⟩ : Addr).add j) = some u := by
    intro j u hu
    have hj : j < n := by
      rcases Nat.lt_or_ge j n with h | h
      · exact h
      · rw [List.getElem?_eq_none (by unfold vs; simp; omega)] at hu
        cases hu
    have hcj := hc j hj
    have hb : b < w.heap.size := World.block_lt_of_cell? w _ hcj
    rw [add_eq, World.cell?_alloc_past _ _ _ hb, hcj, ← hu]
    unfold vs
    rw [List.getElem?_map, List.getElem?_eq_getElem (by omega), List.getD_eq_getElem?_getD, List.getElem?_eq_getElem (by omega)]
    rfl
  have O := Lib.hid own0
  have NW := Lib.hid news
  have HL := Lib.hid hl
  clear own0 news hc hl
  go_wp2_with (at_builtin; refine wpList_append_lies _ rfl (.tmp 5) (.tmp 6) 28 rfl w.heap.size 5 i0 (.int .u8 0) 1 1 Try.underlying28 hi hz0 hz1 hz2 rfl (by decide) (.slice (some ⟨w.heap.size, 0, none⟩) 0 0) 0 [] rfl O.out ⟨b, off, none⟩ n cap (vs zs) rfl (by unfold vs; simp [HL.out]) NW.out (by unfold vs; intro u hu; simp at hu; obtain ⟨z, _, rfl⟩ := hu; rfl) hn (by unfold maxLen; omega) (by omega) (by simp) _ rfl ?_; intro g c w1 hown hgrow hat hlt)
  have own1 := Lib.hid hown
  have gr := Lib.hid hgrow
  clear hown hgrow hat
  simp only [Nat.zero_add, List.nil_append] at own1
  refine bodyPost_ret (v := .slice (some ⟨g, 0, none⟩) n c) (by simp [results, Try.results18]) rfl ⟨g, c, rfl, own1.out, ?_⟩
  exact ((Below.refl _ _).alloc (Nat.le_refl _) _).grown gr.out (by simp) (by intro k hk; simp [Value.ownBlock] at hk; omega)
theorem copy_zero (pa : Option Addr) (cap : Nat) (w : World) :
    Calls Try.prog 18 #[.slice pa 0 cap] w fun e w' => e = .returned (.slice (some ⟨w.heap.size, 0, none⟩) 0 0) ∧ w' = w.alloc (.cells #[] 5) := by
  have p1 : ∀ w : World, Sem.run Try.prog (pure (#[] : Array Value)) w = Result.ok #[] w := fun _ => rfl
  have p2 : ∀ (a : Addr) (w : World), Sem.run Try.prog (storeCells a ([] : List Value)) w = Result.ok () w := fun _ _ => rfl
  rcases pa with _ | a
  · go_enter Try.func18, Try.ntmps18
    go_wp2
    go_ret
    exact ⟨rfl, rfl⟩
  · go_enter Try.func18, Try.ntmps18
    go_wp2
    go_ret
    exact ⟨rfl, rfl⟩
theorem four_any (x : Int) (w : World) (x0 : 0 ≤ x) (x1 : x < 4294967296) :
    Calls Try.prog 20 #[.int .u32 x] w fun e w' => e = .returned (.slice (some ⟨w.heap.size, 0, none⟩) 4 4) ∧ w' = w.alloc (.cells #[.int .u8 (byte4 x 0), .int .u8 (byte4 x 1), .int .u8 (byte4 x 2), .int .u8 (byte4 x 3)] 5) := by
  go_enter Try.func20, Try.ntmps20
  go_wp2
  go_ret
  exact ⟨rfl, rfl⟩
/-- The document's own Get. -/
theorem rget_no (a : Option Addr) (len cap : Nat) (i : Int) (w : World) (h : ¬ (0 ≤ i ∧ i ≤ len - 4)) (hl : len ≤ 2000) :
    Calls Try.prog 17 #[.slice a len cap, .int .i64 i] w fun e w' => e = .returned (.tuple #[.int .u32 0, .bool false]) ∧ w = w' := by
  by_cases h0 : i < 0
  · have d : decide (i < 0) = true := by simpa using h0
    clear h
    go_enter Try.func17, Try.ntmps17
    go_wp2
    go_ret2
    exact ⟨rfl, rfl⟩
  · have d : decide (i < 0) = false := by simpa using h0
    have h1 : (len : Int) - 4 < i := by omega
    have d2 : decide ((len : Int) - 4 < i) = true := by simpa using h1
    clear h
    go_enter Try.func17, Try.ntmps17
    go_wp2
    go_ret2
    exact ⟨rfl, rfl⟩
theorem rget_yes (b off len cap : Nat) (i : Int) (z0 z1 z2 z3 : Int) (w : World) (h0 : 0 ≤ i) (h : i + 4 ≤ len) (hl : len ≤ 2000)
    (k0 : B8 z0) (k1 : B8 z1) (k2 : B8 z2) (k3 : B8 z3)
    (c0 : w.cell? ⟨b, off + i.toNat, none⟩ = some (.int .u8 z0)) (c1 : w.cell? ⟨b, off + (i.toNat + 1), none⟩ = some (.int .u8 z1))
    (c2 : w.cell? ⟨b, off + (i.toNat + 2), none⟩ = some (.int .u8 z2)) (c3 : w.cell? ⟨b, off + (i.toNat + 3), none⟩ = some (.int .u8 z3)) :
    Calls Try.prog 17 #[.slice (some ⟨b, off, none⟩) len cap, .int .i64 i] w fun e w' => e = .returned (.tuple #[.int .u32 (word4 z0 z1 z2 z3), .bool true]) ∧ w = w' := by
  obtain ⟨i, rfl⟩ := Int.eq_ofNat_of_zero_le h0
  rw [Int.toNat_natCast] at c0 c1 c2 c3
  obtain ⟨a0, b0⟩ := k0; obtain ⟨a1, b1⟩ := k1; obtain ⟨a2, b2⟩ := k2; obtain ⟨a3, b3⟩ := k3
  have d : decide ((i : Int) < 0) = false := by simp
  have d2 : decide ((len : Int) - 4 < (i : Int)) = false := by simp; omega
  go_enter Try.func17, Try.ntmps17
  go_wp2
  go_loop [6, 7] (fun t j => (t = .int .u32 0 ∧ j = .int .i64 3) ∨ (t = .int .u32 z3 ∧ j = .int .i64 2) ∨ (t = .int .u32 (z3 * 256 + z2) ∧ j = .int .i64 1) ∨ (t = .int .u32 ((z3 * 256 + z2) * 256 + z1) ∧ j = .int .i64 0) ∨ (t = .int .u32 (((z3 * 256 + z2) * 256 + z1) * 256 + z0) ∧ j = .int .i64 (-1))) (fun _ j => (intOf j + 1).toNat)
  case atStart => exact Or.inl ⟨rfl, rfl⟩
  case round =>
    rcases hrel with ⟨rfl, rfl⟩ | ⟨rfl, rfl⟩ | ⟨rfl, rfl⟩ | ⟨rfl, rfl⟩ | ⟨rfl, rfl⟩
    · go_wp2
      go_round
      case rel => exact Or.inr (Or.inl ⟨rfl, rfl⟩)
      case measure => simp [intOf]
    · go_wp2
      go_round
      case rel => exact Or.inr (Or.inr (Or.inl ⟨rfl, rfl⟩))
      case measure => simp [intOf]
    · go_wp2
      go_round
      case rel => exact Or.inr (Or.inr (Or.inr (Or.inl ⟨rfl, rfl⟩)))
      case measure => simp [intOf]
    · go_wp2
      go_round
      case rel => exact Or.inr (Or.inr (Or.inr (Or.inr ⟨rfl, rfl⟩)))
      case measure => simp [intOf]
    · go_wp2
      go_ret2
      exact ⟨ret_u32b (by unfold word4; omega), rfl⟩
end Cp
end Go.Proofs.Ytlbdklkocjlobaa
