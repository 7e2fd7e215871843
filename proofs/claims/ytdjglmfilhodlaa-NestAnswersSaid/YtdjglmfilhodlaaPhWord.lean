/-
  What word.Get and word.Set, the document's own Get and Four, SameBytes, SameInts and CopyBytes do; no condition but that each argument is of its Go type, and that the bytes are no more than 20,000.
-/
import Derived.Test.YtdjglmfilhodlaaPhBase
import Derived.Deep.AppendLies
namespace Go.Proofs.Ytdjglmfilhodlaa
open Go.RowKit
namespace Ph
theorem hasWord_yes (a : Option Addr) (len cap : Nat) (i : Int) (w : World) (h0 : 0 ≤ i) (h1 : i ≤ len - 4) (hl : len ≤ 9223372036854775807) :
    Calls Try.prog 58 #[.slice a len cap, .int .i64 i] w fun e w' => e = .returned (.bool true) ∧ w = w' := by
  have h5 : decide (i ≤ (len : Int) - 4) = true := by simpa using h1
  go_enter Try.func58, Try.ntmps58
  go_wp2
  go_ret
  exact ⟨rfl, rfl⟩
theorem hasWord_no (a : Option Addr) (len cap : Nat) (i : Int) (w : World) (h : ¬ (0 ≤ i ∧ i ≤ len - 4)) (hl : len ≤ 9223372036854775807) :
    Calls Try.prog 58 #[.slice a len cap, .int .i64 i] w fun e w' => e = .returned (.bool false) ∧ w = w' := by
  by_cases h0 : 0 ≤ i
  · have h1 : ¬ i ≤ (len : Int) - 4 := by omega
    have h5 : decide (i ≤ (len : Int) - 4) = false := by simpa using h1
    clear h
    go_enter Try.func58, Try.ntmps58
    go_wp2
    go_ret
    exact ⟨rfl, rfl⟩
  · have h5 : decide (0 ≤ i) = false := by simpa using h0
    clear h
    go_enter Try.func58, Try.ntmps58
    go_wp2
    go_ret
    exact ⟨rfl, rfl⟩
theorem get_no (a : Option Addr) (len cap : Nat) (i : Int) (w : World) (h : ¬ (0 ≤ i ∧ i ≤ len - 4)) (hl : len ≤ 9223372036854775807) :
    Calls Try.prog 55 #[.slice a len cap, .int .i64 i] w fun e w' => e = .returned (.tuple #[.int .u32 0, .bool false]) ∧ w = w' := by
  go_enter Try.func55, Try.ntmps55
  go_wp2_with (go_at_call 58; refine (hasWord_no _ _ _ _ _ h hl).mono ?_; rintro e w' ⟨rfl, rfl⟩)
  go_ret2
  exact ⟨rfl, rfl⟩
theorem or_join (a b : Int) (k : Nat) (h0 : 0 ≤ a) (h1 : a < (2 ^ k : Nat)) (h2 : 0 ≤ b) (h3 : b * (2 ^ k : Nat) < 4294967296) (h4 : a < 4294967296) : bits .or .u32 a (b * (2 ^ k : Nat)) = a + b * (2 ^ k : Nat) := by
  obtain ⟨A, rfl⟩ := Int.eq_ofNat_of_zero_le h0
  obtain ⟨B, rfl⟩ := Int.eq_ofNat_of_zero_le h2
  rw [← Int.natCast_mul] at h3 ⊢
  rw [u32_or_nat _ _ (by omega) (by omega), Nat.or_comm, nat_join k (B * 2 ^ k) A (Nat.mul_mod_left _ _) (by omega)]
  omega
/-- The word of four bytes. -/
def word4 (z0 z1 z2 z3 : Int) : Int := z0 + z1 * 256 + z2 * 65536 + z3 * 16777216
theorem word_eq (z0 z1 z2 z3 : Int) (k0 : B8 z0) (k1 : B8 z1) (k2 : B8 z2) (k3 : B8 z3) :
    bits .or .u32 (bits .or .u32 (bits .or .u32 z0 (z1 * 256)) (z2 * 65536)) (z3 * 16777216) = word4 z0 z1 z2 z3 := by
  obtain ⟨a0, b0⟩ := k0; obtain ⟨a1, b1⟩ := k1; obtain ⟨a2, b2⟩ := k2; obtain ⟨a3, b3⟩ := k3
  have e1 : bits .or .u32 z0 (z1 * 256) = z0 + z1 * 256 := or_join z0 z1 8 a0 (by omega) a1 (by omega) (by omega)
  have e2 : bits .or .u32 (z0 + z1 * 256) (z2 * 65536) = z0 + z1 * 256 + z2 * 65536 := or_join _ z2 16 (by omega) (by omega) a2 (by omega) (by omega)
  have e3 : bits .or .u32 (z0 + z1 * 256 + z2 * 65536) (z3 * 16777216) = z0 + z1 * 256 + z2 * 65536 + z3 * 16777216 := or_join _ z3 24 (by omega) (by omega) a3 (by omega) (by omega)
  rw [e1, e2, e3]
  rfl
theorem ret_u32b {a b : Int} {c : Bool} (h : a = b) : Ending.returned (.tuple #[.int .u32 a, .bool c]) = .returned (.tuple #[.int .u32 b, .bool c]) := by rw [h]
theorem get_yes (b off len cap : Nat) (i : Int) (z0 z1 z2 z3 : Int) (w : World) (h0 : 0 ≤ i) (h : i + 4 ≤ len) (hl : len ≤ 9223372036854775807)
    (k0 : B8 z0) (k1 : B8 z1) (k2 : B8 z2) (k3 : B8 z3)
    (c0 : w.cell? ⟨b, off + i.toNat, none⟩ = some (.int .u8 z0)) (c1 : w.cell? ⟨b, off + (i.toNat + 1), none⟩ = some (.int .u8 z1))
    (c2 : w.cell? ⟨b, off + (i.toNat + 2), none⟩ = some (.int .u8 z2)) (c3 : w.cell? ⟨b, off + (i.toNat + 3), none⟩ = some (.int .u8 z3)) :
    Calls Try.prog 55 #[.slice (some ⟨b, off, none⟩) len cap, .int .i64 i] w fun e w' => e = .returned (.tuple #[.int .u32 (word4 z0 z1 z2 z3), .bool true]) ∧ ∃ k, w' = w.drewN k := by
  obtain ⟨i, rfl⟩ := Int.eq_ofNat_of_zero_le h0
  rw [Int.toNat_natCast] at c0 c1 c2 c3
  have E := Lib.hid (word_eq z0 z1 z2 z3 k0 k1 k2 k3)
  obtain ⟨a0, b0⟩ := k0; obtain ⟨a1, b1⟩ := k1; obtain ⟨a2, b2⟩ := k2; obtain ⟨a3, b3⟩ := k3
  go_enter Try.func55, Try.ntmps55
  go_wp2_with (go_at_call 58; refine (hasWord_yes _ _ _ _ _ (by omega) (by omega) hl).mono ?_; rintro e w' ⟨rfl, rfl⟩)
  go_quiet (fail)
  go_wp2
  go_ret2
  exact ⟨ret_u32b E.out, _, rfl⟩
theorem set_no (a : Option Addr) (len cap : Nat) (i x : Int) (w : World) (h : ¬ (0 ≤ i ∧ i ≤ len - 4)) (hl : len ≤ 9223372036854775807) :
    Calls Try.prog 44 #[.slice a len cap, .int .i64 i, .int .u32 x] w fun e w' => e = .returned (.bool false) ∧ w = w' := by
  go_enter Try.func44, Try.ntmps44
  go_wp2_with (go_at_call 58; refine (hasWord_no _ _ _ _ _ h hl).mono ?_; rintro e w' ⟨rfl, rfl⟩)
  go_ret
  exact ⟨rfl, rfl⟩
/-- A world in which a word's bytes were put into a row. -/
def set4 (w : World) (b i : Nat) (x : Int) : World :=
  (((w.setCell ⟨b, i, none⟩ (.int .u8 (x % 256))).setCell ⟨b, i + 1, none⟩ (.int .u8 (x / 256 % 256))).setCell ⟨b, i + 2, none⟩ (.int .u8 (x / 65536 % 256))).setCell ⟨b, i + 3, none⟩ (.int .u8 (x / 16777216))
/-- A word's byte. -/
def byte4 (x : Int) : Nat → Int
  | 0 => x % 256
  | 1 => x / 256 % 256
  | 2 => x / 65536 % 256
  | _ => x / 16777216
/-- A row's values, a word's bytes having been put into it. -/
def put4 (f : Nat → Value) (i : Nat) (x : Int) (j : Nat) : Value := if i ≤ j ∧ j < i + 4 then .int .u8 (byte4 x (j - i)) else f j
theorem set4_row {w : World} {b n i : Nat} {t : TypeId} {f : Nat → Value} (h : w.rowIs b t n f) (x : Int) : (set4 w b i x).rowIs b t n (put4 f i x) := by
  refine ((((h.set i _).set (i + 1) _).set (i + 2) _).set (i + 3) _).congr ?_
  intro j _
  unfold put4
  by_cases h3 : j = i + 3
  · subst h3
    rw [if_pos rfl, if_pos (by omega), show i + 3 - i = 3 by omega]
    rfl
  · rw [if_neg h3]
    by_cases h2 : j = i + 2
    · subst h2
      rw [if_pos rfl, if_pos (by omega), show i + 2 - i = 2 by omega]
      rfl
    · rw [if_neg h2]
      by_cases h1 : j = i + 1
      · subst h1
        rw [if_pos rfl, if_pos (by omega), show i + 1 - i = 1 by omega]
        rfl
      · rw [if_neg h1]
        by_cases h0 : j = i
        · subst h0
          rw [if_pos rfl, if_pos (by omega), Nat.sub_self]
          rfl
        · rw [if_neg h0, if_neg (by omega)]
theorem set4_below {B : Nat} {a w : World} (h : Below B a w) {b : Nat} (hb : B ≤ b) (i : Nat) (x : Int) : Below B a (set4 w b i x) :=
  (((h.setCell hb _).setCell hb _).setCell hb _).setCell hb _
theorem set4_size (w : World) (b i : Nat) (x : Int) : (set4 w b i x).heap.size = w.heap.size := by simp [set4]
theorem set4_other (w : World) (b i k : Nat) (x : Int) (h : k ≠ b) : (set4 w b i x).heap[k]? = w.heap[k]? := by
  unfold set4
  rw [Below.heap_setCell _ _ _ _ h, Below.heap_setCell _ _ _ _ h, Below.heap_setCell _ _ _ _ h, Below.heap_setCell _ _ _ _ h]
theorem info5 : (Try.prog.info? 5).map (fun i => (i.zero, i.size, i.bytes)) = some (some (.int .u8 0), 1, 1) := by kernel_rfl
/-- Bytes, as values. -/
def vs (zs : List Int) : List Value := zs.map (Value.int .u8)
/-- A slice that came in reads as a list of bytes. -/
def Reads (w : World) (pa : Option Addr) (n : Nat) (zs : List Int) : Prop :=
  zs.length = n ∧ (0 < n → ∃ b off, pa = some ⟨b, off, none⟩ ∧ ∀ j, j < n → w.cell? ⟨b, off + j, none⟩ = some (.int .u8 (zs.getD j 0)))
theorem add_eq (b off j : Nat) : (⟨b, off, none⟩ : Addr).add j = ⟨b, off + j, none⟩ := by unfold Addr.add; split <;> simp_all
theorem four_any (x : Int) (w : World) (x0 : 0 ≤ x) (x1 : x < 4294967296) :
    Calls Try.prog 47 #[.int .u32 x] w fun e w' => e = .returned (.slice (some ⟨w.heap.size, 0, none⟩) 4 4) ∧ w' = w.alloc (.cells #[.int .u8 (byte4 x 0), .int .u8 (byte4 x 1), .int .u8 (byte4 x 2), .int .u8 (byte4 x 3)] 5) := by
  go_enter Try.func47, Try.ntmps47
  go_wp2
  go_ret
  exact ⟨rfl, rfl⟩
/-- The document's own Get. -/
theorem rget_no (a : Option Addr) (len cap : Nat) (i : Int) (w : World) (h : ¬ (0 ≤ i ∧ i ≤ len - 4)) (hl : len ≤ 1000000) :
    Calls Try.prog 36 #[.slice a len cap, .int .i64 i] w fun e w' => e = .returned (.tuple #[.int .u32 0, .bool false]) ∧ w = w' := by
  by_cases h0 : i < 0
  · have d : decide (i < 0) = true := by simpa using h0
    clear h
    go_enter Try.func36, Try.ntmps36
    go_wp2
    go_ret2
    exact ⟨rfl, rfl⟩
  · have d : decide (i < 0) = false := by simpa using h0
    have h1 : (len : Int) - 4 < i := by omega
    have d2 : decide ((len : Int) - 4 < i) = true := by simpa using h1
    clear h
    go_enter Try.func36, Try.ntmps36
    go_wp2
    go_ret2
    exact ⟨rfl, rfl⟩
theorem rget_yes (b off len cap : Nat) (i : Int) (z0 z1 z2 z3 : Int) (w : World) (h0 : 0 ≤ i) (h : i + 4 ≤ len) (hl : len ≤ 1000000)
    (k0 : B8 z0) (k1 : B8 z1) (k2 : B8 z2) (k3 : B8 z3)
    (c0 : w.cell? ⟨b, off + i.toNat, none⟩ = some (.int .u8 z0)) (c1 : w.cell? ⟨b, off + (i.toNat + 1), none⟩ = some (.int .u8 z1))
    (c2 : w.cell? ⟨b, off + (i.toNat + 2), none⟩ = some (.int .u8 z2)) (c3 : w.cell? ⟨b, off + (i.toNat + 3), none⟩ = some (.int .u8 z3)) :
    Calls Try.prog 36 #[.slice (some ⟨b, off, none⟩) len cap, .int .i64 i] w fun e w' => e = .returned (.tuple #[.int .u32 (word4 z0 z1 z2 z3), .bool true]) ∧ w = w' := by
  obtain ⟨i, rfl⟩ := Int.eq_ofNat_of_zero_le h0
  rw [Int.toNat_natCast] at c0 c1 c2 c3
  obtain ⟨a0, b0⟩ := k0; obtain ⟨a1, b1⟩ := k1; obtain ⟨a2, b2⟩ := k2; obtain ⟨a3, b3⟩ := k3
  have d : decide ((i : Int) < 0) = false := by simp
  have d2 : decide ((len : Int) - 4 < (i : Int)) = false := by simp; omega
  go_enter Try.func36, Try.ntmps36
  go_wp2
  go_loop [6, 7] (fun t j => (t = .int .u32 0 ∧ j = .int .i64 3) ∨ (t = .int .u32 z3 ∧ j = .int .i64 2) ∨ (t = .int .u32 (z3 * 256 + z2) ∧ j = .int .i64 1) ∨ (t = .int .u32 ((z3 * 256 + z2) * 256 + z1) ∧ j = .int .i64 0) ∨ (t = .int .u32 (((z3 * 256 + z2) * 256 + z1) * 256 + z0) ∧ j = .int .i64 (-1))) (fun _ j => (intOf j + 1).toNat)
  case atStart => exact Or.inl ⟨rfl, rfl⟩
  case round =>
    rcases hrel with ⟨rfl, rfl⟩ | ⟨rfl, rfl⟩ | ⟨rfl, rfl⟩ | ⟨rfl, rfl⟩ | ⟨rfl, rfl⟩
    · go_wp2
      go_round
      case rel => exact Or.inr (Or.inl ⟨rfl, rfl⟩)
      case measure => simp [intOf]
    · go_wp2
      go_round
      case rel => exact Or.inr (Or.inr (Or.inl ⟨rfl, rfl⟩))
      case measure => simp [intOf]
    · go_wp2
      go_round
      case rel => exact Or.inr (Or.inr (Or.inr (Or.inl ⟨rfl, rfl⟩)))
      case measure => simp [intOf]
    · go_wp2
      go_round
      case rel => exact Or.inr (Or.inr (Or.inr (Or.inr ⟨rfl, rfl⟩)))
      case measure => simp [intOf]
    · go_wp2
      go_ret2
      exact ⟨ret_u32b (by unfold word4; omega), rfl⟩

/-- A row's bytes, a word having been put in. -/
def putw (z : Nat → Int) (i : Nat) (x : Int) (j : Nat) : Int := if i ≤ j ∧ j < i + 4 then byte4 x (j - i) else z j
theorem byte4_8 (x : Int) (k : Nat) (x0 : 0 ≤ x) (x1 : x < 4294967296) : B8 (byte4 x k) := by
  unfold B8
  match k with
  | 0 => show 0 ≤ x % 256 ∧ x % 256 < 256; omega
  | 1 => show 0 ≤ x / 256 % 256 ∧ x / 256 % 256 < 256; omega
  | 2 => show 0 ≤ x / 65536 % 256 ∧ x / 65536 % 256 < 256; omega
  | (k + 3) => show 0 ≤ x / 16777216 ∧ x / 16777216 < 256; omega
theorem set4_rowN {w : World} {b N i : Nat} {z : Nat → Int} (h : Row w b N z) (hi : i + 4 ≤ N) (x : Int) (x0 : 0 ≤ x) (x1 : x < 4294967296) : Row (set4 w b i x) b N (putw z i x) := by
  refine ((((h.set i _ (by omega) (byte4_8 x 0 x0 x1)).set (i + 1) _ (by omega) (byte4_8 x 1 x0 x1)).set (i + 2) _ (by omega) (byte4_8 x 2 x0 x1)).set (i + 3) _ (by omega) (byte4_8 x 3 x0 x1)).congr ?_
  intro j _
  unfold putw put1
  by_cases h3 : j = i + 3
  · subst h3
    rw [if_pos rfl, if_pos (by omega), show i + 3 - i = 3 by omega]
  · rw [if_neg h3]
    by_cases h2 : j = i + 2
    · subst h2
      rw [if_pos rfl, if_pos (by omega), show i + 2 - i = 2 by omega]
    · rw [if_neg h2]
      by_cases h1 : j = i + 1
      · subst h1
        rw [if_pos rfl, if_pos (by omega), show i + 1 - i = 1 by omega]
      · rw [if_neg h1]
        by_cases h0 : j = i
        · subst h0
          rw [if_pos rfl, if_pos (by omega), Nat.sub_self]
        · rw [if_neg h0, if_neg (by omega)]
theorem set4_only {S : List Nat} (w : World) {b : Nat} (hb : b ∈ S) (i : Nat) (x : Int) : Only S w (set4 w b i x) :=
  (((Only.setCell _ hb _ _).trans (Only.setCell _ hb _ _)).trans (Only.setCell _ hb _ _)).trans (Only.setCell _ hb _ _)
theorem set_off (b off len cap N i : Nat) (z : Nat → Int) (x : Int) (w : World) (hrow : Row w b N z) (h : i + 4 ≤ len) (hn : off + len ≤ N) (hl : len ≤ 9223372036854775807) (x0 : 0 ≤ x) (x1 : x < 4294967296) :
    Calls Try.prog 44 #[.slice (some ⟨b, off, none⟩) len cap, .int .i64 i, .int .u32 x] w fun e w' => e = .returned (.bool true) ∧ w' = set4 w b (off + i) x := by
  have c0 := hrow.cell (off + i) (by omega)
  have c1 := hrow.cell (off + (i + 1)) (by omega)
  have c2 := hrow.cell (off + (i + 2)) (by omega)
  have c3 := hrow.cell (off + (i + 3)) (by omega)
  have f0 := hrow.free (off + i) (by omega)
  have f1 := hrow.free (off + (i + 1)) (by omega)
  have f2 := hrow.free (off + (i + 2)) (by omega)
  have f3 := hrow.free (off + (i + 3)) (by omega)
  clear hrow
  go_enter Try.func44, Try.ntmps44
  go_wp2_with (go_at_call 58; refine (hasWord_yes _ _ _ _ _ (by omega) (by omega) hl).mono ?_; rintro e w' ⟨rfl, rfl⟩)
  go_ret
  exact ⟨rfl, rfl⟩
/-- Are two rows of bytes the same, as far as n goes? -/
def eqN (n : Nat) (z z' : Nat → Int) : Bool := decide (∀ j, j < n → z j = z' j)
theorem eqN_yes {n : Nat} {z z' : Nat → Int} (h : ∀ j, j < n → z j = z' j) : eqN n z z' = true := by unfold eqN; simpa using h
theorem eqN_no {n : Nat} {z z' : Nat → Int} (j : Nat) (hj : j < n) (h : z j ≠ z' j) : eqN n z z' = false := by
  unfold eqN
  rw [decide_eq_false_iff_not]
  exact fun x => h (x j hj)
/-- A slice of integers reads as a list. -/
def ReadsI (w : World) (pa : Option Addr) (l : List Nat) : Prop := 0 < l.length → ∃ b off, pa = some ⟨b, off, none⟩ ∧ ∀ j, j < l.length → w.cell? ⟨b, off + j, none⟩ = some (.int .i64 (l.getD j 0 : Nat))
end Ph
end Go.Proofs.Ytdjglmfilhodlaa
