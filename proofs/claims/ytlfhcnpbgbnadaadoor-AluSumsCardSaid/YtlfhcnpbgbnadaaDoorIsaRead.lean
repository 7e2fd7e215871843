/-
  What isa's find, takeNumber, takeReg, guess and Read answer, at every argument; the conditions: the tables that the program's text lays lie so.
-/
import Derived.Test.YtlfhcnpbgbnadaaDoorIsaParse
namespace Go.Proofs.YtlfhcnpbgbnadaaDoor
open Go.RowKit Isa

theorem idx_cases (c : UInt8) : ∀ l : List UInt8, (Lib.indexByte l c = -1 ∧ ∀ x ∈ l, x ≠ c) ∨ (∃ i : Nat, Lib.indexByte l c = (i : Int) ∧ i < l.length ∧ cutL c l = (l.take i, l.drop (i + 1)))
  | [] => Or.inl ⟨rfl, by simp⟩
  | b :: l => by
    by_cases h : b = c
    · subst h
      exact Or.inr ⟨0, by simp [Lib.indexByte], by simp, by simp [cutL]⟩
    · have hb : (b == c) = false := by simpa using h
      rcases idx_cases c l with ⟨h1, h2⟩ | ⟨i, h1, h2, h3⟩
      · exact Or.inl ⟨by simp [Lib.indexByte, hb, h1], fun x hx => by rcases List.mem_cons.1 hx with rfl | hx; exact h; exact h2 x hx⟩
      · refine Or.inr ⟨i + 1, ?_, by simp; omega, ?_⟩
        · have : ((i : Int) == -1) = false := by simp
          simp [Lib.indexByte, hb, h1, this]
        · unfold cutL at h3 ⊢
          have hb2 : (b != c) = true := by simpa using h
          simp only [Prod.mk.injEq] at h3
          simp only [List.takeWhile_cons, List.dropWhile_cons, hb2, if_true, List.take_succ_cons, List.drop_succ_cons, h3.1, h3.2]
def CutPost (c : UInt8) (l : List UInt8) (w : World) (e : Ending) (w' : World) : Prop :=
  ∃ f : Bool, e = .returned (.tuple #[.string (bs (cutL c l).1), .string (bs (cutL c l).2), .bool f]) ∧ ∃ k, w' = w.drewN k
theorem lcut_no (s : ByteArray) (c : UInt8) (w : World) (h : Lib.indexByte s.data.toList c = -1) :
    Calls Tryd.prog 61 #[.string s, .string ⟨#[c]⟩] w fun e w' => e = .returned (.tuple #[.string s, .string ⟨#[]⟩, .bool false]) ∧ w = w' := by
  go_enter Tryd.func61, Tryd.ntmps61
  go_wp2_with (go_at_call 67; refine (Tryd.stringslite_Index_one _ _ _).mono ?_; rintro e w' ⟨rfl, rfl⟩)
  go_ret3
  exact ⟨rfl, rfl⟩
theorem lcut_yes (s : ByteArray) (c : UInt8) (w : World) (i : Nat) (hs : s.size ≤ 9223372036854775807) (h : Lib.indexByte s.data.toList c = (i : Int)) (hi : i < s.size) :
    Calls Tryd.prog 61 #[.string s, .string ⟨#[c]⟩] w fun e w' => e = .returned (.tuple #[.string (s.extract 0 i), .string (s.extract (i + 1) s.size), .bool true]) ∧ ∃ k, w' = w.drewN k := by
  go_enter Tryd.func61, Tryd.ntmps61
  go_wp2_with (go_at_call 67; refine (Tryd.stringslite_Index_one _ _ _).mono ?_; rintro e w' ⟨rfl, rfl⟩)
  go_quiet (fail)
  go_wp2
  go_ret3
  exact ⟨rfl, _, rfl⟩
theorem ba_len (s : ByteArray) : s.data.toList.length = s.size := by rw [Array.length_toList]; rfl
theorem ext_left (s : ByteArray) (i : Nat) : s.extract 0 i = bs (s.data.toList.take i) := by
  apply ByteArray.ext
  rw [ByteArray.data_extract]
  apply Array.toList_inj.1
  rw [Array.toList_extract, List.extract_eq_take_drop]
  simp only [bs, Nat.sub_zero, List.drop_zero]
theorem ext_right (s : ByteArray) (i : Nat) : s.extract i s.size = bs (s.data.toList.drop i) := by
  apply ByteArray.ext
  rw [ByteArray.data_extract]
  apply Array.toList_inj.1
  rw [Array.toList_extract, List.extract_eq_take_drop]
  simp only [bs]
  rw [List.take_of_length_le (by rw [List.length_drop, ba_len]; exact Nat.le_refl _)]
theorem cut_any (s : ByteArray) (c : UInt8) (w : World) (hs : s.size ≤ 9223372036854775807) :
    Calls Tryd.prog 56 #[.string s, .string ⟨#[c]⟩] w (CutPost c s.data.toList w) := by
  rcases idx_cases c s.data.toList with ⟨h1, h2⟩ | ⟨i, h1, h2, h3⟩
  · have hp : Hid (CutPost c s.data.toList w (.returned (.tuple #[.string s, .string ⟨#[]⟩, .bool false])) w) := Lib.hid ⟨false, by rw [cutL_all c _ h2]; simp only [bs_self]; rfl, 0, rfl⟩
    go_enter Tryd.func56, Tryd.ntmps56
    go_wp2_with (go_at_call 61; refine (lcut_no _ _ _ h1).mono ?_; rintro e w' ⟨rfl, rfl⟩)
    go_ret3
    exact hp.out
  · have hi : i < s.size := by rw [ba_len] at h2; exact h2
    have hp : Hid (∀ k, CutPost c s.data.toList w (.returned (.tuple #[.string (s.extract 0 i), .string (s.extract (i + 1) s.size), .bool true])) (w.drewN k)) := Lib.hid fun k => ⟨true, by rw [h3, ext_left, ext_right], k, rfl⟩
    go_enter Tryd.func56, Tryd.ntmps56
    go_wp2_with (go_at_call 61; refine (lcut_yes _ _ _ i hs h1 hi).mono ?_; rintro e w' ⟨rfl, k, rfl⟩)
    go_ret3
    exact hp.out _
/-- Is it what Atoi answers? -/
def AtoiPost (l : List UInt8) (w : World) (e : Ending) (w' : World) : Prop := ∃ ev : Value, e = .returned (.tuple #[.int .i64 (atoiN l), ev]) ∧ Below w.heap.size w w'
theorem atoi_any (s : ByteArray) (w : World) (hE : Env w) (hs : s.size ≤ 140737488355328) :
    Calls Tryd.prog 69 #[.string s] w (AtoiPost s.data.toList w) := by
  obtain ⟨_, _, ⟨e1, c1, k1⟩, ⟨e2, c2, k2⟩⟩ := hE
  match h : Lib.atoiAll s.data.toList with
  | .ok v =>
    refine (Tryd.strconv_Atoi_ok s (by omega) v h w).mono ?_
    rintro e w' ⟨rfl, rfl | ⟨t, rfl⟩⟩
    · exact ⟨.nilIface, by simp only [atoiN, h], Below.refl _ _⟩
    · exact ⟨.nilIface, by simp only [atoiN, h], Go.Joins.below_bytesWorld _ _ _ _ (Nat.le_refl _)⟩
  | Lib.NumEnd.syntax =>
    refine (Tryd.strconv_Atoi_syntax s (by omega) h e1 w c1 k1).mono ?_
    rintro e w' ⟨N, rfl, _, _, hb⟩
    exact ⟨.iface _ (.pointer (some ⟨N, 0, none⟩)), by simp only [atoiN, h]; rfl, hb⟩
  | .range =>
    refine (Tryd.strconv_Atoi_range s (by omega) h e2 w c2 k2).mono ?_
    rintro e w' ⟨N, rfl, _, _, hb⟩
    exact ⟨.iface _ (.pointer (some ⟨N, 0, none⟩)), by simp only [atoiN, h]; rfl, hb⟩
theorem atoiN_bounds (l : List UInt8) : -9223372036854775808 ≤ atoiN l ∧ atoiN l ≤ 9223372036854775807 := by
  unfold atoiN
  match h : Lib.atoiAll l with
  | .ok v => exact Lib.atoiAll_bounds h
  | Lib.NumEnd.syntax => simp
  | .range => simp only [Lib.atoiSat]; split <;> omega
theorem cutL_len (c : UInt8) (l : List UInt8) : (cutL c l).1.length ≤ l.length ∧ (cutL c l).2.length ≤ l.length := by
  unfold cutL
  refine ⟨List.Sublist.length_le (List.takeWhile_sublist _), ?_⟩
  simp only [List.length_drop]
  have := List.Sublist.length_le (List.dropWhile_sublist (l := l) (fun x => x != c))
  omega
theorem takeNumber_any (s : ByteArray) (w : World) (hE : Env w) (hs : s.size ≤ 140737488355328) :
    Calls Tryd.prog 64 #[.string s] w fun e w' => e = .returned (.tuple #[.int .i64 (tkN s.data.toList).1, .string (bs (tkN s.data.toList).2)]) ∧ Below w.heap.size w w' := by
  have HE := Lib.hid hE
  have hl : (bs (cutL 32 s.data.toList).1).size ≤ 140737488355328 := by
    rw [bs_size]; have := (cutL_len 32 s.data.toList).1; rw [ba_len] at this; omega
  clear hE
  go_enter Tryd.func64, Tryd.ntmps64
  go_wp2_with fail
  refine (cut_any _ _ _ (by omega)).mono ?_
  rintro e w1 ⟨f, rfl, k, rfl⟩
  go_wp2_with fail
  refine (atoi_any _ _ (HE.out.drewN _) hl).mono ?_
  rintro e w1 ⟨ev, rfl, hb⟩
  go_wp2
  go_ret2
  exact ⟨rfl, (below_drewN (Below.refl _ _) _).trans hb⟩
theorem trim_len (l : List UInt8) : (Lib.trimPrefix l [114]).length ≤ l.length := by
  unfold Lib.trimPrefix; split <;> simp
theorem takeReg_any (s : ByteArray) (w : World) (hE : Env w) (hs : s.size ≤ 140737488355328) :
    Calls Tryd.prog 63 #[.string s] w fun e w' => e = .returned (.tuple #[.int .i64 (tkR s.data.toList).1, .string (bs (tkR s.data.toList).2)]) ∧ Below w.heap.size w w' := by
  have HE := Lib.hid hE
  have hl : (bs (Lib.trimPrefix s.data.toList [114])).size ≤ 140737488355328 := by
    rw [bs_size]; have := trim_len s.data.toList; rw [ba_len] at this; omega
  clear hE
  go_enter Tryd.func63, Tryd.ntmps63
  go_wp2_with fail
  refine (Tryd.strings_TrimPrefix _ _ _).mono ?_
  rintro e w1 ⟨rfl, rfl⟩
  go_wp2_with fail
  refine (takeNumber_any (bs (Lib.trimPrefix s.data.toList [114])) _ HE.out hl).mono ?_
  rintro e w1 ⟨rfl, hb⟩
  go_wp2
  go_ret2
  exact ⟨rfl, hb⟩
theorem str_ne {a b : ByteArray} (h : ¬ a = b) : (a.toList == b.toList) = false := by
  rw [Go.ByteArray.toList_eq, Go.ByteArray.toList_eq]
  simp only [beq_eq_false_iff_ne]
  exact fun e => h (by rw [← bs_self a, ← bs_self b, e])
theorem str_eq {a b : ByteArray} (h : a = b) : (a.toList == b.toList) = true := by subst h; simp
/-- Is it what find answers? -/
def findV (l : List UInt8) : Value := match findN l with
  | some k => .tuple #[.int .i64 k, .bool true]
  | none => .tuple #[.int .i64 0, .bool false]
theorem findN_hit (k : Nat) (l : List UInt8) (hk : k < 28) (h : opN k = l) (hno : ∀ j, j < k → opN j ≠ l) : findN l = some k := by subst h; exact findN_opN k hk
theorem findN_miss (l : List UInt8) (hno : ∀ j, j < 28 → opN j ≠ l) : findN l = none := by
  unfold findN
  rw [List.find?_eq_none]
  intro x hx
  simpa using hno x (by simpa using hx)
theorem find_any (s : ByteArray) (w : World) (hO : OpsIn w) :
    Calls Tryd.prog 62 #[.string s] w fun e w' => e = .returned (findV s.data.toList) ∧ w = w' := by
  have HO := Lib.hid hO
  clear hO
  go_enter Tryd.func62, Tryd.ntmps62
  go_wp2
  go_loop [4, 5] (fun _ i => ∃ k : Nat, k ≤ 28 ∧ i = .int .i64 k ∧ Hid (∀ j, j < k → opN j ≠ s.data.toList)) (fun _ i => 28 - (intOf i).toNat)
  case atStart => exact ⟨0, by omega, rfl, Lib.hid (fun j hj => by omega)⟩
  case round =>
    obtain ⟨k, hk, rfl, hno⟩ := hrel
    by_cases hlt : k < 28
    · obtain ⟨c0, c1, c2, c3⟩ := HO.out k hlt
      clear c1 c2 c3
      by_cases he : opN k = s.data.toList
      · have e1 : opS k = s := by show bs (opN k) = s; rw [he, bs_self]
        have hV := Lib.hid (show findV s.data.toList = .tuple #[.int .i64 k, .bool true] by unfold findV; rw [findN_hit k _ hlt he hno.out])
        rw [e1] at c0
        clear he e1
        go_wp2
        go_ret2
        exact ⟨by rw [hV.out]; rfl, rfl⟩
      · have e1 : ¬ opS k = s := fun e => he (by rw [← e]; rfl)
        have HN := Lib.hid (show ∀ j, j < k + 1 → opN j ≠ s.data.toList from fun j hj => by
          by_cases hj2 : j = k
          · subst hj2; exact he
          · exact hno.out j (by omega))
        clear he
        replace e1 := str_ne e1
        go_wp2
        go_round
        case rel => exact ⟨k + 1, by omega, by go_num, HN⟩
        case measure => simp [intOf]; omega
    · have hV := Lib.hid (show findV s.data.toList = .tuple #[.int .i64 0, .bool false] by unfold findV; rw [findN_miss _ (fun j hj => hno.out j (by omega))])
      go_wp2
      go_ret2
      exact ⟨by rw [hV.out]; rfl, rfl⟩
theorem takeRegL (l : List UInt8) (w : World) (hE : Env w) (hl : l.length ≤ 140737488355328) :
    Calls Tryd.prog 63 #[.string (bs l)] w fun e w' => e = .returned (.tuple #[.int .i64 (tkR l).1, .string (bs (tkR l).2)]) ∧ Below w.heap.size w w' := takeReg_any (bs l) w hE (by rw [bs_size]; exact hl)
theorem takeNumberL (l : List UInt8) (w : World) (hE : Env w) (hl : l.length ≤ 140737488355328) :
    Calls Tryd.prog 64 #[.string (bs l)] w fun e w' => e = .returned (.tuple #[.int .i64 (tkN l).1, .string (bs (tkN l).2)]) ∧ Below w.heap.size w w' := takeNumber_any (bs l) w hE (by rw [bs_size]; exact hl)
theorem tkN_len (l : List UInt8) : (tkN l).2.length ≤ l.length := (cutL_len 32 l).2
theorem tkR_len (l : List UInt8) : (tkR l).2.length ≤ l.length := Nat.le_trans (tkN_len _) (trim_len l)
/-- A block of four cells, known whole. -/
def Box4 (w : World) (b : Nat) (v0 v1 v2 v3 : Value) : Prop :=
  (w.cell? ⟨b, 0, none⟩ = some v0 ∧ w.cell? ⟨b, 1, none⟩ = some v1 ∧ w.cell? ⟨b, 2, none⟩ = some v2 ∧ w.cell? ⟨b, 3, none⟩ = some v3) ∧
  (w.frozen? ⟨b, 0, none⟩ = false ∧ w.frozen? ⟨b, 1, none⟩ = false ∧ w.frozen? ⟨b, 2, none⟩ = false ∧ w.frozen? ⟨b, 3, none⟩ = false)
theorem Box4.kept {w w' : World} {b : Nat} {v0 v1 v2 v3 : Value} (h : Box4 w b v0 v1 v2 v3) (hb : Below w.heap.size w w') : Box4 w' b v0 v1 v2 v3 := by
  obtain ⟨⟨a0, a1, a2, a3⟩, f0, f1, f2, f3⟩ := h
  have l := World.block_lt_of_cell? _ _ a0
  exact ⟨⟨keep hb a0, keep hb a1, keep hb a2, keep hb a3⟩, (hb.frozen (p := ⟨b, 0, none⟩) l).trans f0, (hb.frozen (p := ⟨b, 1, none⟩) l).trans f1, (hb.frozen (p := ⟨b, 2, none⟩) l).trans f2, (hb.frozen (p := ⟨b, 3, none⟩) l).trans f3⟩
theorem Box4.set1 {w : World} {b : Nat} {v0 v1 v2 v3 : Value} (h : Box4 w b v0 v1 v2 v3) (v : Value) : Box4 (w.setCell ⟨b, 1, none⟩ v) b v0 v v2 v3 := by
  obtain ⟨⟨a0, a1, a2, a3⟩, f0, f1, f2, f3⟩ := h
  exact ⟨⟨(World.cell?_setCell_other _ _ _ _ (by simp)).trans a0, World.cell?_setCell_same _ _ _ a1, (World.cell?_setCell_other _ _ _ _ (by simp)).trans a2, (World.cell?_setCell_other _ _ _ _ (by simp)).trans a3⟩, by rw [World.frozen?_setCell]; exact f0, by rw [World.frozen?_setCell]; exact f1, by rw [World.frozen?_setCell]; exact f2, by rw [World.frozen?_setCell]; exact f3⟩
theorem Box4.set2 {w : World} {b : Nat} {v0 v1 v2 v3 : Value} (h : Box4 w b v0 v1 v2 v3) (v : Value) : Box4 (w.setCell ⟨b, 2, none⟩ v) b v0 v1 v v3 := by
  obtain ⟨⟨a0, a1, a2, a3⟩, f0, f1, f2, f3⟩ := h
  exact ⟨⟨(World.cell?_setCell_other _ _ _ _ (by simp)).trans a0, (World.cell?_setCell_other _ _ _ _ (by simp)).trans a1, World.cell?_setCell_same _ _ _ a2, (World.cell?_setCell_other _ _ _ _ (by simp)).trans a3⟩, by rw [World.frozen?_setCell]; exact f0, by rw [World.frozen?_setCell]; exact f1, by rw [World.frozen?_setCell]; exact f2, by rw [World.frozen?_setCell]; exact f3⟩
theorem Box4.set3 {w : World} {b : Nat} {v0 v1 v2 v3 : Value} (h : Box4 w b v0 v1 v2 v3) (v : Value) : Box4 (w.setCell ⟨b, 3, none⟩ v) b v0 v1 v2 v := by
  obtain ⟨⟨a0, a1, a2, a3⟩, f0, f1, f2, f3⟩ := h
  exact ⟨⟨(World.cell?_setCell_other _ _ _ _ (by simp)).trans a0, (World.cell?_setCell_other _ _ _ _ (by simp)).trans a1, (World.cell?_setCell_other _ _ _ _ (by simp)).trans a2, World.cell?_setCell_same _ _ _ a3⟩, by rw [World.frozen?_setCell]; exact f0, by rw [World.frozen?_setCell]; exact f1, by rw [World.frozen?_setCell]; exact f2, by rw [World.frozen?_setCell]; exact f3⟩
theorem Box4.other {w : World} {b : Nat} {v0 v1 v2 v3 : Value} (h : Box4 w b v0 v1 v2 v3) {p : Addr} (hp : p.block ≠ b) (v : Value) : Box4 (w.setCell p v) b v0 v1 v2 v3 := by
  obtain ⟨⟨a0, a1, a2, a3⟩, f0, f1, f2, f3⟩ := h
  have o : ∀ j, (w.setCell p v).cell? ⟨b, j, none⟩ = w.cell? ⟨b, j, none⟩ := fun j => World.cell?_setCell_other _ _ _ _ (fun e => hp (by rw [e]))
  exact ⟨⟨(o 0).trans a0, (o 1).trans a1, (o 2).trans a2, (o 3).trans a3⟩, by rw [World.frozen?_setCell]; exact f0, by rw [World.frozen?_setCell]; exact f1, by rw [World.frozen?_setCell]; exact f2, by rw [World.frozen?_setCell]; exact f3⟩
theorem Box4.new (w : World) (v0 v1 v2 v3 : Value) (t : TypeId) : Box4 (w.alloc (.cells #[v0, v1, v2, v3] t)) w.heap.size v0 v1 v2 v3 := by
  refine ⟨⟨?_, ?_, ?_, ?_⟩, ?_, ?_, ?_, ?_⟩ <;> simp
theorem Box4.box {w : World} {b : Nat} {v0 v1 v2 v3 : Value} (h : Box4 w b v0 v1 v2 v3) (o : Obj) : Box4 (w.alloc o) b v0 v1 v2 v3 := h.kept ((Below.refl _ _).alloc (Nat.le_refl _) _)
theorem Box4.drewN {w : World} {b : Nat} {v0 v1 v2 v3 : Value} (h : Box4 w b v0 v1 v2 v3) (k : Nat) : Box4 (w.drewN k) b v0 v1 v2 v3 := h.kept (below_drewN (Below.refl _ _) k)
theorem Box4.lt {w : World} {b : Nat} {v0 v1 v2 v3 : Value} (h : Box4 w b v0 v1 v2 v3) : b < w.heap.size := World.block_lt_of_cell? _ _ h.1.1
theorem Box4.four {w : World} {b : Nat} {v0 v1 v2 v3 : Value} (h : Box4 w b v0 v1 v2 v3) : Four w b := by
  obtain ⟨⟨a0, a1, a2, a3⟩, _⟩ := h
  intro j hj
  have : j = 0 ∨ j = 1 ∨ j = 2 ∨ j = 3 := by omega
  rcases this with rfl | rfl | rfl | rfl
  · rw [a0]; rfl
  · rw [a1]; rfl
  · rw [a2]; rfl
  · rw [a3]; rfl
end Go.Proofs.YtlfhcnpbgbnadaaDoor
