/-
  What isa.Assemble answers, at every text of at most 2^20 bytes; the conditions: the tables that the program's text lays lie so.
-/
import Derived.Test.YtlfhcnpbgbnadaaDoorIsaLines
import Derived.Test.YtlfhcnpbgbnadaaDoorIsaBytes
namespace Go.Proofs.YtlfhcnpbgbnadaaDoor
open Go.RowKit Go.Shelf Isa

/-- Does a line stand for no instruction? -/
def silentB : List UInt8 → Bool
  | [] => true
  | c :: _ => c == 35
theorem silent_nil (w : World) : Calls Tryd.prog 43 #[.string (bs [])] w fun e w' => e = .returned (.bool true) ∧ w = w' := by
  have e0 : (bs []).toList = [] := by rw [Go.ByteArray.toList_eq]; rfl
  go_enter Tryd.func43, Tryd.ntmps43
  go_wp2
  go_ret
  exact ⟨rfl, rfl⟩
theorem byte_eq (c d : UInt8) : (((c.toNat : Nat) : Int) == ((d.toNat : Nat) : Int)) = (c == d) := by
  rw [Bool.eq_iff_iff]
  simp only [beq_iff_eq, ← UInt8.toNat_inj]
  omega
theorem ret_bool {a b : Bool} (h : a = b) : Ending.returned (.bool a) = .returned (.bool b) := by rw [h]
theorem silent_cons (c : UInt8) (l : List UInt8) (w : World) : Calls Tryd.prog 43 #[.string (bs (c :: l))] w fun e w' => e = .returned (.bool (c == 35)) ∧ w = w' := by
  have e0 : ¬ (bs (c :: l)).toList = [] := by rw [Go.ByteArray.toList_eq]; simp [bs]
  have e1 : (bs (c :: l)).toList.isEmpty = false := by rw [Go.ByteArray.toList_eq, bs_toList]; rfl
  have e2 : (bs (c :: l)).size = l.length + 1 := by rw [bs_size]; rfl
  go_enter Tryd.func43, Tryd.ntmps43
  go_wp2
  go_ret
  exact ⟨ret_bool (byte_eq c 35), rfl⟩
theorem silent_any (l : List UInt8) (w : World) : Calls Tryd.prog 43 #[.string (bs l)] w fun e w' => e = .returned (.bool (silentB l)) ∧ w = w' := by
  cases l with
  | nil => exact silent_nil w
  | cons c l => exact silent_cons c l w
/-- The word that a line stands for. -/
def wordX (l : List UInt8) : Option Int := if silentB l then none else (readO l).map (fun x => enc x.1 x.2.1 x.2.2.1 x.2.2.2)
/-- Is a line wrong? -/
def badX (x : Nat × List UInt8) : Bool := !silentB x.2 && (readO x.2).isNone
def wordsOf (xs : List (Nat × List UInt8)) : List Int := xs.filterMap (fun x => wordX x.2)
theorem lines_any (s : ByteArray) (w : World) :
    Calls Tryd.prog 42 #[.string s] w fun e w' => e = .returned (.func (.func 55) #[] #[.pointer (some ⟨w.heap.size, 0, none⟩)]) ∧ w' = w.alloc (.cells #[.string s] 9) := by
  go_enter Tryd.func42, Tryd.ntmps42
  go_wp2
  go_ret
  exact ⟨rfl, rfl⟩
theorem grown_of {W W' : World} (hb : Below W.heap.size W W') : W.grownBy W' none := ⟨hb.os, hb.tape, hb.output, hb.size, fun k hk _ => hb.block k hk⟩
theorem others_of {W W' : World} (hb : Below W.heap.size W W') : KeepsOthers W W' := ⟨hb.size, fun k _ hk _ => (hb.block k (Array.getElem?_eq_some_iff.1 hk).1).trans hk⟩
theorem boxed_of {W W' : World} {B : Nat} {t : TypeId} {v : Value} (h : Boxed W B t v) (hb : Below W.heap.size W W') : Boxed W' B t v := h.kept (grown_of hb) (by simp)
theorem boxed_turn {W W' : World} {row : Option Nat} {B : Nat} {t : TypeId} {v : Value} (h : Boxed W B t v) (hg : W.grownBy W' row) (hr : ∀ r, row = some r → ∃ o : Obj, W.heap[r]? = some o ∧ o.isCells = false) : Boxed W' B t v :=
  h.kept hg (fun e' => by obtain ⟨o, ho, hc⟩ := hr B e'.symm; rw [show W.heap[B]? = _ from h] at ho; cases ho; cases hc)
theorem wordsOf_snoc (pre : List (Nat × List UInt8)) (x : Nat × List UInt8) : wordsOf (pre ++ [x]) = wordsOf pre ++ (match wordX x.2 with | some z => [z] | none => []) := by
  simp only [wordsOf, List.filterMap_append]
  congr 1
  simp only [List.filterMap_cons, List.filterMap_nil]
  cases wordX x.2 <;> rfl
theorem wordsOf_len (pre : List (Nat × List UInt8)) : (wordsOf pre).length ≤ pre.length := List.length_filterMap_le _ _
theorem info24 : (Tryd.prog.info? 22).map (fun i => (i.zero, i.size, i.bytes)) = some (some (.int .u32 0), 1, 4) := by kernel_rfl
/-- The row of words that the text's lines stand for lies in a box. -/
def Row (n0 : Nat) (W : World) (zs : List Int) : Prop := ∃ v, Boxed W (n0 + 1 + 1 + 1) 78 v ∧ W.ownsRow n0 22 1 v zs.length (zs.map (Value.int .u32)) ∧ (v = .slice none 0 0 ↔ zs = [])
/-- The results' boxes. -/
def Res (n0 : Nat) (W : World) (v : Value) (n e : Int) : Prop := Boxed W n0 41 v ∧ Boxed W (n0 + 1) 3 (.int .i64 n) ∧ Boxed W (n0 + 1 + 1) 67 (.int .i64 e)
theorem Res.turn {n0 : Nat} {W W' : World} {v : Value} {n e : Int} {row : Option Nat} (h : Res n0 W v n e) (hg : W.grownBy W' row) (hr : ∀ r, row = some r → ∃ o : Obj, W.heap[r]? = some o ∧ o.isCells = false) : Res n0 W' v n e :=
  ⟨boxed_turn h.1 hg hr, boxed_turn h.2.1 hg hr, boxed_turn h.2.2 hg hr⟩
theorem Res.of {n0 : Nat} {W W' : World} {v : Value} {n e : Int} (h : Res n0 W v n e) (hb : Below W.heap.size W W') : Res n0 W' v n e := ⟨boxed_of h.1 hb, boxed_of h.2.1 hb, boxed_of h.2.2 hb⟩
def Clean (pre : List LineX) : Prop := ∀ x ∈ plainX pre, badX x = false
def Inv (n0 : Nat) (w : World) (pre : List LineX) (W : World) : Prop := ((Row n0 W (wordsOf (plainX pre)) ∧ Clean pre) ∧ Res n0 W (.slice none 0 0) 0 0) ∧ Below n0 w W
def InvX (n0 : Nat) (w : World) (c : Code) (pre : List LineX) (W : World) : Prop := (c = .ret ∧ ∃ (q : List LineX) (x : LineX), pre = q ++ [x] ∧ Clean q ∧ badX x.1 = true ∧ Res n0 W (.slice none 0 0) x.1.1 10) ∧ Below n0 w W
theorem inv_own (n0 B : Nat) (w : World) (hn : n0 ≤ w.heap.size) (hB : n0 ≤ B) : OwnFrom B (Inv n0 w) :=
  OwnFrom.and (OwnFrom.and (OwnFrom.and (Own.from (holdsRow_own n0 (n0 + 1 + 1 + 1) 78 22 1 (fun pre => (wordsOf (plainX pre)).length) (fun pre => (wordsOf (plainX pre)).map (Value.int .u32)) (fun pre v => v = .slice none 0 0 ↔ wordsOf (plainX pre) = [])) _) (ownFrom_pure _ Clean))
    (fun _ _ _ _ hs hg hr => hs.turn hg (fun r e => (hr r e).2))) (ownFrom_below hn hB)
theorem invX_own (n0 B : Nat) (w : World) (c : Code) (hn : n0 ≤ w.heap.size) (hB : n0 ≤ B) : OwnFrom B (InvX n0 w c) :=
  OwnFrom.and (fun _ _ _ _ hs hg hr => by
    obtain ⟨h1, q, x, h2, h3, h4, h5⟩ := hs
    exact ⟨h1, q, x, h2, h3, h4, h5.turn hg (fun r e => (hr r e).2)⟩) (ownFrom_below hn hB)
theorem enc_bounds {op a b imm : Int} (h : right op a b imm = true) : 0 ≤ enc op a b imm ∧ enc op a b imm < 4294967296 := by
  have := right_bounds h
  unfold enc; omega
theorem wordX_bounds {l : List UInt8} {z : Int} (h : wordX l = some z) : 0 ≤ z ∧ z < 4294967296 := by
  unfold wordX at h
  split at h
  · cases h
  · rw [Option.map_eq_some_iff] at h
    obtain ⟨x, h1, rfl⟩ := h
    exact enc_bounds (readO_right h1)
theorem wordsOf_bounds (xs : List (Nat × List UInt8)) : ∀ z ∈ wordsOf xs, 0 ≤ z ∧ z < 4294967296 := by
  intro z hz
  unfold wordsOf at hz
  rw [List.mem_filterMap] at hz
  obtain ⟨x, _, hx⟩ := hz
  exact wordX_bounds hx
set_option maxRecDepth 100000 in
theorem bytes_nil (w : World) :
    Calls Tryd.prog 45 #[.slice none 0 0] w fun e w' => e = .returned (.slice (some ⟨w.heap.size, 0, none⟩) 0 0) ∧ w'.rowIs w.heap.size 5 0 (fun _ => .int .u8 0) ∧ Below w.heap.size w w' := by
  have hmk := fun wx => run_make_row' (P := Tryd.prog) 41 5 (.int .u8 0) 1 Tryd.underlying41 Wd.info5 rfl .i64 .i64 0 (by omega) (by omega) wx
  simp only [Int.cast_ofNat_Int] at hmk
  go_enter Tryd.func45, Tryd.ntmps45
  go_wp2
  go_loop [12] (fun i => i = .int .i64 0) (fun _ => 0)
  case atStart => rfl
  case round =>
    subst hrel
    go_wp2
    go_ret
    exact ⟨rfl, World.rowIs_made w _ _ _, (Below.refl _ _).alloc (Nat.le_refl _) _⟩
/-- The words' bytes, laid by Bytes. -/
theorem bytesL (base : Nat) (v : Value) (zs : List Int) (w : World) (hn : zs.length ≤ 1000000) (hz : ∀ z ∈ zs, 0 ≤ z ∧ z < 4294967296) (hrow : w.ownsRow base 22 1 v zs.length (zs.map (Value.int .u32))) :
    Calls Tryd.prog 45 #[v] w fun e w' => e = .returned (.slice (some ⟨w.heap.size, 0, none⟩) (4 * zs.length) (4 * zs.length)) ∧ w'.rowIs w.heap.size 5 (4 * zs.length) (fun j => .int .u8 (Wd.byteOf (fun i => zs.getD i 0) j)) ∧ Below w.heap.size w w' := by
  rcases hrow.2 with ⟨rfl, h0⟩ | ⟨g, cap, cur, rfl, hb, hgb, rest⟩
  · refine (bytes_nil w).mono ?_
    rintro e w' ⟨rfl, hr, hb⟩
    rw [h0]
    exact ⟨rfl, hr.congr (fun i hi => by omega), hb⟩
  · have hc := hrow.cellAt
    refine (Wd.bytes_any g 0 zs.length cap (fun i => zs.getD i 0) w hn ?_ ?_ ?_).mono ?_
    · intro j hj
      have : zs.getD j 0 = zs[j] := by simp [List.getD, hj]
      rw [this]
      exact hz _ (List.getElem_mem hj)
    · exact (Array.getElem?_eq_some_iff.1 hgb).1
    · intro j hj
      rw [Nat.zero_add, hc j (by omega)]
      simp [hj, List.getD]
    · rintro e w' ⟨rfl, hr, hb⟩
      exact ⟨rfl, hr, hb⟩
/-- What Assemble answers. -/
def AsmPost (l : List UInt8) (w : World) (e : Ending) (w' : World) : Prop :=
  ((∃ q x r, linesFrom 1 l = q ++ x :: r ∧ (∀ y ∈ q, badX y = false) ∧ badX x = true ∧ e = .returned (.tuple #[.slice none 0 0, .int .i64 x.1, .int .i64 10])) ∨
   ((∀ y ∈ linesFrom 1 l, badX y = false) ∧ ∃ g, w.heap.size ≤ g ∧ e = .returned (.tuple #[.slice (some ⟨g, 0, none⟩) (4 * (wordsOf (linesFrom 1 l)).length) (4 * (wordsOf (linesFrom 1 l)).length), .int .i64 0, .int .i64 0]) ∧
     w'.rowIs g 5 (4 * (wordsOf (linesFrom 1 l)).length) (fun j => .int .u8 (Wd.byteOf (fun i => (wordsOf (linesFrom 1 l)).getD i 0) j)))) ∧ Below w.heap.size w w'
end Go.Proofs.YtlfhcnpbgbnadaaDoor
