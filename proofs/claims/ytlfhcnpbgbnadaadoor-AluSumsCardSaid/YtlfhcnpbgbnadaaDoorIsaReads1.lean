/-
  What isa.Read answers, at every argument; the conditions: the tables that the program's text lays lie so.
-/
import Derived.Test.YtlfhcnpbgbnadaaDoorIsaGuess
namespace Go.Proofs.YtlfhcnpbgbnadaaDoor
open Go.RowKit Isa

/-- What Read answers: the instruction whose text a line is. -/
def readO (l : List UInt8) : Option (Int × Int × Int × Int) := match findN (cutL 32 l).1 with
  | none => none
  | some k => if lineV k (guessK k (cutL 32 l).2).1 (guessK k (cutL 32 l).2).2.1 (guessK k (cutL 32 l).2).2.2 = l then some ((k : Int), (guessK k (cutL 32 l).2).1, (guessK k (cutL 32 l).2).2.1, (guessK k (cutL 32 l).2).2.2) else none
def insV (x : Int × Int × Int × Int) : Value := .agg #[.int .i64 x.1, .int .i64 x.2.1, .int .i64 x.2.2.1, .int .i64 x.2.2.2]
def readV (l : List UInt8) : Value := match readO l with
  | none => .tuple #[.agg #[.int .i64 0, .int .i64 0, .int .i64 0, .int .i64 0], .bool false]
  | some x => .tuple #[.agg #[.int .i64 x.1, .int .i64 x.2.1, .int .i64 x.2.2.1, .int .i64 x.2.2.2], .bool true]
theorem readO_line {l : List UInt8} {x : Int × Int × Int × Int} (h : readO l = some x) : lineV x.1 x.2.1 x.2.2.1 x.2.2.2 = l := by
  unfold readO at h
  cases hF : findN (cutL 32 l).1 with
  | none => rw [hF] at h; cases h
  | some k =>
    rw [hF] at h
    simp only at h
    split at h
    · rename_i he
      cases h
      exact he
    · cases h
theorem readO_of (op a b imm : Int) (h : right op a b imm = true) : readO (lineL op a b imm) = some (op, a, b, imm) := by
  obtain ⟨⟨g0, h0⟩, _⟩ := right_bounds h
  obtain ⟨k, rfl⟩ := Int.eq_ofNat_of_zero_le g0
  have hk : k < 28 := by omega
  obtain ⟨e1, e2⟩ := line_parts k a b imm hk h
  unfold readO
  rw [e1, findN_opN k hk]
  simp only [e2]
  rw [if_pos (by unfold lineV; rw [if_pos h])]
theorem lineL_ne (op a b imm : Int) (h : right op a b imm = true) : lineL op a b imm ≠ [] := by
  obtain ⟨⟨g0, h0⟩, _⟩ := right_bounds h
  have := (opN_len op.toNat (by omega)).2
  intro e
  simp only [lineL, List.append_eq_nil_iff] at e
  rw [e.1.1.1] at this
  simp at this
theorem readO_right {l : List UInt8} {x : Int × Int × Int × Int} (h : readO l = some x) : right x.1 x.2.1 x.2.2.1 x.2.2.2 = true := by
  have h2 := readO_line h
  cases hr : right x.1 x.2.1 x.2.2.1 x.2.2.2
  · unfold lineV at h2
    rw [hr] at h2
    simp at h2
    subst h2
    have h3 : readO [] = none := by decide
    rw [h3] at h
    cases h
  · rfl
theorem guessV_none {l : List UInt8} (h : findN (cutL 32 l).1 = none) : guessV l = .tuple #[.agg #[.int .i64 0, .int .i64 0, .int .i64 0, .int .i64 0], .bool false] := by unfold guessV; rw [h]
theorem guessV_some {l : List UInt8} {k : Nat} (h : findN (cutL 32 l).1 = some k) : guessV l = .tuple #[.agg #[.int .i64 k, .int .i64 (guessK k (cutL 32 l).2).1, .int .i64 (guessK k (cutL 32 l).2).2.1, .int .i64 (guessK k (cutL 32 l).2).2.2], .bool true] := by unfold guessV; rw [h]
set_option maxHeartbeats 1000000 in
theorem read_any (s : ByteArray) (w : World) (hE : Env w) (hs : s.size ≤ 140737488355328) :
    Calls Tryd.prog 44 #[.string s] w fun e w' => e = .returned (readV s.data.toList) ∧ Below w.heap.size w w' := by
  have HE := Lib.hid hE
  clear hE
  cases hF : findN (cutL 32 s.data.toList).1 with
  | none =>
    have hR := Lib.hid (show readV s.data.toList = .tuple #[.agg #[.int .i64 0, .int .i64 0, .int .i64 0, .int .i64 0], .bool false] by simp only [readV, readO, hF])
    have HG := Lib.hid (guessV_none hF)
    clear hF
    go_enter Tryd.func44, Tryd.ntmps44
    go_wp2_with fail
    refine (guess_any _ _ (HE.out.box _) hs).mono ?_
    rintro e w1 ⟨rfl, hb⟩
    rw [HG.out]
    have HZ := Lib.hid ((Box4.new w (.int .i64 0) (.int .i64 0) (.int .i64 0) (.int .i64 0) 50).kept hb)
    have HB := Lib.hid ((((Below.refl _ _).alloc (Nat.le_refl _) _).trans (hb.mono (by simp))) : Below w.heap.size w w1)
    obtain ⟨⟨z0, z1, z2, z3⟩, y0, y1, y2, y3⟩ := HZ.out
    have hz := HZ.out.lt
    clear hb
    go_wp2
    have F2 := wr4_cells HZ.out.four (.int .i64 0) (.int .i64 0) (.int .i64 0) (.int .i64 0)
    obtain ⟨f0, f1, f2, f3⟩ := F2
    rw [hR.out]
    have hk2 := ((Below.refl _ (wr4 w1 w.heap.size (.int .i64 0) (.int .i64 0) (.int .i64 0) (.int .i64 0))).alloc (Nat.le_refl _) (.cells #[.int .i64 0, .int .i64 0, .int .i64 0, .int .i64 0] 50))
    have G0 := keep hk2 f0
    have G1 := keep hk2 f1
    have G2 := keep hk2 f2
    have G3 := keep hk2 f3
    refine bodyPost_ret (v := .tuple #[.agg #[.int .i64 0, .int .i64 0, .int .i64 0, .int .i64 0], .bool false]) (w := (wr4 w1 w.heap.size (.int .i64 0) (.int .i64 0) (.int .i64 0) (.int .i64 0)).alloc (.cells #[.int .i64 0, .int .i64 0, .int .i64 0, .int .i64 0] 50)) (by simp [results, Tryd.results44, go_sem, G0, G1, G2, G3]) rfl ⟨rfl, ?_⟩
    exact (wr4_below HB.out (Nat.le_refl _) _ _ _ _).alloc (by simp [wr4]; omega) _
  | some k =>
    have HG := Lib.hid (guessV_some hF)
    by_cases he : lineV k (guessK k (cutL 32 s.data.toList).2).1 (guessK k (cutL 32 s.data.toList).2).2.1 (guessK k (cutL 32 s.data.toList).2).2.2 = s.data.toList
    · have hR := Lib.hid (show readV s.data.toList = .tuple #[.agg #[.int .i64 k, .int .i64 (guessK k (cutL 32 s.data.toList).2).1, .int .i64 (guessK k (cutL 32 s.data.toList).2).2.1, .int .i64 (guessK k (cutL 32 s.data.toList).2).2.2], .bool true] by simp only [readV, readO, hF, if_pos he])
      have HX := Lib.hid (str_eq (show bs (lineV k (guessK k (cutL 32 s.data.toList).2).1 (guessK k (cutL 32 s.data.toList).2).2.1 (guessK k (cutL 32 s.data.toList).2).2.2) = s by rw [he, bs_self]))
      clear hF he
      generalize (guessK k (cutL 32 s.data.toList).2).1 = a at *
      generalize (guessK k (cutL 32 s.data.toList).2).2.1 = b at *
      generalize (guessK k (cutL 32 s.data.toList).2).2.2 = imm at *
      go_enter Tryd.func44, Tryd.ntmps44
      go_wp2_with fail
      refine (guess_any _ _ (HE.out.box _) hs).mono ?_
      rintro e w1 ⟨rfl, hb⟩
      rw [HG.out]
      have HZ := Lib.hid ((Box4.new w (.int .i64 0) (.int .i64 0) (.int .i64 0) (.int .i64 0) 50).kept hb)
      have HB := Lib.hid ((((Below.refl _ _).alloc (Nat.le_refl _) _).trans (hb.mono (by simp))) : Below w.heap.size w w1)
      have hz := HZ.out.lt
      clear hb
      go_wp2_with fail
      refine (line_any _ _ _ _ _ ((HE.out.kept HB.out).box _)).mono ?_
      rintro e w2 ⟨rfl, hb⟩
      have hX := HX.out
      have Z2 := Lib.hid ((HZ.out.box _).kept hb)
      have X2 := Lib.hid ((Box4.new w1 (.int .i64 k) (.int .i64 a) (.int .i64 b) (.int .i64 imm) 50).kept hb)
      have HB2 := Lib.hid ((HB.out.alloc (by omega) (.cells #[.int .i64 k, .int .i64 a, .int .i64 b, .int .i64 imm] 50)).trans (hb.mono (by simp; omega)))
      obtain ⟨⟨z0, z1, z2, z3⟩, y0, y1, y2, y3⟩ := Z2.out
      obtain ⟨⟨x0, x1, x2, x3⟩, q0, q1, q2, q3⟩ := X2.out
      clear hb q0 q1 q2 q3
      go_wp2
      have F2 := wr4_cells Z2.out.four (.int .i64 k) (.int .i64 a) (.int .i64 b) (.int .i64 imm)
      rw [hR.out]
      refine bodyPost_ret (v := .tuple #[.agg #[.int .i64 k, .int .i64 a, .int .i64 b, .int .i64 imm], .bool true]) (w := wr4 w2 w.heap.size _ _ _ _) (by simp [results, Tryd.results44, go_sem, F2]) rfl ⟨rfl, ?_⟩
      exact wr4_below HB2.out (Nat.le_refl _) _ _ _ _
    · have hR := Lib.hid (show readV s.data.toList = .tuple #[.agg #[.int .i64 0, .int .i64 0, .int .i64 0, .int .i64 0], .bool false] by simp only [readV, readO, hF, if_neg he])
      have HX := Lib.hid (str_ne (show ¬ bs (lineV k (guessK k (cutL 32 s.data.toList).2).1 (guessK k (cutL 32 s.data.toList).2).2.1 (guessK k (cutL 32 s.data.toList).2).2.2) = s from fun e => he (by rw [← bs_toList (lineV _ _ _ _), e])))
      clear hF he
      generalize (guessK k (cutL 32 s.data.toList).2).1 = a at *
      generalize (guessK k (cutL 32 s.data.toList).2).2.1 = b at *
      generalize (guessK k (cutL 32 s.data.toList).2).2.2 = imm at *
      go_enter Tryd.func44, Tryd.ntmps44
      go_wp2_with fail
      refine (guess_any _ _ (HE.out.box _) hs).mono ?_
      rintro e w1 ⟨rfl, hb⟩
      rw [HG.out]
      have HZ := Lib.hid ((Box4.new w (.int .i64 0) (.int .i64 0) (.int .i64 0) (.int .i64 0) 50).kept hb)
      have HB := Lib.hid ((((Below.refl _ _).alloc (Nat.le_refl _) _).trans (hb.mono (by simp))) : Below w.heap.size w w1)
      have hz := HZ.out.lt
      clear hb
      go_wp2_with fail
      refine (line_any _ _ _ _ _ ((HE.out.kept HB.out).box _)).mono ?_
      rintro e w2 ⟨rfl, hb⟩
      have hX := HX.out
      have Z2 := Lib.hid ((HZ.out.box _).kept hb)
      have X2 := Lib.hid ((Box4.new w1 (.int .i64 k) (.int .i64 a) (.int .i64 b) (.int .i64 imm) 50).kept hb)
      have HB2 := Lib.hid ((HB.out.alloc (by omega) (.cells #[.int .i64 k, .int .i64 a, .int .i64 b, .int .i64 imm] 50)).trans (hb.mono (by simp; omega)))
      obtain ⟨⟨z0, z1, z2, z3⟩, y0, y1, y2, y3⟩ := Z2.out
      obtain ⟨⟨x0, x1, x2, x3⟩, q0, q1, q2, q3⟩ := X2.out
      clear hb q0 q1 q2 q3
      go_wp2
      have F2 := wr4_cells Z2.out.four (.int .i64 0) (.int .i64 0) (.int .i64 0) (.int .i64 0)
      rw [hR.out]
      refine bodyPost_ret (v := .tuple #[.agg #[.int .i64 0, .int .i64 0, .int .i64 0, .int .i64 0], .bool false]) (w := wr4 w2 w.heap.size _ _ _ _) (by simp [results, Tryd.results44, go_sem, F2]) rfl ⟨rfl, ?_⟩
      exact wr4_below HB2.out (Nat.le_refl _) _ _ _ _
end Go.Proofs.YtlfhcnpbgbnadaaDoor
