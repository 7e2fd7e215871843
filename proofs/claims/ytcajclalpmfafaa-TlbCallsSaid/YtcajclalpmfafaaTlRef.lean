/-
  The document's own TLB: New and At. Conditions: that it lies there.
-/
import Derived.Test.YtcajclalpmfafaaTlLast
import Derived.Test.YtcajclalpmfafaaTlAlive
namespace Go.Proofs.Ytcajclalpmfafaa
open Go.RowKit Go.Maps
namespace Tl
open Ph (Only)

/-- A place, as the document's own has it. -/
def encR : Option SlotT → List Value
  | none => [.int .i64 0, .int .i64 0, .int .i64 0, .bool false, .bool false, .bool false]
  | some s => [.int .i64 s.1, .int .i64 s.2.1, .int .i64 s.2.2.1, .bool s.2.2.2.1, .bool s.2.2.2.2, .bool true]
theorem encR_len : ∀ o, (encR o).length = 6
  | none => rfl
  | some _ => rfl
/-- The document's TLB: its own block, its places' block. -/
structure RTlb (w : World) (r g room next : Nat) (ps : List (Option SlotT)) : Prop where
  lay : Lay w r 47 [.slice (some ⟨g, 0, none⟩) room room, .int .i64 (next : Int)]
  row : KRow 6 encR w g ps
  ne : r ≠ g
  len : ps.length = room
  low : 1 ≤ room
  high : room ≤ 64
  nlt : next < room
theorem RTlb.kept {w w' : World} {r g room next : Nat} {ps : List (Option SlotT)} {S : List Nat} (h : RTlb w r g room next ps) (ho : Only S w w') (hr : r ∉ S) (hg : g ∉ S) : RTlb w' r g room next ps :=
  { h with lay := h.lay.kept ho hr, row := h.row.kept ho hg }
theorem infoRef : (Try.prog.info? 37).map (fun i => (i.zero, i.size, i.bytes)) = some (some (.agg (encR none).toArray), 6, 32) := by kernel_rfl
theorem made_ref (n : Nat) (wx : World) (hn : n ≤ 64) :
    (Instr.makeSlice 45 (.int .i64 (n : Int)) (.int .i64 (n : Int))).run Try.prog wx = .ok (.slice (some ⟨wx.heap.size, 0, none⟩) n n) (wx.alloc (.cells (madeCells (encR none).toArray (n * 6)) 37)) := by
  obtain ⟨i, hi, hz0, hz1, hz2⟩ := info_parts infoRef
  have hr := run_make (P := Try.prog) wx 45 37 i _ Try.underlying45 hi hz0 .i64 .i64 n n (by omega) (Int.le_refl _) (by rw [hz2]; omega) (by omega)
  simp only [Int.toNat_natCast, hz1] at hr
  exact hr
theorem rnew_any (n : Nat) (w : World) (h1 : 1 ≤ n) (h2 : n ≤ 64) :
    Calls Try.prog 8 #[.int .i64 n] w fun e w' => e = .returned (.pointer (some ⟨w.heap.size + 1, 0, none⟩)) ∧ RTlb w' (w.heap.size + 1) w.heap.size n 0 (List.replicate n none) ∧ Only [] w w' := by
  have hmk := made_ref n w h2
  have hK := Lib.hid ((made_k 6 encR none rfl n 37 w).kept (Only.alloc [] _ (.cells #[.slice (some ⟨w.heap.size, 0, none⟩) n n, .int .i64 0] 47)) (by simp))
  have hL := Lib.hid (Lay.new (w.alloc (.cells (madeCells (encR none).toArray (n * 6)) 37)) 47 [.slice (some ⟨w.heap.size, 0, none⟩) n n, .int .i64 0])
  go_enter Try.func8, Try.ntmps8
  go_wp2
  go_ret
  have hL := hL.out
  rw [World.size_alloc] at hL
  exact ⟨rfl, ⟨hL, hK.out, by omega, by simp, h1, h2, by omega⟩, (Only.alloc _ _ _).trans (Only.alloc _ _ _)⟩
/-- A place's number; -1: there is none. -/
def atI : Option HeldT → Int
  | some h => h.1
  | none => -1
theorem find_none {a b : Int} {i : Nat} {ps : List (Option SlotT)} (h : ps[i]? = some none) : findP a b i (ps.drop i) = findP a b (i + 1) (ps.drop (i + 1)) := by
  obtain ⟨hi, hx⟩ := List.getElem?_eq_some_iff.1 h
  rw [List.drop_eq_getElem_cons hi, hx]
  rfl
theorem find_some {a b : Int} {i : Nat} {ps : List (Option SlotT)} {s : SlotT} (h : ps[i]? = some (some s)) : findP a b i (ps.drop i) = if named a b s then some ((i : Int), s) else findP a b (i + 1) (ps.drop (i + 1)) := by
  obtain ⟨hi, hx⟩ := List.getElem?_eq_some_iff.1 h
  rw [List.drop_eq_getElem_cons hi, hx]
  rfl
set_option maxRecDepth 100000 in
set_option maxHeartbeats 1000000 in
theorem at_any (r g room next : Nat) (ps : List (Option SlotT)) (a b : Int) (w : World) (hR : RTlb w r g room next ps) :
    Calls Try.prog 18 #[.pointer (some ⟨r, 0, none⟩), .int .i64 a, .int .i64 b] w fun e w' => e = .returned (.int .i64 (atI (findP a b 0 ps))) ∧ w = w' := by
  have HR := Lib.hid hR
  have hlt := hR.lay.lt
  have hgt := hR.row.lt
  have k0 := hR.lay.cell 0
  simp only [List.getElem?_cons_zero] at k0
  have hhi := hR.high
  have hlen := Lib.hid hR.len
  clear hR
  go_enter Try.func18, Try.ntmps18
  go_wp2_with fail
  go_loopw [7] (fun c wr => ∃ i : Nat, c = .int .i64 i ∧ i ≤ room ∧ findP a b 0 ps = findP a b i (ps.drop i) ∧ w = wr) (fun c _ => room - (intOf c).toNat)
  case atStart => exact ⟨0, rfl, Nat.zero_le _, rfl, rfl⟩
  case round =>
    obtain ⟨i, rfl, hi, hf, rfl⟩ := hrel
    have HF := Lib.hid hf
    clear hf
    by_cases hil : i < room
    · obtain ⟨o, ho⟩ : ∃ o, ps[i]? = some o := ⟨ps[i]'(by rw [hlen.out]; exact hil), List.getElem?_eq_getElem _⟩
      have HO := Lib.hid ho
      cases o with
      | none =>
        have c5 := HR.out.row.range i _ ho 5 _ rfl
        clear ho
        go_wp2_with fail
        go_roundw
        case rel => exact ⟨i + 1, rfl, by omega, by rw [HF.out, find_none HO.out], by trivial⟩
        case measure => simp only [intOf, Int.toNat_natCast]; omega
      | some s =>
        obtain ⟨sv, sp, sf, sw, sx⟩ := s
        have c0 := HR.out.row.range i _ ho 0 _ rfl
        have c1 := HR.out.row.range i _ ho 1 _ rfl
        have c5 := HR.out.row.range i _ ho 5 _ rfl
        rw [Nat.add_zero] at c0
        replace c0 : w.cell? ⟨g, i * 6, none⟩ = some (.int .i64 sv) := c0
        replace c1 : w.cell? ⟨g, i * 6 + 1, none⟩ = some (.int .i64 sp) := c1
        replace c5 : w.cell? ⟨g, i * 6 + 5, none⟩ = some (.bool true) := c5
        clear ho
        by_cases e1 : sv = a
        · subst e1
          by_cases e2 : sp = b
          · subst e2
            go_wp2_with fail
            go_ret
            refine ⟨?_, rfl⟩
            rw [HF.out, find_some HO.out, if_pos (show named sv sp (sv, sp, sf, sw, sx) = true by simp [named])]
            rfl
          · go_wp2_with fail
            go_roundw
            case rel => exact ⟨i + 1, rfl, by omega, by rw [HF.out, find_some HO.out, if_neg (fun h => e2 (named_iff.1 h).2)], by trivial⟩
            case measure => simp only [intOf, Int.toNat_natCast]; omega
        · go_wp2_with fail
          go_roundw
          case rel => exact ⟨i + 1, rfl, by omega, by rw [HF.out, find_some HO.out, if_neg (fun h => e1 (named_iff.1 h).1)], by trivial⟩
          case measure => simp only [intOf, Int.toNat_natCast]; omega
    · obtain rfl : i = room := by omega
      go_wp2
      go_ret
      refine ⟨?_, rfl⟩
      rw [HF.out, List.drop_of_length_le (by rw [hlen.out]; exact Nat.le_refl _)]
      rfl
end Tl
end Go.Proofs.Ytcajclalpmfafaa
