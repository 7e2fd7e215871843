/-
  The document's own TLB: Drop. Conditions: that it lies there.
-/
import Derived.Test.YtcajclalpmfafaaTlRefFill
namespace Go.Proofs.Ytcajclalpmfafaa
open Go.RowKit Go.Maps
namespace Tl
open Ph (Only)

/-- The places when the first i have been looked at. -/
def rowAt (g : SlotT → Bool) (ps : List (Option SlotT)) (i : Nat) : List (Option SlotT) := (ps.take i).map (off g) ++ ps.drop i
theorem rowAt_zero (g : SlotT → Bool) (ps : List (Option SlotT)) : rowAt g ps 0 = ps := by simp [rowAt]
theorem rowAt_all (g : SlotT → Bool) (ps : List (Option SlotT)) : rowAt g ps ps.length = ps.map (off g) := by simp [rowAt]
theorem rowAt_at (g : SlotT → Bool) {ps : List (Option SlotT)} {i : Nat} {o : Option SlotT} (h : ps[i]? = some o) : (rowAt g ps i)[i]? = some o := by
  obtain ⟨hi, hx⟩ := List.getElem?_eq_some_iff.1 h
  unfold rowAt
  rw [List.getElem?_append_right (by simp; omega)]
  simp only [List.length_map, List.length_take, List.getElem?_drop]
  rw [show i + (i - min i ps.length) = i by omega]
  exact h
theorem rowAt_len (g : SlotT → Bool) (ps : List (Option SlotT)) (i : Nat) : (rowAt g ps i).length = ps.length := by
  unfold rowAt
  simp only [List.length_append, List.length_map, List.length_take, List.length_drop]
  omega
theorem take_next' {α : Type} {l : List α} {i : Nat} {x : α} (h : l[i]? = some x) : l.take (i + 1) = l.take i ++ [x] := by
  obtain ⟨hi, hx⟩ := List.getElem?_eq_some_iff.1 h
  rw [List.take_succ_eq_append_getElem hi, hx]
theorem rowAt_succ (g : SlotT → Bool) {ps : List (Option SlotT)} {i : Nat} {o : Option SlotT} (h : ps[i]? = some o) : rowAt g ps (i + 1) = (rowAt g ps i).set i (off g o) := by
  obtain ⟨hi, hx⟩ := List.getElem?_eq_some_iff.1 h
  unfold rowAt
  rw [take_next' h, List.map_append, List.set_append_right _ _ (by simp; omega), List.drop_eq_getElem_cons hi]
  simp only [List.length_map, List.length_take, List.append_assoc]
  rw [show i - min i ps.length = 0 by omega]
  simp
  rw [List.drop_eq_getElem_cons hi]
  rfl
theorem rowAt_same (g : SlotT → Bool) {ps : List (Option SlotT)} {i : Nat} {o : Option SlotT} (h : ps[i]? = some o) (ho : off g o = o) : rowAt g ps (i + 1) = rowAt g ps i := by
  rw [rowAt_succ g h, ho]
  have := rowAt_at g h
  obtain ⟨hi, hx⟩ := List.getElem?_eq_some_iff.1 this
  rw [← hx]
  exact List.set_getElem_self hi
/-- How many of the first i are dropped. -/
def dn (g : SlotT → Bool) (ps : List (Option SlotT)) (i : Nat) : Nat := ((slots (ps.take i)).filter g).length
theorem dn_none (g : SlotT → Bool) {ps : List (Option SlotT)} {i : Nat} (h : ps[i]? = some none) : dn g ps (i + 1) = dn g ps i := by
  unfold dn slots
  rw [take_next' h]
  simp
theorem dn_some (g : SlotT → Bool) {ps : List (Option SlotT)} {i : Nat} {s : SlotT} (h : ps[i]? = some (some s)) : dn g ps (i + 1) = dn g ps i + (if g s then 1 else 0) := by
  unfold dn slots
  rw [take_next' h]
  by_cases hg : g s = true
  · simp [hg]
  · simp [hg]
theorem dn_le (g : SlotT → Bool) (ps : List (Option SlotT)) (i : Nat) : dn g ps i ≤ ps.length := by
  unfold dn
  refine Nat.le_trans (List.length_filter_le _ _) (Nat.le_trans (slots_len _) ?_)
  rw [List.length_take]
  omega
theorem filt_len {α : Type} (g : α → Bool) : ∀ l : List α, (l.filter g).length + (l.filter (fun s => !g s)).length = l.length
  | [] => rfl
  | x :: r => by
    have := filt_len g r
    by_cases h : g x = true
    · simp [h]; omega
    · simp [h]; omega
theorem dn_all (g : SlotT → Bool) (ps : List (Option SlotT)) : (dn g ps ps.length : Int) = (count ps : Int) - count (ps.map (off g)) := by
  have h1 : count (ps.map (off g)) = ((slots ps).filter (fun s => !g s)).length := by rw [← slots_off]; rfl
  have h2 : count ps = (slots ps).length := rfl
  have h3 := filt_len g (slots ps)
  unfold dn
  rw [h1, h2, List.take_length]
  omega
set_option maxRecDepth 100000 in
set_option maxHeartbeats 1000000 in
theorem rdrop0_any (r g room next : Nat) (ps : List (Option SlotT)) (a b : Int) (w : World) (hR : RTlb w r g room next ps) :
    Calls Try.prog 13 #[.pointer (some ⟨r, 0, none⟩), .int .i64 0, .int .i64 a, .int .i64 b, .int .i64 0] w fun e w' => e = .returned (.int .i64 (dn (fun s => decide (s.1 = a) && decide (s.2.1 = b)) ps ps.length : Nat)) ∧ RTlb w' r g room next (ps.map (off (fun s => decide (s.1 = a) && decide (s.2.1 = b)))) ∧ Only [g] w w' := by
  have HR := Lib.hid hR
  have hhi := hR.high
  have hlen := Lib.hid hR.len
  have hrw := hR.lay.lt
  have hgw := hR.row.lt
  have hrg := hR.ne
  have r0 := hR.lay.cell 0
  simp only [List.getElem?_cons_zero] at r0
  clear hR
  go_enter Try.func13, Try.ntmps13
  go_wp2_with fail
  go_loopw [11, 12] (fun n q wr => ∃ i : Nat, q = .int .i64 i ∧ i ≤ room ∧ n = .int .i64 (dn (fun s => decide (s.1 = a) && decide (s.2.1 = b)) ps i : Nat) ∧ RTlb wr r g room next (rowAt (fun s => decide (s.1 = a) && decide (s.2.1 = b)) ps i) ∧ Only [g] w wr) (fun _ q _ => room - (intOf q).toNat)
  case atStart => exact ⟨0, rfl, Nat.zero_le _, rfl, by rw [rowAt_zero]; exact HR.out, Only.refl _ _⟩
  case round =>
    obtain ⟨i, rfl, hi, rfl, hR, hO⟩ := hrel
    have RA := Lib.hid hR
    have OA := Lib.hid hO
    have k0 := hR.lay.cell 0
    simp only [List.getElem?_cons_zero] at k0
    have hrl := hR.lay.lt
    have hgl := hR.row.lt
    have hdl := dn_le (fun s => decide (s.1 = a) && decide (s.2.1 = b)) ps i
    rw [hlen.out] at hdl
    clear hR hO r0 HR
    by_cases hil : i < room
    · obtain ⟨o, ho⟩ : ∃ o, ps[i]? = some o := ⟨ps[i]'(by rw [hlen.out]; exact hil), List.getElem?_eq_getElem _⟩
      have HO := Lib.hid ho
      have hat := rowAt_at (fun s => decide (s.1 = a) && decide (s.2.1 = b)) ho
      have hbo := Lib.hid (Only.alloc [g] wr (.cells #[] 37))
      clear ho
      cases o with
      | none =>
        have c0 := RA.out.row.range i _ hat 0 _ rfl
        have c1 := RA.out.row.range i _ hat 1 _ rfl
        have c2 := RA.out.row.range i _ hat 2 _ rfl
        have c3 := RA.out.row.range i _ hat 3 _ rfl
        have c4 := RA.out.row.range i _ hat 4 _ rfl
        have c5 := RA.out.row.range i _ hat 5 _ rfl
        rw [Nat.add_zero] at c0
        have RB := Lib.hid (RA.out.kept (Only.alloc [] wr (.cells #[.int .i64 0, .int .i64 0, .int .i64 0, .bool false, .bool false, .bool false] 37)) (by simp) (by simp))
        have O2 := Lib.hid (OA.out.trans (Only.alloc [g] wr (.cells #[.int .i64 0, .int .i64 0, .int .i64 0, .bool false, .bool false, .bool false] 37)))
        clear hat
        go_wp2_with fail
        go_roundw
        case rel => exact ⟨i + 1, rfl, by omega, by rw [dn_none _ HO.out], by rw [rowAt_same _ HO.out rfl]; exact RB.out, O2.out⟩
        case measure => simp only [intOf, Int.toNat_natCast]; omega
      | some s =>
        obtain ⟨sv, sp, sf, sw, sx⟩ := s
        have c0 := RA.out.row.range i _ hat 0 _ rfl
        have c1 := RA.out.row.range i _ hat 1 _ rfl
        have c2 := RA.out.row.range i _ hat 2 _ rfl
        have c3 := RA.out.row.range i _ hat 3 _ rfl
        have c4 := RA.out.row.range i _ hat 4 _ rfl
        have c5 := RA.out.row.range i _ hat 5 _ rfl
        rw [Nat.add_zero] at c0
        replace c0 : wr.cell? ⟨g, i * 6, none⟩ = some (.int .i64 sv) := c0
        replace c1 : wr.cell? ⟨g, i * 6 + 1, none⟩ = some (.int .i64 sp) := c1
        replace c2 : wr.cell? ⟨g, i * 6 + 2, none⟩ = some (.int .i64 sf) := c2
        replace c3 : wr.cell? ⟨g, i * 6 + 3, none⟩ = some (.bool sw) := c3
        replace c4 : wr.cell? ⟨g, i * 6 + 4, none⟩ = some (.bool sx) := c4
        replace c5 : wr.cell? ⟨g, i * 6 + 5, none⟩ = some (.bool true) := c5
        have RB := Lib.hid (RA.out.kept (Only.alloc [] wr (.cells #[.int .i64 sv, .int .i64 sp, .int .i64 sf, .bool sw, .bool sx, .bool true] 37)) (by simp) (by simp))
        have O2 := Lib.hid (OA.out.trans (Only.alloc [g] wr (.cells #[.int .i64 sv, .int .i64 sp, .int .i64 sf, .bool sw, .bool sx, .bool true] 37)))
        clear hat
        by_cases e1 : sv = a
        · subst e1
          by_cases e2 : sp = b
          · subst e2
            have fr := fun j hj => (RA.out.row.free i (by rw [RA.out.len]; exact hil) j hj).2
            have f0 := fr 0 (by omega)
            have f1 := fr 1 (by omega)
            have f2 := fr 2 (by omega)
            have f3 := fr 3 (by omega)
            have f4 := fr 4 (by omega)
            have f5 := fr 5 (by omega)
            rw [Nat.add_zero] at f0
            clear fr
            go_wp2_with fail
            have hP := RA.out.put i none hil
            have ho : off (fun s : SlotT => decide (s.1 = sv) && decide (s.2.1 = sp)) (some (sv, sp, sf, sw, sx)) = none := by simp [off]
            refine ⟨⟨i + 1, by simp, by omega, ?_, ?_, ?_⟩, by simp only [intOf, Int.toNat_natCast]; omega⟩
            · rw [dn_some _ HO.out, if_pos (by simp)]; rfl
            · rw [rowAt_succ _ HO.out, ho]; exact hP.1.kept (Only.alloc [] _ _) (by simp) (by simp)
            · exact (OA.out.trans hP.2).trans (Only.alloc _ _ _)
          · skip
            go_wp2_with fail
            go_roundw
            case rel => exact ⟨i + 1, rfl, by omega, by rw [dn_some _ HO.out, if_neg (by simp [e2])]; rfl, by rw [rowAt_same _ HO.out (by simp [off, e2])]; exact RB.out, O2.out⟩
            case measure => simp only [intOf, Int.toNat_natCast]; omega
        · skip
          go_wp2_with fail
          go_roundw
          case rel => exact ⟨i + 1, rfl, by omega, by rw [dn_some _ HO.out, if_neg (by simp [e1])]; rfl, by rw [rowAt_same _ HO.out (by simp [off, e1])]; exact RB.out, O2.out⟩
          case measure => simp only [intOf, Int.toNat_natCast]; omega
    · obtain rfl : i = room := by omega
      go_wp2
      go_ret
      have hall := RA.out
      rw [← hlen.out, rowAt_all, hlen.out] at hall
      exact ⟨by rw [hlen.out]; rfl, hall, OA.out⟩
set_option maxRecDepth 100000 in
set_option maxHeartbeats 1000000 in
theorem rdrop1_any (r g room next : Nat) (ps : List (Option SlotT)) (a : Int) (w : World) (hR : RTlb w r g room next ps) :
    Calls Try.prog 13 #[.pointer (some ⟨r, 0, none⟩), .int .i64 1, .int .i64 a, .int .i64 0, .int .i64 0] w fun e w' => e = .returned (.int .i64 (dn (fun s => decide (s.1 = a)) ps ps.length : Nat)) ∧ RTlb w' r g room next (ps.map (off (fun s => decide (s.1 = a)))) ∧ Only [g] w w' := by
  have HR := Lib.hid hR
  have hhi := hR.high
  have hlen := Lib.hid hR.len
  have hrw := hR.lay.lt
  have hgw := hR.row.lt
  have hrg := hR.ne
  have r0 := hR.lay.cell 0
  simp only [List.getElem?_cons_zero] at r0
  clear hR
  go_enter Try.func13, Try.ntmps13
  go_wp2_with fail
  go_loopw [11, 12] (fun n q wr => ∃ i : Nat, q = .int .i64 i ∧ i ≤ room ∧ n = .int .i64 (dn (fun s => decide (s.1 = a)) ps i : Nat) ∧ RTlb wr r g room next (rowAt (fun s => decide (s.1 = a)) ps i) ∧ Only [g] w wr) (fun _ q _ => room - (intOf q).toNat)
  case atStart => exact ⟨0, rfl, Nat.zero_le _, rfl, by rw [rowAt_zero]; exact HR.out, Only.refl _ _⟩
  case round =>
    obtain ⟨i, rfl, hi, rfl, hR, hO⟩ := hrel
    have RA := Lib.hid hR
    have OA := Lib.hid hO
    have k0 := hR.lay.cell 0
    simp only [List.getElem?_cons_zero] at k0
    have hrl := hR.lay.lt
    have hgl := hR.row.lt
    have hdl := dn_le (fun s => decide (s.1 = a)) ps i
    rw [hlen.out] at hdl
    clear hR hO r0 HR
    by_cases hil : i < room
    · obtain ⟨o, ho⟩ : ∃ o, ps[i]? = some o := ⟨ps[i]'(by rw [hlen.out]; exact hil), List.getElem?_eq_getElem _⟩
      have HO := Lib.hid ho
      have hat := rowAt_at (fun s => decide (s.1 = a)) ho
      have hbo := Lib.hid (Only.alloc [g] wr (.cells #[] 37))
      clear ho
      cases o with
      | none =>
        have c0 := RA.out.row.range i _ hat 0 _ rfl
        have c1 := RA.out.row.range i _ hat 1 _ rfl
        have c2 := RA.out.row.range i _ hat 2 _ rfl
        have c3 := RA.out.row.range i _ hat 3 _ rfl
        have c4 := RA.out.row.range i _ hat 4 _ rfl
        have c5 := RA.out.row.range i _ hat 5 _ rfl
        rw [Nat.add_zero] at c0
        have RB := Lib.hid (RA.out.kept (Only.alloc [] wr (.cells #[.int .i64 0, .int .i64 0, .int .i64 0, .bool false, .bool false, .bool false] 37)) (by simp) (by simp))
        have O2 := Lib.hid (OA.out.trans (Only.alloc [g] wr (.cells #[.int .i64 0, .int .i64 0, .int .i64 0, .bool false, .bool false, .bool false] 37)))
        clear hat
        go_wp2_with fail
        go_roundw
        case rel => exact ⟨i + 1, rfl, by omega, by rw [dn_none _ HO.out], by rw [rowAt_same _ HO.out rfl]; exact RB.out, O2.out⟩
        case measure => simp only [intOf, Int.toNat_natCast]; omega
      | some s =>
        obtain ⟨sv, sp, sf, sw, sx⟩ := s
        have c0 := RA.out.row.range i _ hat 0 _ rfl
        have c1 := RA.out.row.range i _ hat 1 _ rfl
        have c2 := RA.out.row.range i _ hat 2 _ rfl
        have c3 := RA.out.row.range i _ hat 3 _ rfl
        have c4 := RA.out.row.range i _ hat 4 _ rfl
        have c5 := RA.out.row.range i _ hat 5 _ rfl
        rw [Nat.add_zero] at c0
        replace c0 : wr.cell? ⟨g, i * 6, none⟩ = some (.int .i64 sv) := c0
        replace c1 : wr.cell? ⟨g, i * 6 + 1, none⟩ = some (.int .i64 sp) := c1
        replace c2 : wr.cell? ⟨g, i * 6 + 2, none⟩ = some (.int .i64 sf) := c2
        replace c3 : wr.cell? ⟨g, i * 6 + 3, none⟩ = some (.bool sw) := c3
        replace c4 : wr.cell? ⟨g, i * 6 + 4, none⟩ = some (.bool sx) := c4
        replace c5 : wr.cell? ⟨g, i * 6 + 5, none⟩ = some (.bool true) := c5
        have RB := Lib.hid (RA.out.kept (Only.alloc [] wr (.cells #[.int .i64 sv, .int .i64 sp, .int .i64 sf, .bool sw, .bool sx, .bool true] 37)) (by simp) (by simp))
        have O2 := Lib.hid (OA.out.trans (Only.alloc [g] wr (.cells #[.int .i64 sv, .int .i64 sp, .int .i64 sf, .bool sw, .bool sx, .bool true] 37)))
        clear hat
        by_cases e1 : sv = a
        · subst e1
          have fr := fun j hj => (RA.out.row.free i (by rw [RA.out.len]; exact hil) j hj).2
          have f0 := fr 0 (by omega)
          have f1 := fr 1 (by omega)
          have f2 := fr 2 (by omega)
          have f3 := fr 3 (by omega)
          have f4 := fr 4 (by omega)
          have f5 := fr 5 (by omega)
          rw [Nat.add_zero] at f0
          clear fr
          go_wp2_with fail
          have hP := RA.out.put i none hil
          have ho : off (fun s : SlotT => decide (s.1 = sv)) (some (sv, sp, sf, sw, sx)) = none := by simp [off]
          refine ⟨⟨i + 1, by simp, by omega, ?_, ?_, ?_⟩, by simp only [intOf, Int.toNat_natCast]; omega⟩
          · rw [dn_some _ HO.out, if_pos (by simp)]; rfl
          · rw [rowAt_succ _ HO.out, ho]; exact hP.1.kept (Only.alloc [] _ _) (by simp) (by simp)
          · exact (OA.out.trans hP.2).trans (Only.alloc _ _ _)
        · skip
          go_wp2_with fail
          go_roundw
          case rel => exact ⟨i + 1, rfl, by omega, by rw [dn_some _ HO.out, if_neg (by simp [e1])]; rfl, by rw [rowAt_same _ HO.out (by simp [off, e1])]; exact RB.out, O2.out⟩
          case measure => simp only [intOf, Int.toNat_natCast]; omega
    · obtain rfl : i = room := by omega
      go_wp2
      go_ret
      have hall := RA.out
      rw [← hlen.out, rowAt_all, hlen.out] at hall
      exact ⟨by rw [hlen.out]; rfl, hall, OA.out⟩
set_option maxRecDepth 100000 in
set_option maxHeartbeats 1000000 in
theorem rdrop2_any (r g room next : Nat) (ps : List (Option SlotT)) (c : Int) (w : World) (hR : RTlb w r g room next ps) :
    Calls Try.prog 13 #[.pointer (some ⟨r, 0, none⟩), .int .i64 2, .int .i64 0, .int .i64 0, .int .i64 c] w fun e w' => e = .returned (.int .i64 (dn (fun s => decide (s.2.2.1 = c)) ps ps.length : Nat)) ∧ RTlb w' r g room next (ps.map (off (fun s => decide (s.2.2.1 = c)))) ∧ Only [g] w w' := by
  have HR := Lib.hid hR
  have hhi := hR.high
  have hlen := Lib.hid hR.len
  have hrw := hR.lay.lt
  have hgw := hR.row.lt
  have hrg := hR.ne
  have r0 := hR.lay.cell 0
  simp only [List.getElem?_cons_zero] at r0
  clear hR
  go_enter Try.func13, Try.ntmps13
  go_wp2_with fail
  go_loopw [11, 12] (fun n q wr => ∃ i : Nat, q = .int .i64 i ∧ i ≤ room ∧ n = .int .i64 (dn (fun s => decide (s.2.2.1 = c)) ps i : Nat) ∧ RTlb wr r g room next (rowAt (fun s => decide (s.2.2.1 = c)) ps i) ∧ Only [g] w wr) (fun _ q _ => room - (intOf q).toNat)
  case atStart => exact ⟨0, rfl, Nat.zero_le _, rfl, by rw [rowAt_zero]; exact HR.out, Only.refl _ _⟩
  case round =>
    obtain ⟨i, rfl, hi, rfl, hR, hO⟩ := hrel
    have RA := Lib.hid hR
    have OA := Lib.hid hO
    have k0 := hR.lay.cell 0
    simp only [List.getElem?_cons_zero] at k0
    have hrl := hR.lay.lt
    have hgl := hR.row.lt
    have hdl := dn_le (fun s => decide (s.2.2.1 = c)) ps i
    rw [hlen.out] at hdl
    clear hR hO r0 HR
    by_cases hil : i < room
    · obtain ⟨o, ho⟩ : ∃ o, ps[i]? = some o := ⟨ps[i]'(by rw [hlen.out]; exact hil), List.getElem?_eq_getElem _⟩
      have HO := Lib.hid ho
      have hat := rowAt_at (fun s => decide (s.2.2.1 = c)) ho
      have hbo := Lib.hid (Only.alloc [g] wr (.cells #[] 37))
      clear ho
      cases o with
      | none =>
        have c0 := RA.out.row.range i _ hat 0 _ rfl
        have c1 := RA.out.row.range i _ hat 1 _ rfl
        have c2 := RA.out.row.range i _ hat 2 _ rfl
        have c3 := RA.out.row.range i _ hat 3 _ rfl
        have c4 := RA.out.row.range i _ hat 4 _ rfl
        have c5 := RA.out.row.range i _ hat 5 _ rfl
        rw [Nat.add_zero] at c0
        have RB := Lib.hid (RA.out.kept (Only.alloc [] wr (.cells #[.int .i64 0, .int .i64 0, .int .i64 0, .bool false, .bool false, .bool false] 37)) (by simp) (by simp))
        have O2 := Lib.hid (OA.out.trans (Only.alloc [g] wr (.cells #[.int .i64 0, .int .i64 0, .int .i64 0, .bool false, .bool false, .bool false] 37)))
        clear hat
        go_wp2_with fail
        go_roundw
        case rel => exact ⟨i + 1, rfl, by omega, by rw [dn_none _ HO.out], by rw [rowAt_same _ HO.out rfl]; exact RB.out, O2.out⟩
        case measure => simp only [intOf, Int.toNat_natCast]; omega
      | some s =>
        obtain ⟨sv, sp, sf, sw, sx⟩ := s
        have c0 := RA.out.row.range i _ hat 0 _ rfl
        have c1 := RA.out.row.range i _ hat 1 _ rfl
        have c2 := RA.out.row.range i _ hat 2 _ rfl
        have c3 := RA.out.row.range i _ hat 3 _ rfl
        have c4 := RA.out.row.range i _ hat 4 _ rfl
        have c5 := RA.out.row.range i _ hat 5 _ rfl
        rw [Nat.add_zero] at c0
        replace c0 : wr.cell? ⟨g, i * 6, none⟩ = some (.int .i64 sv) := c0
        replace c1 : wr.cell? ⟨g, i * 6 + 1, none⟩ = some (.int .i64 sp) := c1
        replace c2 : wr.cell? ⟨g, i * 6 + 2, none⟩ = some (.int .i64 sf) := c2
        replace c3 : wr.cell? ⟨g, i * 6 + 3, none⟩ = some (.bool sw) := c3
        replace c4 : wr.cell? ⟨g, i * 6 + 4, none⟩ = some (.bool sx) := c4
        replace c5 : wr.cell? ⟨g, i * 6 + 5, none⟩ = some (.bool true) := c5
        have RB := Lib.hid (RA.out.kept (Only.alloc [] wr (.cells #[.int .i64 sv, .int .i64 sp, .int .i64 sf, .bool sw, .bool sx, .bool true] 37)) (by simp) (by simp))
        have O2 := Lib.hid (OA.out.trans (Only.alloc [g] wr (.cells #[.int .i64 sv, .int .i64 sp, .int .i64 sf, .bool sw, .bool sx, .bool true] 37)))
        clear hat
        by_cases e1 : sf = c
        · subst e1
          have fr := fun j hj => (RA.out.row.free i (by rw [RA.out.len]; exact hil) j hj).2
          have f0 := fr 0 (by omega)
          have f1 := fr 1 (by omega)
          have f2 := fr 2 (by omega)
          have f3 := fr 3 (by omega)
          have f4 := fr 4 (by omega)
          have f5 := fr 5 (by omega)
          rw [Nat.add_zero] at f0
          clear fr
          go_wp2_with fail
          have hP := RA.out.put i none hil
          have ho : off (fun s : SlotT => decide (s.2.2.1 = sf)) (some (sv, sp, sf, sw, sx)) = none := by simp [off]
          refine ⟨⟨i + 1, by simp, by omega, ?_, ?_, ?_⟩, by simp only [intOf, Int.toNat_natCast]; omega⟩
          · rw [dn_some _ HO.out, if_pos (by simp)]; rfl
          · rw [rowAt_succ _ HO.out, ho]; exact hP.1.kept (Only.alloc [] _ _) (by simp) (by simp)
          · exact (OA.out.trans hP.2).trans (Only.alloc _ _ _)
        · skip
          go_wp2_with fail
          go_roundw
          case rel => exact ⟨i + 1, rfl, by omega, by rw [dn_some _ HO.out, if_neg (by simp [e1])]; rfl, by rw [rowAt_same _ HO.out (by simp [off, e1])]; exact RB.out, O2.out⟩
          case measure => simp only [intOf, Int.toNat_natCast]; omega
    · obtain rfl : i = room := by omega
      go_wp2
      go_ret
      have hall := RA.out
      rw [← hlen.out, rowAt_all, hlen.out] at hall
      exact ⟨by rw [hlen.out]; rfl, hall, OA.out⟩
end Tl
end Go.Proofs.Ytcajclalpmfafaa
