/-
  The law's of and same: has a TLB just these places? Conditions: that both lie there.
-/
import Derived.Test.YtcajclalpmfafaaTlRefDrop
import Derived.Lib.QuietBelow
import Derived.Deep.QuietTactic
import Derived.BigQuiet
namespace Go.Proofs.Ytcajclalpmfafaa
open Go.RowKit Go.Maps
namespace Tl
open Ph (Only)

theorem RTlb.keptB {w w' : World} {r g room next B : Nat} {ps : List (Option SlotT)} (h : RTlb w r g room next ps) (ho : Below B w w') (hr : r < B) (hg : g < B) : RTlb w' r g room next ps :=
  { h with lay := (ho.block r hr).trans h.lay, row := h.row.keptB ho hg }
theorem of_any (v p f : Int) (wr ex : Bool) (w : World) :
    Calls Try.prog 11 #[.agg #[.int .i64 v, .int .i64 p, .int .i64 f, .bool wr, .bool ex]] w fun e w' => e = .returned (.agg #[.int .i64 v, .int .i64 p, .int .i64 f, .bool wr, .bool ex, .bool true]) ∧ Below w.heap.size w w' := by
  go_enter Try.func11, Try.ntmps11
  go_wp2
  refine bodyPost_ret (v := .agg #[.int .i64 v, .int .i64 p, .int .i64 f, .bool wr, .bool ex, .bool true]) (by simp [results, Try.results11, go_sem]) rfl ⟨rfl, ?_⟩
  exact ((Below.refl _ _).alloc (Nat.le_refl _) _).alloc (by simp) _
theorem slots_split {ps : List (Option SlotT)} {i : Nat} {o : Option SlotT} (h : ps[i]? = some o) : slots ps = slots (ps.take i) ++ (slots [o] ++ slots (ps.drop (i + 1))) := by
  obtain ⟨hi, hx⟩ := List.getElem?_eq_some_iff.1 h
  have h1 : ps = ps.take i ++ ([o] ++ ps.drop (i + 1)) := by
    rw [← hx]
    have := (List.take_append_drop i ps).symm
    rw [List.drop_eq_getElem_cons hi] at this
    exact this
  conv => lhs; rw [h1]
  unfold slots
  rw [List.filterMap_append, List.filterMap_append]
theorem slots_next_none {ps : List (Option SlotT)} {i : Nat} (h : ps[i]? = some none) : (slots (ps.take (i + 1))).length = (slots (ps.take i)).length := by
  rw [take_next' h]
  unfold slots
  simp
theorem slots_next_some {ps : List (Option SlotT)} {i : Nat} {s : SlotT} (h : ps[i]? = some (some s)) : (slots (ps.take (i + 1))).length = (slots (ps.take i)).length + 1 := by
  rw [take_next' h]
  unfold slots
  simp
theorem slots_at {ps : List (Option SlotT)} {i : Nat} {s : SlotT} (h : ps[i]? = some (some s)) : (slots ps)[(slots (ps.take i)).length]? = some s := by
  rw [slots_split h, List.getElem?_append_right (Nat.le_refl _), Nat.sub_self]
  rfl
set_option maxRecDepth 100000 in
set_option maxHeartbeats 1000000 in
theorem same_true (p m r g room next nx : Nat) (ps : List (Option SlotT)) (w : World) (hT : Tlb w p m room next ps) (hR : RTlb w r g room nx ps) :
    Calls Try.prog 19 #[.pointer (some ⟨p, 0, none⟩), .pointer (some ⟨r, 0, none⟩)] w fun e w' => e = .returned (.bool true) ∧ Below w.heap.size w w' := by
  have HT := Lib.hid hT
  have HR := Lib.hid hR
  clear hT hR
  go_enter Try.func19, Try.ntmps19
  go_wp2_with fail
  refine (list_any p m room next ps _ HT.out).mono ?_
  rintro e w1 ⟨L, rfl, K1, hL, b1⟩
  have R1 := Lib.hid (HR.out.kept (Only.of b1 []) (by simp) (by simp))
  have B1 := Lib.hid b1
  have hz1 := b1.size
  have zL := K1.lt
  have zr := R1.out.lay.lt
  have zg := R1.out.row.lt
  have hlen := Lib.hid R1.out.len
  have hhi := R1.out.high
  have hsl := slots_len ps
  rw [hlen.out] at hsl
  have HK := Lib.hid K1
  clear b1 K1 HT HR
  go_wp2_with fail
  go_loopw [6, 7] (fun n q wr => ∃ i : Nat, q = .int .i64 i ∧ i ≤ room ∧ n = .int .i64 ((slots (ps.take i)).length : Nat) ∧ Below w1.heap.size w1 wr) (fun _ q _ => room - (intOf q).toNat)
  case atStart => exact ⟨0, rfl, Nat.zero_le _, rfl, Below.refl _ _⟩
  case round =>
    obtain ⟨i, rfl, hi, rfl, hB⟩ := hrel
    have HB := Lib.hid hB
    have RA := Lib.hid (R1.out.keptB hB zr zg)
    have KA := Lib.hid (HK.out.keptB hB zL)
    have hsz := hB.size
    have k0 := RA.out.lay.cell 0
    simp only [List.getElem?_cons_zero] at k0
    have hrl := RA.out.lay.lt
    have hgl := RA.out.row.lt
    have hLl := KA.out.lt
    clear hB
    by_cases hil : i < room
    · obtain ⟨o, ho⟩ : ∃ o, ps[i]? = some o := ⟨ps[i]'(by rw [hlen.out]; exact hil), List.getElem?_eq_getElem _⟩
      have HO := Lib.hid ho
      cases o with
      | none =>
        have c5 := RA.out.row.range i _ ho 5 _ rfl
        clear ho
        go_wp2_with fail
        go_roundw
        case rel => exact ⟨i + 1, rfl, by omega, by rw [slots_next_none HO.out], HB.out⟩
        case measure => simp only [intOf, Int.toNat_natCast]; omega
      | some s =>
        obtain ⟨sv, sp, sf, sw, sx⟩ := s
        have c0 := RA.out.row.range i _ ho 0 _ rfl
        have c1 := RA.out.row.range i _ ho 1 _ rfl
        have c2 := RA.out.row.range i _ ho 2 _ rfl
        have c3 := RA.out.row.range i _ ho 3 _ rfl
        have c4 := RA.out.row.range i _ ho 4 _ rfl
        have c5 := RA.out.row.range i _ ho 5 _ rfl
        rw [Nat.add_zero] at c0
        replace c0 : wr.cell? ⟨g, i * 6, none⟩ = some (.int .i64 sv) := c0
        replace c1 : wr.cell? ⟨g, i * 6 + 1, none⟩ = some (.int .i64 sp) := c1
        replace c2 : wr.cell? ⟨g, i * 6 + 2, none⟩ = some (.int .i64 sf) := c2
        replace c3 : wr.cell? ⟨g, i * 6 + 3, none⟩ = some (.bool sw) := c3
        replace c4 : wr.cell? ⟨g, i * 6 + 4, none⟩ = some (.bool sx) := c4
        replace c5 : wr.cell? ⟨g, i * 6 + 5, none⟩ = some (.bool true) := c5
        have hsa := slots_at ho
        have SN := Lib.hid (slots_next_some ho)
        obtain ⟨n, hn⟩ : ∃ n, n = (slots (ps.take i)).length := ⟨_, rfl⟩
        rw [← hn] at hsa SN ⊢
        have hnl : n < (slots ps).length := (List.getElem?_eq_some_iff.1 hsa).1
        have d0 := KA.out.range n _ hsa 0 _ rfl
        have d1 := KA.out.range n _ hsa 1 _ rfl
        have d2 := KA.out.range n _ hsa 2 _ rfl
        have d3 := KA.out.range n _ hsa 3 _ rfl
        have d4 := KA.out.range n _ hsa 4 _ rfl
        rw [Nat.add_zero] at d0
        replace d0 : wr.cell? ⟨L, n * 5, none⟩ = some (.int .i64 sv) := d0
        replace d1 : wr.cell? ⟨L, n * 5 + 1, none⟩ = some (.int .i64 sp) := d1
        replace d2 : wr.cell? ⟨L, n * 5 + 2, none⟩ = some (.int .i64 sf) := d2
        replace d3 : wr.cell? ⟨L, n * 5 + 3, none⟩ = some (.bool sw) := d3
        replace d4 : wr.cell? ⟨L, n * 5 + 4, none⟩ = some (.bool sx) := d4
        have hge : decide (((slots ps).length : Int) ≤ (n : Int)) = false := decide_eq_false (by omega)
        have hii : (i : Int) < (room : Int) := by omega
        have hi0 : (0 : Int) ≤ (i : Int) := by omega
        have hni : (n : Int) < ((slots ps).length : Int) := by omega
        have hn0 : (0 : Int) ≤ (n : Int) := by omega
        have hne : ∀ w, (binOp .neq 37 (.agg #[.int .i64 sv, .int .i64 sp, .int .i64 sf, .bool sw, .bool sx, .bool true]) (.agg #[.int .i64 sv, .int .i64 sp, .int .i64 sf, .bool sw, .bool sx, .bool true])).run Try.prog w = .ok (.bool false) w := fun w => by
          have := neqRef ((sv, sp, sf, sw, sx), true) ((sv, sp, sf, sw, sx), true) w
          simpa using this
        have DM := Lib.hid (fun w => of_any sv sp sf sw sx w)
        clear ho hsa hn
        go_wp2_with fail
        have kk := cell_regrown k0
        have cc0 := cell_regrown c0
        have cc1 := cell_regrown c1
        have cc2 := cell_regrown c2
        have cc3 := cell_regrown c3
        have cc4 := cell_regrown c4
        have cc5 := cell_regrown c5
        have dd0 := cell_regrown d0
        have dd1 := cell_regrown d1
        have dd2 := cell_regrown d2
        have dd3 := cell_regrown d3
        have dd4 := cell_regrown d4
        refine wp_region_quiet_below (by kernel_rfl) (by kernel_rfl) ?_
        repeat (quiet_step (first | (go_at_call 11; exact Calls.regrown_of (DM.out _))))
        refine wpQuiet_nil ?_
        intro _ hw'
        obtain ⟨⟨dq, osq⟩, hw''⟩ := hw'
        subst hw''
        have hb4 := Lib.hid (HB.out.trans ((below_regrown wr dq osq).mono hsz))
        clear kk cc0 cc1 cc2 cc3 cc4 cc5 dd0 dd1 dd2 dd3 dd4 k0 c0 c1 c2 c3 c4 c5 d0 d1 d2 d3 d4 RA KA HB hrl hgl hLl hsz hne
        generalize Go.Sort.grow (redrawn wr _) _ = w4 at *
        have hge' : decide ((slots ps).length ≤ n) = false := decide_eq_false (by omega)
        go_wp2_with fail
        go_roundw
        case rel => exact ⟨i + 1, rfl, by omega, by rw [SN.out]; rfl, hb4.out⟩
        case measure => simp only [intOf, Int.toNat_natCast]; omega
    · obtain rfl : i = room := by omega
      have hnn : (slots (ps.take i)).length = (slots ps).length := by rw [List.take_of_length_le (by rw [hlen.out]; exact Nat.le_refl _)]
      rw [hnn]
      go_wp2_with fail
      go_ret
      exact ⟨rfl, B1.out.trans (HB.out.mono hz1)⟩
end Tl
end Go.Proofs.Ytcajclalpmfafaa
