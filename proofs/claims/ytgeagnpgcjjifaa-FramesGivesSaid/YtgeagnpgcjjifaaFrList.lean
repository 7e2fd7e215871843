/-
  Rows of numbers that grow and are read; what frames's List and GiveAll, the document's own List and the laws' owners and SameInts answer. Conditions: that a table lies there.
-/
import Derived.Test.YtgeagnpgcjjifaaFrNew
import Derived.Maps.AppendAt
import Derived.Deep.AppendLies
import Derived.Laws.OwnMore
namespace Go.Proofs.Ytgeagnpgcjjifaa
open Go.RowKit
namespace Fr
open Ph (Only)

theorem add_eq (b off k : Nat) : ({ block := b, off := off } : Addr).add k = ⟨b, off + k, none⟩ := by simp [Addr.add]
/-- Numbers as cells. -/
def ints (l : List Nat) : List Value := l.map fun (x : Nat) => .int .i64 (x : Int)
theorem ints_snoc (l : List Nat) (x : Nat) : ints (l ++ [x]) = ints l ++ [.int .i64 (x : Int)] := by simp [ints]
/-- A row of numbers that is read; its block is new. -/
def Seen (B : Nat) (w : World) (v : Value) (l : List Nat) : Prop :=
  ∃ a cap, v = .slice a l.length cap ∧ l.length ≤ cap ∧ (0 < l.length → ∃ b, a = some ⟨b, 0, none⟩ ∧ B ≤ b ∧ b < w.heap.size ∧ ∀ (i x : Nat), l[i]? = some x → w.cell? ⟨b, i, none⟩ = some (.int .i64 (x : Int)))
theorem Seen.kept {B : Nat} {w w' : World} {v : Value} {l : List Nat} {S : List Nat} (h : Seen B w v l) (ho : Only S w w') (hs : ∀ x ∈ S, x < B) : Seen B w' v l := by
  obtain ⟨a, cap, rfl, hcap, hr⟩ := h
  refine ⟨a, cap, rfl, hcap, fun hl => ?_⟩
  obtain ⟨b, rfl, hB, hlt, hc⟩ := hr hl
  exact ⟨b, rfl, hB, Nat.lt_of_lt_of_le hlt ho.size, fun i x hx => (ho.cell hlt (fun h => by have := hs b h; omega) _).trans (hc i x hx)⟩
theorem Seen.mono {B B' : Nat} {w : World} {v : Value} {l : List Nat} (h : Seen B w v l) (hb : B' ≤ B) : Seen B' w v l := by
  obtain ⟨a, cap, rfl, hcap, hr⟩ := h
  refine ⟨a, cap, rfl, hcap, fun hl => ?_⟩
  obtain ⟨b, rfl, hB, hlt, hc⟩ := hr hl
  exact ⟨b, rfl, by omega, hlt, hc⟩
theorem row_seen {w : World} {base : Nat} {v : Value} {l : List Nat} (h : w.ownsRow base 3 1 v l.length (ints l)) : Seen base w v l := by
  have hlt := h.lt
  rcases h.2 with ⟨rfl, h0⟩ | ⟨g, cap, cur, rfl, hrest⟩
  · have : l = [] := by
      cases l with
      | nil => rfl
      | cons x r => simp at h0
    subst this
    exact ⟨_, _, rfl, Nat.le_refl _, fun h => by simp at h⟩
  · refine ⟨_, _, rfl, by have := hrest; simp at this; omega, fun _ => ⟨g, rfl, (hlt g rfl).1, (hlt g rfl).2, fun i x hx => ?_⟩⟩
    have := h.cells (g := g) rfl i (.int .i64 (x : Int)) (by unfold ints; rw [List.getElem?_map, hx]; rfl)
    rw [add_eq] at this
    simpa using this
set_option maxRecDepth 100000 in
/-- One number is appended to a row. -/
theorem step_int {ops : Array Oper} {rest : List Oper} {o : Oper} {a : Act} {Q : Exit → Act → World → Prop} (hgd : o.guard = none) (s x : Operand)
    (ho : o.op = .call { callee := .builtin .append, args := #[s, x], argTypes := #[33, 33] }) (B : Nat) (v : Value) (xs : List Nat) (z : Nat) (W : World)
    (hv : W.ownsRow B 3 1 v xs.length (ints xs)) (hB : B ≤ W.heap.size) (hn : xs.length ≤ 1024)
    (hs : a.eval s = v) (hx : a.eval x = .slice (some ⟨W.heap.size, 0, none⟩) 1 1)
    (h : ∀ v' W', W'.ownsRow B 3 1 v' (xs ++ [z]).length (ints (xs ++ [z])) → Below B W W' → wpList Try.prog ops Q rest (a.put o.dst v') W') :
    wpList Try.prog ops Q (o :: rest) a (W.alloc (.cells #[.int .i64 (z : Int)] 3)) := by
  obtain ⟨i0, hi, hz0, hz1, hz2⟩ := info_parts infoInt
  refine wpList_append_own _ hgd s x 33 ho B 3 i0 (.int .i64 0) 1 8 Try.underlying33 hi hz0 hz1 hz2 rfl (by decide) v xs.length (ints xs) hs (hv.alloc _) ⟨W.heap.size, 0, none⟩ 1 1 [.int .i64 (z : Int)] hx rfl
    (World.news_of_block (cs := #[.int .i64 (z : Int)]) (t := 3) (fr := (0, 0)) (heap_alloc_new W _)) (by simp [Value.oneCell']) (by unfold maxLen; omega) (by omega) (by simp; omega) ?_
  intro v' W' hown hgrow _
  refine h v' W' ?_ ?_
  · rw [List.length_append, ints_snoc]; exact hown
  · exact ((Below.refl B W).alloc hB _).grown hgrow (by simp; omega) (fun k hk => (hv.lt k hk).1)
theorem count_any (t F : Nat) (o : Int) (os : List Nat) (w : World) (hT : Tab w t F os) :
    Calls Try.prog 15 #[.pointer (some ⟨t, 0, none⟩), .int .i64 o] w fun e w' => e = .returned (.int .i64 ((which o os).length : Nat)) ∧ w = w' := by
  by_cases h : o < 0 ∨ 10 ≤ o
  · rw [which_far hT.few h]
    exact count_no _ o w h
  · obtain ⟨k, rfl⟩ : ∃ k : Nat, o = k := ⟨o.toNat, by omega⟩
    rw [which_count]
    exact count_yes t F k os w hT (by omega)
theorem which_len (o : Int) (os : List Nat) : (which o os).length ≤ os.length := wh_len o os _
set_option maxRecDepth 100000 in
theorem list_any (t F : Nat) (o : Int) (os : List Nat) (w : World) (hT : Tab w t F os) (ht : t < w.heap.size) (hF : F < w.heap.size) :
    Calls Try.prog 14 #[.pointer (some ⟨t, 0, none⟩), .int .i64 o] w fun e w' => ∃ v, e = .returned v ∧ Seen w.heap.size w' v (which o os) ∧ Below w.heap.size w w' := by
  have HC := Lib.hid (count_any t F o os w hT)
  have hlen := hT.len
  have hwl := which_len o os
  obtain ⟨c, hc⟩ : ∃ c, c = (which o os).length := ⟨_, rfl⟩
  rw [← hc] at HC hwl
  obtain ⟨i0, hi, hz0, hz1, hz2⟩ := info_parts infoInt
  obtain ⟨w1, hmk, hown0, hg0⟩ := run_make_own (P := Try.prog) (w := w) w.heap.size 33 3 i0 (.int .i64 0) 1 Try.underlying33 hi hz0 hz1 .i64 .i64 c (by rw [hz2]; omega) (by unfold maxLen; omega) (Nat.le_refl _)
  have hb0 : Below w.heap.size w w1 := (Below.refl _ _).grown hg0 (Nat.le_refl _) (by simp)
  have HT := Lib.hid hT
  have HB0 := Lib.hid hb0
  have HW0 := Lib.hid hown0
  have hh1 := (hT.keptB hb0 ht hF).tb.head
  clear hc hi hz0 hz1 hz2 hT hb0 hown0 hg0
  go_enter Try.func14, Try.ntmps14
  go_wp2_with (go_at_call 15; refine HC.out.mono ?_; rintro e w2 ⟨rfl, rfl⟩)
  go_loopw [5, 17] (fun v q wr => ∃ i : Nat, q = .int .i64 i ∧ i ≤ os.length ∧ wr.ownsRow w.heap.size 3 1 v (wh o os i).length (ints (wh o os i)) ∧ Below w.heap.size w wr) (fun _ q _ => os.length - (intOf q).toNat)
  case atStart => exact ⟨0, rfl, Nat.zero_le _, HW0.out, HB0.out⟩
  case round =>
    obtain ⟨i, rfl, hi, hW, hB⟩ := hrel
    have HW := Lib.hid hW
    have HB := Lib.hid hB
    clear hW hB
    by_cases hil : i < os.length
    · obtain ⟨x, hx⟩ : ∃ x, os[i]? = some x := ⟨os[i], List.getElem?_eq_getElem hil⟩
      have HX := Lib.hid hx
      have hc := ((HT.out.keptB HB.out ht hF).tb.row).cell i x hx
      clear hx
      by_cases hxo : (x : Int) = o
      · subst hxo
        have hz := HB.out.size
        go_wp2_with (at_builtin; refine step_int rfl (.tmp 25) (.tmp 27) rfl w.heap.size _ (wh x os i) i wr HW.out hz (by have := wh_len x os i; omega) rfl rfl ?_; intro v' w3 hown hb; have OW := Lib.hid hown; have BW := Lib.hid hb; clear hown hb)
        go_roundw
        case rel => exact ⟨i + 1, rfl, by omega, by rw [wh_yes HX.out rfl]; exact OW.out, HB.out.trans BW.out⟩
        case measure => simp only [intOf, Int.toNat_natCast]; omega
      · have d : ((x : Int) == o) = false := by simp; exact hxo
        go_wp2_with fail
        go_roundw
        case rel => exact ⟨i + 1, rfl, by omega, by rw [wh_no HX.out hxo]; exact HW.out, HB.out⟩
        case measure => simp only [intOf, Int.toNat_natCast]; omega
    · obtain rfl : i = os.length := by omega
      go_wp2_with fail
      go_ret
      exact ⟨_, rfl, row_seen HW.out, HB.out⟩
/-- What GiveAll answers, and leaves. -/
def gaL (o : Int) (os : List Nat) : List Nat := if tk o then which o os else []
def gaO (o : Int) (os : List Nat) : List Nat := if tk o then goneP o os else os
theorem gaO_len (o : Int) (os : List Nat) : (gaO o os).length = os.length := by
  unfold gaO
  split
  · exact goneP_len o os
  · rfl
theorem Seen.at {B : Nat} {w : World} {v : Value} {l : List Nat} (h : Seen B w v l) {i x : Nat} (hx : l[i]? = some x) : ∃ b cap, v = .slice (some ⟨b, 0, none⟩) l.length cap ∧ b < w.heap.size ∧ w.cell? ⟨b, i, none⟩ = some (.int .i64 (x : Int)) := by
  obtain ⟨a, cap, rfl, _, hr⟩ := h
  have hl := (List.getElem?_eq_some_iff.1 hx).1
  obtain ⟨b, rfl, _, hlt, hc⟩ := hr (by omega)
  exact ⟨b, cap, rfl, hlt, hc i x hx⟩
theorem Seen.form {B : Nat} {w : World} {v : Value} {l : List Nat} (h : Seen B w v l) : ∃ a cap, v = .slice a l.length cap := by
  obtain ⟨a, cap, rfl, _⟩ := h
  exact ⟨a, cap, rfl⟩
theorem Seen.none (B : Nat) (w : World) : Seen B w (.slice none 0 0) [] := ⟨_, _, rfl, Nat.le_refl _, fun h => absurd h (by simp)⟩
set_option maxRecDepth 100000 in
theorem giveAll_any (t F : Nat) (o : Int) (os : List Nat) (w : World) (hT : Tab w t F os) (ht : t < w.heap.size) (hF : F < w.heap.size) :
    Calls Try.prog 22 #[.pointer (some ⟨t, 0, none⟩), .int .i64 o] w fun e w' => ∃ v, e = .returned v ∧ Seen w.heap.size w' v (gaL o os) ∧ Tab w' t F (gaO o os) ∧ Only [t, F] w w' := by
  have HT := Lib.hid hT
  clear hT
  cases htk : tk o with
  | false =>
    have e1 : gaL o os = [] := by unfold gaL; rw [htk]; rfl
    have e2 : gaO o os = os := by unfold gaO; rw [htk]; rfl
    rw [e1, e2]
    clear e1 e2
    go_enter Try.func22, Try.ntmps22
    go_wp2_with (go_at_call 30; refine (takes_any o _).mono ?_; rintro e w1 ⟨rfl, rfl⟩; rw [htk])
    go_ret
    exact ⟨_, rfl, Seen.none _ _, HT.out, Only.refl _ _⟩
  | true =>
    have e1 : gaL o os = which o os := by unfold gaL; rw [htk]; rfl
    have e2 : gaO o os = giveL os (which o os) := by unfold gaO; rw [htk]; rfl
    rw [e1, e2]
    clear e1 e2
    have HL := Lib.hid (list_any t F o os w HT.out ht hF)
    have HM := Lib.hid (fun j (h : j ∈ which o os) => (mem_which.1 h))
    have hlen := HT.out.len
    have hll := which_len o os
    generalize which o os = l at *
    go_enter Try.func22, Try.ntmps22
    go_wp2_with (first | (go_at_call 30; refine (takes_any o _).mono ?_; rintro e w1 ⟨rfl, rfl⟩; rw [htk]) | fail)
    refine HL.out.mono ?_
    rintro e w1 ⟨v, rfl, hs, hb⟩
    have HS := Lib.hid hs
    have HT1 := Lib.hid (HT.out.keptB hb ht hF)
    have HO1 := Lib.hid (Only.of hb [t, F])
    obtain ⟨va, vc, rfl⟩ := hs.form
    clear hs hb HL
    go_wp2_with fail
    go_loopw [16] (fun c wr => ∃ i : Nat, c = .int .i64 i ∧ i ≤ l.length ∧ Tab wr t F (giveL os (l.take i)) ∧ Seen w.heap.size wr (.slice va l.length vc) l ∧ Only [t, F] w wr) (fun c _ => l.length - (intOf c).toNat)
    case atStart => exact ⟨0, rfl, Nat.zero_le _, HT1.out, HS.out, HO1.out⟩
    case round =>
      obtain ⟨i, rfl, hi, hTi, hSi, hOi⟩ := hrel
      have HTI := Lib.hid hTi
      have HSI := Lib.hid hSi
      have HOI := Lib.hid hOi
      clear hTi hOi
      by_cases hil : i < l.length
      · obtain ⟨j, hj⟩ : ∃ j, l[i]? = some j := ⟨l[i], List.getElem?_eq_getElem hil⟩
        obtain ⟨b, cap, hv, hblt, hc⟩ := hSi.at hj
        injection hv with hv1 _ hv2
        subst hv1 hv2
        have HJ := Lib.hid hj
        obtain ⟨x, hx, _⟩ := HM.out j (List.mem_of_getElem? hj)
        have hjl : j < (giveL os (l.take i)).length := by rw [giveL_len]; exact (List.getElem?_eq_some_iff.1 hx).1
        obtain ⟨y, hy⟩ : ∃ y, (giveL os (l.take i))[j]? = some y := ⟨_, List.getElem?_eq_getElem hjl⟩
        have HX := Lib.hid hy
        clear hj hx hy hjl hSi
        go_wp2_with (go_at_call 29; refine (pass_any t F j _ 0 _ _ HTI.out HX.out (by omega)).mono ?_; rintro e w2 ⟨rfl, hT2, hO2⟩)
        go_roundw
        case rel => exact ⟨i + 1, rfl, by omega, by rw [giveL_next HJ.out]; exact hT2, HSI.out.kept hO2 (by simp; omega), HOI.out.trans hO2⟩
        case measure => simp only [intOf, Int.toNat_natCast]; omega
      · obtain rfl : i = l.length := by omega
        clear hSi
        have ht' := HTI.out
        rw [List.take_length] at ht'
        have HT' := Lib.hid ht'
        clear ht' HTI
        go_wp2_with fail
        go_ret
        exact ⟨_, rfl, HSI.out, HT'.out, HOI.out⟩
set_option maxRecDepth 100000 in
theorem owners_any (t F : Nat) (os : List Nat) (w : World) (hT : Tab w t F os) (ht : t < w.heap.size) (hF : F < w.heap.size) :
    Calls Try.prog 17 #[.pointer (some ⟨t, 0, none⟩), .int .i64 os.length] w fun e w' => ∃ v, e = .returned v ∧ Seen w.heap.size w' v os ∧ Below w.heap.size w w' := by
  have HT := Lib.hid hT
  have hlen := hT.len
  clear hT
  go_enter Try.func17, Try.ntmps17
  go_wp2_with fail
  go_loopw [5, 6] (fun v q wr => ∃ i : Nat, q = .int .i64 i ∧ i ≤ os.length ∧ wr.ownsRow w.heap.size 3 1 v (os.take i).length (ints (os.take i)) ∧ Below w.heap.size w wr) (fun _ q _ => os.length - (intOf q).toNat)
  case atStart => exact ⟨0, rfl, Nat.zero_le _, World.ownsRow_lit w #[] 0 (Nat.le_refl _) (by decide) rfl, (Below.refl _ _).alloc (Nat.le_refl _) _⟩
  case round =>
    obtain ⟨i, rfl, hi, hW, hB⟩ := hrel
    have HW := Lib.hid hW
    have HB := Lib.hid hB
    clear hW hB
    by_cases hil : i < os.length
    · obtain ⟨x, hx⟩ : ∃ x, os[i]? = some x := ⟨os[i], List.getElem?_eq_getElem hil⟩
      have HX := Lib.hid hx
      have HC := Lib.hid (owner_yes t F i x os wr (HT.out.keptB HB.out ht hF) hx)
      clear hx
      have hz := HB.out.size
      have hl : (os.take i).length ≤ 1024 := by rw [List.length_take]; omega
      go_wp2_with (first | (go_at_call 16; refine HC.out.mono ?_; rintro e w2 ⟨rfl, rfl⟩) | (at_builtin; refine step_int rfl (.tmp 13) (.tmp 17) rfl w.heap.size _ (os.take i) x wr HW.out hz hl rfl rfl ?_; intro v' w3 hown hb; have OW := Lib.hid hown; have BW := Lib.hid hb; clear hown hb))
      go_roundw
      case rel => exact ⟨i + 1, rfl, by omega, by rw [show os.take (i + 1) = os.take i ++ [x] by rw [List.take_add_one, HX.out]; rfl]; exact OW.out, HB.out.trans BW.out⟩
      case measure => simp only [intOf, Int.toNat_natCast]; omega
    · obtain rfl : i = os.length := by omega
      have hw' := HW.out
      rw [List.take_length] at hw'
      have HW' := Lib.hid hw'
      clear hw' HW
      go_wp2_with fail
      go_ret
      exact ⟨_, rfl, row_seen HW'.out, HB.out⟩
set_option maxRecDepth 100000 in
theorem rlist_any (r G : Nat) (o : Int) (os : List Nat) (w : World) (hT : RTab w r G os) (hlen : os.length ≤ 1024) (ht : r < w.heap.size) (hF : G < w.heap.size) :
    Calls Try.prog 12 #[.pointer (some ⟨r, 0, none⟩), .int .i64 o] w fun e w' => ∃ v, e = .returned v ∧ Seen w.heap.size w' v (which o os) ∧ Below w.heap.size w w' := by
  have HT := Lib.hid hT
  clear hT
  go_enter Try.func12, Try.ntmps12
  go_wp2_with fail
  go_loopw [5, 6] (fun v q wr => ∃ i : Nat, q = .int .i64 i ∧ i ≤ os.length ∧ wr.ownsRow w.heap.size 3 1 v (wh o os i).length (ints (wh o os i)) ∧ Below w.heap.size w wr) (fun _ q _ => os.length - (intOf q).toNat)
  case atStart => exact ⟨0, rfl, Nat.zero_le _, World.ownsRow_lit w #[] 0 (Nat.le_refl _) (by decide) rfl, (Below.refl _ _).alloc (Nat.le_refl _) _⟩
  case round =>
    obtain ⟨i, rfl, hi, hW, hB⟩ := hrel
    have HW := Lib.hid hW
    have HB := Lib.hid hB
    have hh := (HT.out.keptB hB ht hF).head
    clear hW hB
    by_cases hil : i < os.length
    · obtain ⟨x, hx⟩ : ∃ x, os[i]? = some x := ⟨os[i], List.getElem?_eq_getElem hil⟩
      have HX := Lib.hid hx
      have hc := ((HT.out.keptB HB.out ht hF).row).cell i x hx
      clear hx
      by_cases hxo : (x : Int) = o
      · subst hxo
        have hz := HB.out.size
        have hl : (wh x os i).length ≤ 1024 := by have := wh_len x os i; omega
        go_wp2_with (at_builtin; refine step_int rfl (.tmp 26) (.tmp 28) rfl w.heap.size _ (wh x os i) i wr HW.out hz hl rfl rfl ?_; intro v' w3 hown hb; have OW := Lib.hid hown; have BW := Lib.hid hb; clear hown hb)
        go_roundw
        case rel => exact ⟨i + 1, rfl, by omega, by rw [wh_yes HX.out rfl]; exact OW.out, HB.out.trans BW.out⟩
        case measure => simp only [intOf, Int.toNat_natCast]; omega
      · have d : ((x : Int) == o) = false := by simp; exact hxo
        go_wp2_with fail
        go_roundw
        case rel => exact ⟨i + 1, rfl, by omega, by rw [wh_no HX.out hxo]; exact HW.out, HB.out⟩
        case measure => simp only [intOf, Int.toNat_natCast]; omega
    · obtain rfl : i = os.length := by omega
      go_wp2_with fail
      go_ret
      exact ⟨_, rfl, row_seen HW.out, HB.out⟩
theorem eq_upto {l m : List Nat} (hl : l.length = m.length) (h : ∀ i, i < l.length → l[i]? = m[i]?) : l = m := by
  refine List.ext_getElem? fun i => ?_
  by_cases hi : i < l.length
  · exact h i hi
  · rw [List.getElem?_eq_none (by omega), List.getElem?_eq_none (by omega)]
set_option maxRecDepth 100000 in
theorem same_any (B C : Nat) (va vb : Value) (l m : List Nat) (w : World) (hl : l.length ≤ 1024) (_ : m.length ≤ 1024) (ha : Seen B w va l) (hb : Seen C w vb m) :
    Calls Try.prog 13 #[va, vb] w fun e w' => e = .returned (.bool (decide (l = m))) ∧ Below w.heap.size w w' := by
  obtain ⟨ans, hans⟩ : ∃ ans, ans = decide (l = m) := ⟨_, rfl⟩
  rw [← hans]
  have HN := Lib.hid hans
  clear hans
  have HA := Lib.hid ha
  have HB := Lib.hid hb
  obtain ⟨aa, ca, rfl⟩ := ha.form
  obtain ⟨ab, cb, rfl⟩ := hb.form
  clear ha hb
  by_cases hlm : l.length = m.length
  · go_enter Try.func13, Try.ntmps13
    have d : ((l.length : Int) != (m.length : Int)) = false := by simp; omega
    have HLM := Lib.hid hlm
    clear hlm
    go_wp2_with fail
    go_loopw [5] (fun c wr => ∃ i : Nat, c = .int .i64 i ∧ i ≤ l.length ∧ (∀ j, j < i → l[j]? = m[j]?) ∧ Below w.heap.size w wr) (fun c _ => l.length - (intOf c).toNat)
    case atStart => exact ⟨0, rfl, Nat.zero_le _, fun j hj => absurd hj (by omega), Below.refl _ _⟩
    case round =>
      obtain ⟨i, rfl, hi, hE, hBw⟩ := hrel
      have HE := Lib.hid hE
      have HW := Lib.hid hBw
      clear hE hBw
      by_cases hil : i < l.length
      · have him : i < m.length := by have := HLM.out; omega
        obtain ⟨x, hx⟩ : ∃ x, l[i]? = some x := ⟨l[i], List.getElem?_eq_getElem hil⟩
        obtain ⟨y, hy⟩ : ∃ y, m[i]? = some y := ⟨m[i], List.getElem?_eq_getElem him⟩
        obtain ⟨ba, cap, hv, hblt, hc⟩ := (HA.out.kept (Only.of HW.out []) (by simp)).at hx
        obtain ⟨bb, cap', hv', hblt', hc'⟩ := (HB.out.kept (Only.of HW.out []) (by simp)).at hy
        injection hv with hv1 _ hv2
        injection hv' with hv1' _ hv2'
        subst hv1 hv2 hv1' hv2'
        have HX := Lib.hid hx
        have HY := Lib.hid hy
        clear hx hy d
        by_cases hxy : x = y
        · subst hxy
          go_wp2_with fail
          go_region
          go_wp2_with fail
          go_roundw
          case rel =>
            have st : ∀ j, j < i + 1 → l[j]? = m[j]? := fun j hj => by
              by_cases e : j = i
              · subst e; rw [HX.out, HY.out]
              · exact HE.out j (by omega)
            have hbd := HW.out.drew
            generalize wr.drewN 1 = wq at *
            first | exact ⟨i + 1, rfl, by omega, st, hbd⟩ | ((repeat apply Exists.intro); exact ⟨⟨i + 1, rfl, by omega, st, hbd⟩, rfl⟩)
          case measure => simp only [intOf, Int.toNat_natCast]; omega
        · have dx : ((x : Int) == (y : Int)) = false := by simp; omega
          have hxy' : ¬ (x : Int) = (y : Int) := by omega
          have e : decide (l = m) = false := decide_eq_false (fun e => by
            have := HX.out
            rw [e, HY.out] at this
            injection this with this
            exact hxy this.symm)
          obtain rfl : ans = false := HN.out.trans e
          clear e
          go_wp2_with fail
          go_region
          go_wp2_with fail
          go_ret
          exact ⟨rfl, HW.out.drew⟩
      · obtain rfl : i = l.length := by omega
        have e : decide (l = m) = true := decide_eq_true (eq_upto HLM.out HE.out)
        obtain rfl : ans = true := HN.out.trans e
        clear e
        go_wp2_with fail
        go_ret
        exact ⟨rfl, HW.out⟩
  · have d : ((l.length : Int) == (m.length : Int)) = false := by simp; omega
    have e : decide (l = m) = false := decide_eq_false (fun e => hlm (by rw [e]))
    obtain rfl : ans = false := HN.out.trans e
    clear e
    go_enter Try.func13, Try.ntmps13
    go_wp2_with fail
    go_ret
    exact ⟨rfl, Below.refl _ _⟩
end Fr
end Go.Proofs.Ytgeagnpgcjjifaa
