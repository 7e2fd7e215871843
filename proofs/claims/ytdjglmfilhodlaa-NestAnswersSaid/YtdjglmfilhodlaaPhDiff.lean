/-
  What phys's Differ answers of two memories of as many frames; conditions: that the memories lie there.
-/
import Derived.Test.YtdjglmfilhodlaaPhEq
namespace Go.Proofs.Ytdjglmfilhodlaa
open Go.RowKit
namespace Ph
theorem still_all {id : Nat} {Q : Exit → Act → World → Prop} {a : Act} {w : World} {l : List Oper} {S : World → Prop} (hm : Try.prog.follows .mixedOrders = true) (hB : Region.lexB .any l.toArray = true) (hS : S w.drew)
    (h : ∀ w', S w' → wpStill Try.prog l.toArray w' (fun a' => Q .normal a' w') l a) : (Code.region id l.toArray true).wp Try.prog Q a w :=
  wp_region_still_lit hm hB (h w.drew hS)
/-- A frame's bytes. -/
def fr (z : Nat → Int) (q : Nat) (j : Nat) : Int := z (q * 256 + j)
theorem Row.frameAt {w : World} {b n : Nat} {z : Nat → Int} (h : Row w b (256 * n) z) (q : Nat) (hq : q < n) : w.rangeAt b (q * 256) (vsN 256 (fr z q)) := h.rangeOf (q * 256) 256 (by omega)
theorem still_loadg {t : TypeId} {d : TypeDesc} {w : World} {ops : Array Oper} {rest : List Oper} {op : Oper} {a : Act} {Q : Act → Prop} (x : Operand) (b o : Nat) (l : List Value) (hu : Try.prog.underlying t = some d) (hd : d.isRow = true) (hi : (Try.prog.info? t).map (·.size) = some l.length)
    (hw : Region.wanted op (yielded ops a.tmps) = true) (ho : op.op = .load t x) (hx : a.eval x = .pointer (some ⟨b, o, none⟩)) (hb : w.rangeAt b o l)
    (h : wpStill Try.prog ops w Q rest (a.put op.dst (.agg l.toArray))) : wpStill Try.prog ops w Q (op :: rest) a := by
  refine wpStill_step (fun K hK => ?_)
  rw [if_pos hw]
  unfold Oper.still execOp
  simp only [ho, hx, Instr.loadAt, Instr.sureAddr, Sem.run_bind, Sem.run_pure, Result.andThen_ok, run_loadVar_mid _ b o t l d hb hu hd hi]
  exact ⟨rfl, hK _ h⟩
/-- The frames that aren't alike, of the first k. -/
def dl (z z' : Nat → Int) (k : Nat) : List Nat := (List.range k).filter (fun q => !eqN 256 (fr z q) (fr z' q))
theorem dl_len (z z' : Nat → Int) (k : Nat) : (dl z z' k).length ≤ k := by unfold dl; exact Nat.le_trans (List.length_filter_le _ _) (by simp)
theorem dl_succ (z z' : Nat → Int) (k : Nat) : dl z z' (k + 1) = dl z z' k ++ (if eqN 256 (fr z k) (fr z' k) = true then [] else [k]) := by
  unfold dl
  rw [List.range_succ, List.filter_append]
  cases h : eqN 256 (fr z k) (fr z' k) <;> simp [h]
/-- Numbers as values. -/
def ints (l : List Nat) : List Value := l.map (fun q => Value.int .i64 ((q : Nat) : Int))
theorem ints_append (l l' : List Nat) : ints (l ++ l') = ints l ++ ints l' := by unfold ints; rw [List.map_append]
theorem infoI : (Try.prog.info? 3).map (fun i => (i.zero, i.size, i.bytes)) = some (some (.int .i64 0), 1, 8) := by kernel_rfl
/-- A list of numbers of the call's own, as a slice. -/
structure Ints (w : World) (base : Nat) (v : Value) (l : List Nat) : Prop where
  own : w.ownsRow base 3 1 v l.length (ints l)
theorem Ints.reads {w : World} {base : Nat} {v : Value} {l : List Nat} (h : Ints w base v l) : ∃ pa c, v = .slice pa l.length c ∧ ReadsI w pa l := by
  rcases h.own.2 with ⟨hv, h0⟩ | ⟨g, cap, cur, hv, hg, hb2, hnc, hm, hs, ht⟩
  · refine ⟨none, 0, by rw [hv, h0], fun hl => by omega⟩
  · refine ⟨_, cap, hv, fun _ => ⟨g, 0, rfl, fun j hj => ?_⟩⟩
    subst hv
    rw [Nat.zero_add, h.own.cellAt j (by omega)]
    unfold ints
    rw [List.getElem?_map, List.getD_eq_getElem?_getD, List.getElem?_eq_getElem hj]
    rfl
/-- How it ends. -/
def DiffEnd (l : List Nat) (w : World) (e : Ending) (w' : World) : Prop := ∃ pa c, e = .returned (.slice pa l.length c) ∧ ReadsI w' pa l ∧ Only [] w w'
theorem cells1 (w : World) (v0 : Value) (t : TypeId) : ∀ (j : Nat) (u : Value), [v0][j]? = some u → (w.alloc (.cells #[v0] t)).cell? ((⟨w.heap.size, 0, none⟩ : Addr).add j) = some u := by
  intro j u hj
  rw [add_eq, Nat.zero_add, World.cell?_alloc_new]
  match j, hj with
  | 0, hj => exact hj
  | j + 1, hj => simp at hj
set_option maxRecDepth 100000 in
set_option maxHeartbeats 1000000 in
theorem differ_any (m F n c m' F' c' : Nat) (z z' : Nat → Int) (w : World) (hM : Mem w m F n c z) (hM' : Mem w m' F' n c' z') :
    Calls Try.prog 18 #[.pointer (some ⟨m, 0, none⟩), .pointer (some ⟨m', 0, none⟩)] w (DiffEnd (dl z z' n) w) := by
  obtain ⟨i0, hi, hz0, hz1, hz2⟩ := info_parts infoI
  have hf := hM.few
  have HM := Lib.hid hM
  have HM' := Lib.hid hM'
  clear hM hM'
  go_enter Try.func18, Try.ntmps18
  go_wp2_with fail
  refine still_all (S := fun w' => Mem w' m F n c z ∧ Mem w' m' F' n c' z' ∧ Only [] w w') (by kernel_rfl) (by kernel_rfl) ⟨HM.out.kept (Only.drewN [] _ 1) (by simp) (by simp), HM'.out.kept (Only.drewN [] _ 1) (by simp) (by simp), Only.drewN [] _ 1⟩ ?_
  rintro w1 ⟨M1, M1', O1⟩
  have hh := M1.head
  have hh' := M1'.head
  have OH := Lib.hid O1
  clear M1 M1' O1
  iterate 12 still_step
  refine wpStill_nil ?_
  go_wp2_with fail
  go_loopw [5, 18] (fun v i wr => ∃ k : Nat, k ≤ n ∧ i = .int .i64 k ∧ Ints wr w.heap.size v (dl z z' k) ∧ Only [] w wr) (fun _ i _ => n - (intOf i).toNat)
  case atStart => exact ⟨0, Nat.zero_le _, rfl, ⟨World.ownsRow_nil _ _ _ _⟩, OH.out⟩
  case round =>
    obtain ⟨k, hk, rfl, hI, hO⟩ := hrel
    have IH := Lib.hid hI
    have WO := Lib.hid hO
    clear hI hO hh hh' OH
    by_cases hlt : k < n
    · go_wp2_with fail
      have O0 := WO.out
      have M0 := HM.out.kept O0 (by simp) (by simp)
      have M0' := HM'.out.kept O0 (by simp) (by simp)
      refine still_all (S := fun w' => Mem w' m F n c z ∧ Mem w' m' F' n c' z' ∧ Ints w' w.heap.size u5 (dl z z' k) ∧ Only [] w w') (by kernel_rfl) (by kernel_rfl) ⟨M0.kept (Only.drewN [] _ 1) (by simp) (by simp), M0'.kept (Only.drewN [] _ 1) (by simp) (by simp), ⟨IH.out.own⟩, O0.trans (Only.drewN [] _ 1)⟩ ?_
      rintro w2 ⟨M2, M2', I2, O2⟩
      clear O0 M0 M0' IH WO
      have hh := M2.head
      have hh' := M2'.head
      have R2 := Lib.hid (M2.row.frameAt k hlt)
      have R2' := Lib.hid (M2'.row.frameAt k hlt)
      have IH := Lib.hid I2
      have WO := Lib.hid O2
      have hneq := neqFrame (fr z k) (fr z' k)
      have hds := dl_succ z z' k
      have hdn := dl_len z z' k
      have cell1 := cells1 w2 (.int .i64 k) 3
      have C1 := Lib.hid cell1
      have hz2' := O2.size
      clear M2 M2' I2 O2 cell1
      iterate 2 still_step
      still_call ((has_yes m F n c k _ hh hlt).mono fun _ _ ⟨h, h'⟩ => ⟨h, h'.symm⟩)
      iterate 4 still_step
      still_call ((has_yes m' F' n c' k _ hh' hlt).mono fun _ _ ⟨h, h'⟩ => ⟨h, h'.symm⟩)
      iterate 9 still_step
      refine still_loadg (.tmp 37) F (k * 256) (vsN 256 (fr z k)) Try.underlying74 rfl (by rw [vsN_len]; kernel_rfl) (by kernel_rfl) rfl rfl R2.out ?_
      iterate 6 still_step
      refine still_loadg (.tmp 44) F' (k * 256) (vsN 256 (fr z' k)) Try.underlying74 rfl (by rw [vsN_len]; kernel_rfl) (by kernel_rfl) rfl rfl R2'.out ?_
      cases hE : eqN 256 (fr z k) (fr z' k)
      · rw [hE, if_neg (by decide)] at hds
        rw [hE] at hneq
        have DS := Lib.hid hds
        clear hds hE
        iterate 2 still_step
        refine wpStill_nil ?_
        go_wp2_with (at_builtin; refine wpList_append_own _ rfl (.tmp 48) (.tmp 50) 46 rfl w.heap.size 3 i0 (.int .i64 0) 1 8 Try.underlying46 hi hz0 hz1 hz2 rfl (by decide) u5 (dl z z' k).length (ints (dl z z' k)) rfl (IH.out.own.alloc _) ⟨w2.heap.size, 0, none⟩ 1 1 [.int .i64 k] rfl rfl C1.out (by simp [Value.oneCell']) (by unfold maxLen; omega) (by omega) (by simp; omega) ?_; intro v' w3 hown hgrow hnil; have OW := Lib.hid hown; have GR := Lib.hid hgrow; clear hown hgrow hnil)
        go_roundw
        case rel =>
          refine ⟨k + 1, by omega, by go_num, ⟨?_⟩, Only.of ?_ _⟩
          · rw [DS.out, List.length_append, ints_append]
            exact OW.out
          · exact (((WO.out.below (Nat.le_refl _) (by simp)).alloc WO.out.size _).grown GR.out (by simp; omega) (fun j hj => (IH.out.own.lt j hj).1))
        case measure => simp [intOf]; omega
      · rw [hE, if_pos rfl, List.append_nil] at hds
        rw [hE] at hneq
        have DS := Lib.hid hds
        clear hds hE
        iterate 2 still_step
        refine wpStill_nil ?_
        go_wp2
        go_roundw
        case rel => exact ⟨k + 1, by omega, by go_num, by rw [DS.out]; exact IH.out, WO.out⟩
        case measure => simp [intOf]; omega
    · have e : k = n := by omega
      subst e
      obtain ⟨pa, cc, rfl, hR⟩ := IH.out.reads
      go_wp2
      go_ret
      exact ⟨pa, cc, rfl, hR, WO.out⟩
end Ph
end Go.Proofs.Ytdjglmfilhodlaa
