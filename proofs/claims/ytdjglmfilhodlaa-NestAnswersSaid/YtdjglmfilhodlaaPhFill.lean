/-
  What phys's Clone and Fill do with a memory; conditions: that a memory lies there, and that each argument is of its Go type.
-/
import Derived.Test.YtdjglmfilhodlaaPhNew
import Derived.StillTailTactics
namespace Go.Proofs.Ytdjglmfilhodlaa
open Go.RowKit
namespace Ph
/-- A region that draws its order: all reads, in the text's order, in a world of which we know enough; then what writes. -/
theorem still_tail {id : Nat} {Q : Exit → Act → World → Prop} {a : Act} {w : World} {l : List Oper} {S : World → Prop} (n : Nat) (hm : Try.prog.follows .mixedOrders = true) (hB : Region.lexTailB .any l.toArray n = true) (hS : S w.drew)
    (h : ∀ w', S w' → wpStill Try.prog l.toArray w' (fun a' => wpList Try.prog l.toArray Q (l.drop n) a' w') (l.take n) a) : (Code.region id l.toArray true).wp Try.prog Q a w :=
  wp_region_still_tail n hm hB (h w.drew hS)
theorem still_load {t : TypeId} {d : TypeDesc} {w : World} {ops : Array Oper} {rest : List Oper} {op : Oper} {a : Act} {Q : Act → Prop} (x : Operand) (b o : Nat) (l : List Value) (hu : Try.prog.underlying t = some d) (hd : d.isRow = true) (hi : (Try.prog.info? t).map (·.size) = some l.length)
    (hg : op.guard = none) (ho : op.op = .load t x) (hx : a.eval x = .pointer (some ⟨b, o, none⟩)) (hb : w.rangeAt b o l)
    (h : wpStill Try.prog ops w Q rest (a.put op.dst (.agg l.toArray))) : wpStill Try.prog ops w Q (op :: rest) a := by
  refine wpStill_step (fun K hK => ?_)
  have hw : Region.wanted op (yielded ops a.tmps) = true := by simp [Region.wanted, hg]
  rw [if_pos hw]
  unfold Oper.still execOp
  simp only [ho, hx, Instr.loadAt, Instr.sureAddr, Sem.run_bind, Sem.run_pure, Result.andThen_ok, run_loadVar_mid _ b o t l d hb hu hd hi]
  exact ⟨rfl, hK _ h⟩
theorem cloneF_any (F n cap : Nat) (z : Nat → Int) (w : World) (hn : 0 < n) (h2 : n ≤ 1024) (hR : Row w F (256 * n) z) :
    Calls Try.prog 28 #[.slice (some ⟨F, 0, none⟩) n cap] w fun e w' => ∃ g c, e = .returned (.slice (some ⟨g, 0, none⟩) n c) ∧ Row w' g (256 * n) z ∧ Only [] w w' ∧ w.heap.size ≤ g := by
  obtain ⟨i0, hi, hz0, hz1, hz2⟩ := info_parts infoF
  have hq := fun wx => not_nil wx ⟨F, 0, none⟩ n cap 71 _ Try.underlying71
  go_enter Try.func28, Try.ntmps28
  have own0 : (w.alloc (.cells #[] 74)).ownsRow w.heap.size 74 256 (.slice (some ⟨w.heap.size, 0, none⟩) 0 0) 0 [] :=
    World.ownsRow_lit w #[] 0 (Nat.le_refl _) (by decide) rfl
  have news : ∀ j u, (vsN (256 * n) z)[j]? = some u → (w.alloc (.cells #[] 74)).cell? ((⟨F, 0, none⟩ : Addr).add j) = some u :=
    vsN_news (fun j hj => by rw [World.cell?_alloc_past _ _ _ hR.lt, Nat.zero_add]; exact hR.cell j hj)
  have zl : (Value.agg zeroL.toArray).cells.size = 256 := by show zeroL.toArray.size = 256; rw [List.size_toArray, zeroL_len]
  have O := Lib.hid own0
  have NW := Lib.hid news
  have H8 := Lib.hid hR.b8
  have ZL := Lib.hid zl
  have Z0 := Lib.hid hz0
  clear own0 news hR zl hz0
  go_wp2_with (at_builtin; refine wpList_append_lies _ rfl (.tmp 5) (.tmp 6) 71 rfl w.heap.size 74 i0 (.agg zeroL.toArray) 256 256 Try.underlying71 hi Z0.out hz1 hz2 ZL.out (by decide) (.slice (some ⟨w.heap.size, 0, none⟩) 0 0) 0 [] rfl O.out ⟨F, 0, none⟩ n cap (vsN (256 * n) z) rfl (by rw [vsN_len, Nat.mul_comm]) NW.out (vsN_one _ _) hn (by unfold maxLen; omega) (by omega) (by simp) _ rfl ?_; intro g c w1 hown hgrow hat hlt)
  have own1 := Lib.hid hown
  have gr := Lib.hid hgrow
  clear hown hgrow hat
  simp only [Nat.zero_add, List.nil_append] at own1
  obtain ⟨hr, hg⟩ := own_row own1.out (Nat.mul_comm 256 n) H8.out
  refine bodyPost_ret (v := .slice (some ⟨g, 0, none⟩) n c) (by simp [results, Try.results28]) rfl ⟨g, c, rfl, hr, Only.of ?_ _, hg⟩
  exact ((Below.refl _ _).alloc (Nat.le_refl _) _).grown gr.out (by simp) (by intro k hk; simp [Value.ownBlock] at hk; omega)
theorem clone_any (m F n c : Nat) (z : Nat → Int) (w : World) (hM : Mem w m F n c z) (hn : 0 < n) :
    Calls Try.prog 11 #[.pointer (some ⟨m, 0, none⟩)] w (NewEnd n z w (fun p => p)) := by
  have hf := hM.few
  have hh := hM.head
  have hR := Lib.hid hM.row
  clear hM
  go_enter Try.func11, Try.ntmps11
  go_wp2_with (go_at_call 28; refine (cloneF_any F n c z _ hn hf hR.out).mono ?_; rintro e w' ⟨g, cc, rfl, hg1, hg2, hg3⟩)
  go_ret
  have hlt := hg1.lt
  refine ⟨w'.heap.size, g, cc, rfl, ⟨by simp, by simp, hg1.kept (Only.alloc [] _ _) (by simp), by omega, hf⟩, hg2.trans (Only.alloc _ _ _), hg2.size, hg3⟩
theorem zeroF (w : World) : (zeroValue 74).run Try.prog w = .ok (.agg zeroL.toArray) w := by
  obtain ⟨i0, hi, hz0, hz1, hz2⟩ := info_parts infoF
  simp [zeroValue, typeInfo, hi, hz0]
/-- A frame's bytes are these, and noughts behind. -/
def fz (n : Nat) (y : Nat → Int) (j : Nat) : Int := if j < n then y j else 0
/-- A memory's bytes, a frame having been filled. -/
def fillz (z : Nat → Int) (k n : Nat) (y : Nat → Int) (j : Nat) : Int := if 256 * k ≤ j ∧ j < 256 * k + 256 then fz n y (j - 256 * k) else z j
theorem splice_fz (n : Nat) (y : Nat → Int) (hn : n ≤ 256) : splice zeroL 0 (vsN n y) = vsN 256 (fz n y) := by
  apply List.ext_getElem?
  intro j
  unfold splice
  rw [List.take_zero, List.nil_append, Nat.zero_add, vsN_len]
  by_cases h1 : j < n
  · rw [List.getElem?_append_left (by rw [vsN_len]; exact h1), vsN_at _ _ _ h1, vsN_at _ _ _ (by omega)]
    unfold fz
    rw [if_pos h1]
  · rw [List.getElem?_append_right (by rw [vsN_len]; omega), vsN_len, List.getElem?_drop, show n + (j - n) = j by omega]
    by_cases h2 : j < 256
    · rw [zeroL_at _ h2, vsN_at _ _ _ h2]
      unfold fz
      rw [if_neg h1]
    · rw [List.getElem?_eq_none (by rw [zeroL_len]; omega), List.getElem?_eq_none (by rw [vsN_len]; omega)]
theorem setC_size (b : Nat) : ∀ (vs : List Value) (o : Nat) (w : World), (w.setCells b o vs).heap.size = w.heap.size
  | [], _, _ => rfl
  | v :: vs, o, w => by rw [World.setCells, setC_size b vs (o + 1)]; simp
theorem setC_only {S : List Nat} {b : Nat} (hb : b ∈ S) : ∀ (vs : List Value) (o : Nat) (w : World), Only S w (w.setCells b o vs)
  | [], _, _ => Only.refl _ _
  | v :: vs, o, w => (Only.setCell w hb o v).trans (setC_only hb vs (o + 1) (w.setCell ⟨b, o, none⟩ v))
theorem Row.thereAt {w : World} {b N : Nat} {z : Nat → Int} (h : Row w b N z) (o n : Nat) (hn : o + n ≤ N) : w.there b o n := fun j hj => ⟨by rw [h.cell _ (by omega)]; rfl, h.free _ (by omega)⟩
theorem Row.rangeOf {w : World} {b N : Nat} {z : Nat → Int} (h : Row w b N z) (o n : Nat) (hn : o + n ≤ N) : w.rangeAt b o (vsN n (fun j => z (o + j))) := by
  intro j v hv
  have hj : j < n := by
    rcases Nat.lt_or_ge j n with h | h
    · exact h
    · rw [List.getElem?_eq_none (by rw [vsN_len]; exact h)] at hv
      cases hv
  rw [vsN_at _ _ _ hj] at hv
  rw [h.cell _ (by omega), ← hv]
theorem Row.filled {w : World} {F n k l : Nat} {z y : Nat → Int} (h : Row w F (256 * n) z) (hk : k < n) (h8 : ∀ j, j < l → B8 (y j)) : Row (w.setCells F (k * 256) (vsN 256 (fz l y))) F (256 * n) (fillz z k l y) := by
  have ht := h.thereAt (k * 256) 256 (by omega)
  have f8 : ∀ j, B8 (fz l y j) := fun j => by
    unfold fz
    split
    · exact h8 _ (by assumption)
    · exact ⟨by decide, by decide⟩
  refine ⟨by rw [setC_size]; exact h.lt, fun j hj => ?_, fun j hj => ?_, fun j hj => ?_⟩
  · unfold fillz
    by_cases hc : 256 * k ≤ j ∧ j < 256 * k + 256
    · rw [if_pos hc]
      have := World.rangeAt_setCells_same w F (k * 256) (vsN 256 (fz l y)) (by rw [vsN_len]; exact ht) (j - 256 * k) _ (vsN_at 256 (fz l y) _ (by omega))
      rwa [show k * 256 + (j - 256 * k) = j by omega] at this
    · rw [if_neg hc]
      have := World.rangeAt_setCells_apart (w := w) (b' := F) (o' := j) (cs := [.int .u8 (z j)]) (fun i v hv => by
        match i, hv with
        | 0, hv => rw [Nat.add_zero, h.cell j hj]; simpa using hv) F (k * 256) (vsN 256 (fz l y)) (by rw [vsN_len]; right; simp only [List.length_singleton]; omega) 0 _ rfl
      simpa using this
  · have := World.there_setCells (w := w) (b' := F) (o' := 0) (n := 256 * n) (fun j hj => by rw [Nat.zero_add]; exact ⟨by rw [h.cell j hj]; rfl, h.free j hj⟩) F (k * 256) (vsN 256 (fz l y)) j hj
    rw [Nat.zero_add] at this
    exact this.2
  · unfold fillz
    split
    · exact f8 _
    · exact h.b8 j hj
end Ph
end Go.Proofs.Ytdjglmfilhodlaa
