/-
  What grant's Gone answers, and leaves; rows of grants that are read. Conditions: that the grants lie there.
-/
import Derived.Test.YtnilcmmilplbgaaGrDo
import Derived.Maps.AppendAt
import Derived.Deep.AppendLies
import Derived.Laws.OwnMore
namespace Go.Proofs.Ytnilcmmilplbgaa
open Go.RowKit
namespace Gr
open Ph (Only)
theorem add_eq (b off k : Nat) : ({ block := b, off := off } : Addr).add k = ⟨b, off + k, none⟩ := by simp [Addr.add]
def encG (x : GtT) : List Value := [.int .i64 (sta x), .int .i64 (own x), .int .i64 (frm x), .int .i64 (too x), .int .i64 (pag x), .bool (wri x)]
def flatG (l : List GtT) : List Value := l.flatMap encG
theorem flatG_snoc (l : List GtT) (x : GtT) : flatG (l ++ [x]) = flatG l ++ encG x := by simp [flatG]
theorem encG_at (x : GtT) {k : Nat} (hk : k < 6) : (encG x)[k]? = some (gC x k) := by
  match k, hk with
  | 0, _ => rfl
  | 1, _ => rfl
  | 2, _ => rfl
  | 3, _ => rfl
  | 4, _ => rfl
  | 5, _ => rfl
theorem flatG_at : ∀ (l : List GtT) (i k : Nat) (x : GtT), l[i]? = some x → k < 6 → (flatG l)[i * 6 + k]? = some (gC x k)
  | [], i, k, x, h, _ => by simp at h
  | y :: r, 0, k, x, h, hk => by
    simp at h
    subst h
    unfold flatG
    rw [List.flatMap_cons, List.getElem?_append_left (by simp [encG]; omega), Nat.zero_mul, Nat.zero_add]
    exact encG_at y hk
  | y :: r, i + 1, k, x, h, hk => by
    unfold flatG
    rw [List.flatMap_cons, List.getElem?_append_right (by simp [encG]; omega)]
    have e : (i + 1) * 6 + k - (encG y).length = i * 6 + k := by simp [encG]; omega
    rw [e]
    exact flatG_at r i k x (by simpa using h) hk
/-- A row of grants that is read; its block is new. -/
def Seen (B : Nat) (w : World) (v : Value) (l : List GtT) : Prop :=
  ∃ a cap, v = .slice a l.length cap ∧ (0 < l.length → ∃ b, a = some ⟨b, 0, none⟩ ∧ B ≤ b ∧ b < w.heap.size ∧ ∀ (i : Nat) (x : GtT), l[i]? = some x → ∀ k, k < 6 → w.cell? ⟨b, i * 6 + k, none⟩ = some (gC x k))
theorem Seen.kept {B : Nat} {w w' : World} {v : Value} {l : List GtT} {S : List Nat} (h : Seen B w v l) (ho : Only S w w') (hs : ∀ x ∈ S, x < B) : Seen B w' v l := by
  obtain ⟨a, cap, rfl, hr⟩ := h
  refine ⟨a, cap, rfl, fun hl => ?_⟩
  obtain ⟨b, rfl, hB, hlt, hc⟩ := hr hl
  exact ⟨b, rfl, hB, Nat.lt_of_lt_of_le hlt ho.size, fun i x hx k hk => (ho.cell hlt (fun h => by have := hs b h; omega) _).trans (hc i x hx k hk)⟩
theorem Seen.at {B : Nat} {w : World} {v : Value} {l : List GtT} (h : Seen B w v l) {i : Nat} {x : GtT} (hx : l[i]? = some x) : ∃ b cap, v = .slice (some ⟨b, 0, none⟩) l.length cap ∧ b < w.heap.size ∧ B ≤ b ∧ ∀ k, k < 6 → w.cell? ⟨b, i * 6 + k, none⟩ = some (gC x k) := by
  obtain ⟨a, cap, rfl, hr⟩ := h
  obtain ⟨b, rfl, hB, hlt, hc⟩ := hr (by have := (List.getElem?_eq_some_iff.1 hx).1; omega)
  exact ⟨b, cap, rfl, hlt, hB, hc i x hx⟩
theorem Seen.form {B : Nat} {w : World} {v : Value} {l : List GtT} (h : Seen B w v l) : ∃ a cap, v = .slice a l.length cap := by
  obtain ⟨a, cap, rfl, _⟩ := h
  exact ⟨a, cap, rfl⟩
theorem row_seen {w : World} {base : Nat} {v : Value} {l : List GtT} (h : w.ownsRow base 37 6 v l.length (flatG l)) : Seen base w v l := by
  have hlt := h.lt
  rcases h.2 with ⟨rfl, h0⟩ | ⟨g, cap, cur, rfl, _⟩
  · have : l = [] := by
      cases l with
      | nil => rfl
      | cons x r => simp at h0
    subst this
    exact ⟨_, _, rfl, fun h => by simp at h⟩
  · refine ⟨_, _, rfl, fun _ => ⟨g, rfl, (hlt g rfl).1, (hlt g rfl).2, fun i x hx k hk => ?_⟩⟩
    have := h.cells (g := g) rfl (i * 6 + k) (gC x k) (flatG_at l i k x hx hk)
    rw [add_eq] at this
    simpa using this
theorem infoG : (Try.prog.info? 37).map (fun i => (i.zero, i.size, i.bytes)) = some (some (.agg (encG gz).toArray), 6, 48) := by kernel_rfl
theorem info_parts {t : TypeId} {z : Value} {k b : Nat} (h : (Try.prog.info? t).map (fun i => (i.zero, i.size, i.bytes)) = some (some z, k, b)) : ∃ i, Try.prog.info? t = some i ∧ i.zero = some z ∧ i.size = k ∧ i.bytes = b := by
  obtain ⟨i, hi, hx⟩ := Option.map_eq_some_iff.1 h
  simp only [Prod.mk.injEq] at hx
  exact ⟨i, hi, hx⟩
set_option maxRecDepth 100000 in
/-- One grant is appended to a row. -/
theorem step_app {ops : Array Oper} {rest : List Oper} {o : Oper} {a : Act} {Q : Exit → Act → World → Prop} (hgd : o.guard = none) (s x : Operand)
    (ho : o.op = .call { callee := .builtin .append, args := #[s, x], argTypes := #[48, 48] }) (B : Nat) (v : Value) (xs : List GtT) (z : GtT) (W : World)
    (hv : W.ownsRow B 37 6 v xs.length (flatG xs)) (hB : B ≤ W.heap.size) (hn : xs.length ≤ 64)
    (hs : a.eval s = v) (hx : a.eval x = .slice (some ⟨W.heap.size, 0, none⟩) 1 1)
    (h : ∀ v' W', W'.ownsRow B 37 6 v' (xs ++ [z]).length (flatG (xs ++ [z])) → Below B W W' → wpList Try.prog ops Q rest (a.put o.dst v') W') :
    wpList Try.prog ops Q (o :: rest) a (W.alloc (.cells #[.int .i64 (sta z), .int .i64 (own z), .int .i64 (frm z), .int .i64 (too z), .int .i64 (pag z), .bool (wri z)] 37)) := by
  obtain ⟨i0, hi, hz0, hz1, hz2⟩ := info_parts infoG
  refine wpList_append_own _ hgd s x 48 ho B 37 i0 (.agg (encG gz).toArray) 6 48 Try.underlying48 hi hz0 hz1 hz2 rfl (by decide) v xs.length (flatG xs) hs (hv.alloc _) ⟨W.heap.size, 0, none⟩ 1 1 (encG z) hx rfl
    (World.news_of_block (cs := (encG z).toArray) (t := 37) (fr := (0, 0)) (heap_alloc_new W _)) (by simp [encG, Value.oneCell']) (by unfold maxLen; omega) (by omega) (by simp; omega) ?_
  intro v' W' hown hgrow _
  refine h v' W' ?_ ?_
  · rw [List.length_append, flatG_snoc]; exact hown
  · exact ((Below.refl B W).alloc hB _).grown hgrow (by simp; omega) (fun k hk => (hv.lt k hk).1)
theorem owns_only {W W' : World} {S : List Nat} {B size n : Nat} {e : TypeId} {v : Value} {xs : List Value} (h : W.ownsRow B e size v n xs) (ho : Only S W W') (hs : ∀ x ∈ S, x < B) : W'.ownsRow B e size v n xs := by
  refine ⟨h.1, ?_⟩
  rcases h.2 with h1 | ⟨g, cap, cur, h1, h2, h3, h4⟩
  · exact .inl h1
  · exact .inr ⟨g, cap, cur, h1, h2, (ho.block g (Array.getElem?_eq_some_iff.1 h3).1 (fun x => by have := hs g x; omega)).trans h3, h4⟩
theorem Row6.keptB {w w' : World} {b B : Nat} {g : Nat → GtT} (h : Row6 w b g) (ho : Below B w w') (hb : b < B) : Row6 w' b g :=
  ⟨Nat.lt_of_lt_of_le h.lt ho.size, fun i k hi hk => (ho.cell (p := ⟨b, _, none⟩) hb).trans (h.c i k hi hk), fun j hj => (ho.frozen (p := ⟨b, j, none⟩) hb).trans (h.fz j hj)⟩
theorem Bx1.keptB {w w' : World} {b B : Nat} {v : Value} (h : Bx1 w b v) (ho : Below B w w') (hb : b < B) : Bx1 w' b v :=
  ⟨Nat.lt_of_lt_of_le h.lt ho.size, (ho.cell (p := ⟨b, 0, none⟩) hb).trans h.c⟩
theorem only_below {S : List Nat} {a b c : World} {B : Nat} (h : Only S a b) (k : Below B b c) (hB : a.heap.size ≤ B) : Only S a c :=
  ⟨k.os.trans h.os, k.tape.trans h.tape, k.output.trans h.output, Nat.le_trans h.size k.size, fun j hj hs => (k.block j (by omega)).trans (h.block j hj hs)⟩
/-! ### Those of one, one behind the other -/
section
variable {t : Int} {g : Nat → GtT}
theorem gon_skip {n : Nat} : ∀ {m : Nat}, n ≤ m → (∀ j, n ≤ j → j < m → isOf t (g j) = false) → gonN t g m = gonN t g n ∧ gonL t g m = gonL t g n
  | 0, h, _ => by obtain rfl : n = 0 := by omega
                  exact ⟨rfl, rfl⟩
  | m + 1, h, hj => by
    by_cases e : n = m + 1
    · subst e; exact ⟨rfl, rfl⟩
    · obtain ⟨a, b⟩ := gon_skip (m := m) (by omega) (fun j h1 h2 => hj j h1 (by omega))
      have hm := hj m (by omega) (by omega)
      rw [gonN_next, gonL_next, hm, if_neg (by simp), if_neg (by simp), a, b]
      exact ⟨rfl, by simp⟩
theorem gonN_of {n j : Nat} (h : isOf t (gonN t g n j) = true) : n ≤ j ∧ isOf t (g j) = true := by
  unfold gonN at h
  split at h
  · cases h
  · rename_i h1
    exact ⟨by
      by_cases e : j < n
      · exact absurd ⟨e, h⟩ h1
      · omega, h⟩
/-- One more is found. -/
theorem gon_next {n i : Nat} (hl : lst (isOf t) (gonN t g n) 32 = some i) : n ≤ i ∧ i < 32 ∧ gonN t g n i = g i ∧ gonN t g (i + 1) = upd (gonN t g n) i gz ∧ gonL t g (i + 1) = gonL t g n ++ [g i] := by
  obtain ⟨h1, h2, h3⟩ := lst_some hl
  obtain ⟨h4, h5⟩ := gonN_of h2
  obtain ⟨a, b⟩ := gon_skip (t := t) (g := g) h4 (fun j h6 h7 => by
    have := h3 j h7
    rwa [gonN_past t g h6] at this)
  refine ⟨h4, h1, gonN_past t g h4, ?_, ?_⟩
  · rw [gonN_next, if_pos h5, a]
  · rw [gonL_next, if_pos h5, b]
/-- None is found any more. -/
theorem gon_last {n : Nat} (hn : n ≤ 32) (hl : lst (isOf t) (gonN t g n) 32 = none) : gonP g t = gonN t g n ∧ gonL t g 32 = gonL t g n :=
  gon_skip hn (fun j h1 h2 => by
    have := lst_none hl j h2
    rwa [gonN_past t g h1] at this)
end
set_option maxRecDepth 100000 in
theorem gone_any (b : Nat) (t : Int) (g : Nat → GtT) (w : World) (hR : Row6 w b g) :
    Calls Try.prog 21 #[.pointer (some ⟨b, 0, none⟩), .int .i64 t] w fun e w' => ∃ v, e = .returned v ∧ Seen w.heap.size w' v (gonL t g 32) ∧ Row6 w' b (gonP g t) ∧ Only [b] w w' := by
  have hmf : ∀ (fn : Fn) (first cap : Array Value) (w : World), (Instr.makeFunc fn first cap).run Try.prog w = .ok (.func fn first cap) w := fun _ _ _ _ => rfl
  have hlt := hR.lt
  have B0 := Lib.hid (Bx1.new w (.int .i64 t) 3)
  have O0 := Lib.hid (Only.alloc [b] w (.cells #[.int .i64 t] 3))
  have R0 := Lib.hid (hR.kept (Only.alloc [] w (.cells #[.int .i64 t] 3)) (by simp))
  clear hR
  go_enter Try.func21, Try.ntmps21
  go_wp2_with fail
  generalize w.alloc (.cells #[.int .i64 t] 3) = u at *
  refine (find_any 35 #[.pointer (some ⟨w.heap.size, 0, none⟩)] (isOf t) b g u R0.out (fun _ _ => by kernel_rfl) (fun y x hO => gone1_any x t _ y (B0.out.kept hO (by simp)))).mono ?_
  rintro e w1 ⟨rfl, hO⟩
  have B1 := Lib.hid (B0.out.kept hO (by simp))
  have O1 := Lib.hid (O0.out.trans (hO.mono (by simp)))
  have R1 := Lib.hid (R0.out.kept hO (by simp))
  obtain ⟨q0, hq0⟩ : ∃ q, q = lsI (lst (isOf t) g 32) := ⟨_, rfl⟩
  rw [← hq0]
  have HQ := Lib.hid hq0
  clear hq0 hO B0 O0 R0
  go_wp2_with fail
  go_loopg [6, 7] 33 (fun gk v q wr => ∃ n : Nat, n + gk = 33 ∧ n ≤ 32 ∧ q = .int .i64 (lsI (lst (isOf t) (gonN t g n) 32)) ∧ Row6 wr b (gonN t g n) ∧ Bx1 wr w.heap.size (.int .i64 t) ∧ wr.ownsRow (w.heap.size + 1) 37 6 v (gonL t g n).length (flatG (gonL t g n)) ∧ Only [b] w wr)
  case atStart => exact ⟨0, rfl, by omega, by rw [gonN_zero, HQ.out], by rw [gonN_zero]; exact R1.out, B1.out, ⟨rfl, .inl ⟨rfl, rfl⟩⟩, O1.out⟩
  case round =>
    obtain ⟨n, hn, hn2, rfl, hRr, hBr, hVr, hOr⟩ := hrel
    have RR := Lib.hid hRr
    have BR := Lib.hid hBr
    have VR := Lib.hid hVr
    have OR := Lib.hid hOr
    have hlt2 := hRr.lt
    clear hRr hBr hVr hOr R1 B1 O1
    cases hl : lst (isOf t) (gonN t g n) 32 with
    | none =>
      obtain ⟨e1, e2⟩ := gon_last hn2 hl
      have E1 := Lib.hid e1
      have E2 := Lib.hid e2
      simp only [lsI]
      clear hl e1 e2 hn
      go_wp2_with fail
      go_ret
      rw [E1.out, E2.out]
      refine ⟨_, rfl, ?_, RR.out, OR.out⟩
      obtain ⟨a, cap, e, h⟩ := row_seen VR.out
      exact ⟨a, cap, e, fun hl => by obtain ⟨c, e1, e2, e3⟩ := h hl; exact ⟨c, e1, by omega, e3⟩⟩
    | some i =>
      obtain ⟨h1, h2, h3, h4, h5⟩ := gon_next hl
      have H4 := Lib.hid h4
      have H5 := Lib.hid h5
      have HN := Lib.hid hn
      have i0 : ¬ (i : Int) < 0 := by omega
      simp only [lsI]
      clear hl h4 h5 hn
      go_wp2_with fail
      refine (free_any b i (gonN t g n) wr RR.out h2).mono ?_
      rintro e w2 ⟨rfl, hR2, hO2⟩
      rw [h3]
      have R2 := Lib.hid (show Row6 w2 b (gonN t g (i + 1)) by rw [H4.out]; exact hR2)
      have B2 := Lib.hid (BR.out.kept hO2 (by simp; omega))
      have V2 := Lib.hid (owns_only VR.out hO2 (by simp; omega))
      have O2 := Lib.hid (OR.out.trans hO2)
      have z2 := B2.out.lt
      have hll := gonL_len t g n
      clear hR2 hO2 RR BR VR OR
      go_wp2_with (at_builtin; refine step_app rfl (.tmp 17) (.tmp 21) rfl (w.heap.size + 1) _ (gonL t g n) (g i) w2 V2.out (by omega) (by omega) rfl rfl ?_; intro v' w3 hown hb; have OW := Lib.hid hown; have BW := Lib.hid hb; clear hown hb)
      have R3 := Lib.hid (R2.out.keptB BW.out (by omega))
      have B3 := Lib.hid (B2.out.keptB BW.out (by omega))
      have O3 := Lib.hid (only_below O2.out BW.out (by omega))
      clear R2 B2 V2 O2 BW z2 hll
      refine (find_any 35 #[.pointer (some ⟨w.heap.size, 0, none⟩)] (isOf t) b (gonN t g (i + 1)) w3 R3.out (fun _ _ => by kernel_rfl) (fun y x hO => gone1_any x t _ y (B3.out.kept hO (by simp)))).mono ?_
      rintro e w4 ⟨rfl, hO⟩
      have B4 := Lib.hid (B3.out.kept hO (by simp))
      have O4 := Lib.hid (O3.out.trans (hO.mono (by simp)))
      have R4 := Lib.hid (R3.out.kept hO (by simp))
      have V4 := Lib.hid (owns_only OW.out hO (by simp))
      have M4 := Lib.hid (show lsI (lst (isOf t) (gonN t g (i + 1)) 32) = lsI (lst (isOf t) (gonN t g (i + 1)) 32) from rfl)
      obtain ⟨q1, hq1⟩ : ∃ q, q = lsI (lst (isOf t) (gonN t g (i + 1)) 32) := ⟨_, rfl⟩
      rw [← hq1]
      have HQ1 := Lib.hid hq1
      clear hq1 hO B3 O3 R3 OW M4
      go_wp2_with fail
      go_roundg (33 - (i + 1))
      case measure => have := HN.out; omega
      case rel => exact ⟨i + 1, by omega, by omega, by rw [HQ1.out], R4.out, B4.out, by rw [H5.out]; exact V4.out, O4.out⟩
end Gr
end Go.Proofs.Ytnilcmmilplbgaa
