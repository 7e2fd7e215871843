/-
  What nest's run answers, or panics with, at every argument. Conditions: that a memory and a translation on its way lie there, and that each argument is of its Go type.
-/
import Derived.Test.YtdjglmfilhodlaaNsOwn
namespace Go.Proofs.Ytdjglmfilhodlaa
open Go.RowKit Nt
namespace Ns
open Ph En Wk
/-- What is told, as a value. -/
def Tld.val (t : Tld) : Value := .agg #[.int .i64 t.f.st, .int .i64 t.f.kd, .int .u32 t.f.ad, .bool t.f.tb, .int .i64 t.r, .int .i64 t.P, .int .u32 t.A, .bool t.W, .bool t.X]
/-- Its nine cells. -/
structure Nine (w : World) (b : Nat) (t : Tld) : Prop where
  c0 : w.cell? ⟨b, 0, none⟩ = some (.int .i64 t.f.st)
  c1 : w.cell? ⟨b, 1, none⟩ = some (.int .i64 t.f.kd)
  c2 : w.cell? ⟨b, 2, none⟩ = some (.int .u32 t.f.ad)
  c3 : w.cell? ⟨b, 3, none⟩ = some (.bool t.f.tb)
  c4 : w.cell? ⟨b, 4, none⟩ = some (.int .i64 t.r)
  c5 : w.cell? ⟨b, 5, none⟩ = some (.int .i64 t.P)
  c6 : w.cell? ⟨b, 6, none⟩ = some (.int .u32 t.A)
  c7 : w.cell? ⟨b, 7, none⟩ = some (.bool t.W)
  c8 : w.cell? ⟨b, 8, none⟩ = some (.bool t.X)
theorem Nine.keptS {w w' : World} {b : Nat} {t : Tld} {S : List Nat} (h : Nine w b t) (ho : Only S w w') (hn : b ∉ S) : Nine w' b t := by
  have hlt := block_lt_of_cell h.c0
  exact ⟨(ho.cell hlt hn 0).trans h.c0, (ho.cell hlt hn 1).trans h.c1, (ho.cell hlt hn 2).trans h.c2, (ho.cell hlt hn 3).trans h.c3, (ho.cell hlt hn 4).trans h.c4, (ho.cell hlt hn 5).trans h.c5, (ho.cell hlt hn 6).trans h.c6, (ho.cell hlt hn 7).trans h.c7, (ho.cell hlt hn 8).trans h.c8⟩
def t0 : Tld := ⟨⟨0, 0, 0, false⟩, 0, 0, 0, false, false⟩
theorem nine_new (w : World) (t : Tld) (ty : TypeId) : Nine (w.alloc (.cells #[.int .i64 t.f.st, .int .i64 t.f.kd, .int .u32 t.f.ad, .bool t.f.tb, .int .i64 t.r, .int .i64 t.P, .int .u32 t.A, .bool t.W, .bool t.X] ty)) w.heap.size t := by
  constructor <;> simp
/-- They are written. -/
def set9 (w : World) (b : Nat) (t : Tld) : World :=
  ((((((((w.setCell ⟨b, 0, none⟩ (.int .i64 t.f.st)).setCell ⟨b, 1, none⟩ (.int .i64 t.f.kd)).setCell ⟨b, 2, none⟩ (.int .u32 t.f.ad)).setCell ⟨b, 3, none⟩ (.bool t.f.tb)).setCell ⟨b, 4, none⟩ (.int .i64 t.r)).setCell ⟨b, 5, none⟩ (.int .i64 t.P)).setCell ⟨b, 6, none⟩ (.int .u32 t.A)).setCell ⟨b, 7, none⟩ (.bool t.W)).setCell ⟨b, 8, none⟩ (.bool t.X)
theorem set9_only (w : World) (b : Nat) (t : Tld) : Only [b] w (set9 w b t) := by
  unfold set9
  exact ((((((((Only.setCell w (by simp) _ _).trans (Only.setCell _ (by simp) _ _)).trans (Only.setCell _ (by simp) _ _)).trans (Only.setCell _ (by simp) _ _)).trans (Only.setCell _ (by simp) _ _)).trans (Only.setCell _ (by simp) _ _)).trans (Only.setCell _ (by simp) _ _)).trans (Only.setCell _ (by simp) _ _)).trans (Only.setCell _ (by simp) _ _)
theorem set9_nine {w : World} {b : Nat} {t t' : Tld} (h : Nine w b t) : Nine (set9 w b t') b t' := by
  obtain ⟨c0, c1, c2, c3, c4, c5, c6, c7, c8⟩ := h
  unfold set9
  constructor <;> simp [go_sem, c0, c1, c2, c3, c4, c5, c6, c7, c8]
def fineT (r : Int) (x : Fine) : Tld := ⟨⟨0, 0, 0, false⟩, r, x.P, x.A, x.W, x.X⟩
/-- How run ends. -/
def RunEnd (o : Out Fine) (cb m : Nat) (tb va : Int) (w : World) (e : Ending) (w' : World) : Prop :=
  match o with
  | .ok r x => e = .returned (fineT r x).val ∧ Only [cb] w w' ∧ Crs w' cb m tb va r
  | .bad r f => e = pan f ∧ Only [cb] w w' ∧ Crs w' cb m tb va r
theorem run_bad {o : Out Fine} {cb m : Nat} {tb va r : Int} {f : Flt} {w w' : World} {e : Ending} (T : o = .bad r f) (he : e = pan f) (ho : Only [cb] w w') (hc : Crs w' cb m tb va r) : RunEnd o cb m tb va w e w' := by
  subst T
  exact ⟨he, ho, hc⟩
theorem run_ok {o : Out Fine} {cb m : Nat} {tb va r : Int} {x : Fine} {w w' : World} {e : Ending} (T : o = .ok r x) (he : e = .returned (fineT r x).val) (ho : Only [cb] w w') (hc : Crs w' cb m tb va r) : RunEnd o cb m tb va w e w' := by
  subst T
  exact ⟨he, ho, hc⟩
/-- What is held while run's own place is looked for. -/
structure RS (w : World) (cb m F n c b7 : Nat) (z : Nat → Int) (tb va r : Int) (W X B : Bool) (f : Int) (w' : World) : Prop where
  fe : Five w' b7 true W X B f
  fc : Crs w' cb m tb va r
  fm : Mem w' m F n c z
  fo : Only [cb] w w'
theorem RS.kept {w : World} {cb m F n c b7 : Nat} {z : Nat → Int} {tb va r : Int} {W X B : Bool} {f : Int} {w' w'' : World} (h : RS w cb m F n c b7 z tb va r W X B f w') (ho : Only [] w' w'') : RS w cb m F n c b7 z tb va r W X B f w'' :=
  ⟨h.fe.keptS ho (by simp), h.fc.kept ho (by simp), h.fm.kept ho (by simp) (by simp), h.fo.next ho (by simp)⟩
section
variable {ops : Array Oper} {S : World → Prop} {o : Oper} {a : Act} {v : Value} {x : Operand}
theorem y_run (hw : Region.wanted o (yielded ops a.tmps) = true) (h : ∀ w, (execOp a.eval o).run Try.prog w = .ok (.value v) w) : YieldsIf Try.prog ops S o v a := .inl ⟨hw, fun w _ => h w⟩
theorem load_int (w : World) (b i : Nat) (z : Int) (h : w.cell? ⟨b, i, none⟩ = some (.int .i64 z)) (hx : a.eval x = .pointer (some ⟨b, i, none⟩)) (ho : o.op = .load 3 x) : (execOp a.eval o).run Try.prog w = .ok (.value (.int .i64 z)) w := by
  unfold execOp
  simp only [ho, hx]
  go_simp
theorem load_u32 (w : World) (b i : Nat) (z : Int) (h : w.cell? ⟨b, i, none⟩ = some (.int .u32 z)) (hx : a.eval x = .pointer (some ⟨b, i, none⟩)) (ho : o.op = .load 23 x) : (execOp a.eval o).run Try.prog w = .ok (.value (.int .u32 z)) w := by
  unfold execOp
  simp only [ho, hx]
  go_simp
theorem y_int (b i : Nat) (z : Int) (hw : Region.wanted o (yielded ops a.tmps) = true) (hS : ∀ w, S w → w.cell? ⟨b, i, none⟩ = some (.int .i64 z)) (x : Operand) (hx : a.eval x = .pointer (some ⟨b, i, none⟩)) (ho : o.op = .load 3 x) : YieldsIf Try.prog ops S o (.int .i64 z) a := .inl ⟨hw, fun w h => load_int w b i z (hS w h) hx ho⟩
theorem y_u32 (b i : Nat) (z : Int) (hw : Region.wanted o (yielded ops a.tmps) = true) (hS : ∀ w, S w → w.cell? ⟨b, i, none⟩ = some (.int .u32 z)) (x : Operand) (hx : a.eval x = .pointer (some ⟨b, i, none⟩)) (ho : o.op = .load 23 x) : YieldsIf Try.prog ops S o (.int .u32 z) a := .inl ⟨hw, fun w h => load_u32 w b i z (hS w h) hx ho⟩
end
set_option maxHeartbeats 4000000 in
theorem run_any (m F n c cb : Nat) (z : Nat → Int) (tb va rd root acc : Int) (w : World) (hM : Mem w m F n c z) (hC : Crs w cb m tb va rd) (hm : m ≠ cb) (hF : F ≠ cb) (h0 : 0 ≤ va) (h1 : va < 4294967296) (k0 : 0 ≤ root) (k1 : root < 4294967296) (r0 : 0 ≤ rd) (r1 : rd ≤ 90) :
    Calls Try.prog 30 #[.pointer (some ⟨cb, 0, none⟩), .int .u32 root, .int .i64 acc] w (RunEnd (runS n z tb va root acc rd) cb m tb va w) := by
  have hb : Below w.heap.size w (w.alloc (.cells #[.int .i64 0, .int .i64 0, .int .u32 0, .bool false, .int .i64 0, .int .i64 0, .int .u32 0, .bool false, .bool false] 38)) := (Below.refl _ _).alloc (Nat.le_refl _) _
  have M0 := Lib.hid (hM.kept (Only.of hb []) (by simp) (by simp))
  have C0 := Lib.hid (hC.kept (Only.of hb []) (by simp))
  have O0 := Lib.hid (Only.of hb [cb])
  have Z0 := Lib.hid (nine_new w t0 38)
  have G0 := Lib.hid (free_new w #[.int .i64 0, .int .i64 0, .int .u32 0, .bool false, .int .i64 0, .int .i64 0, .int .u32 0, .bool false, .bool false] 38)
  have hlt := hC.lt
  clear hM hC hb
  go_enter Try.func30, Try.ntmps30
  go_wp2_with fail
  simp only [t0] at Z0
  generalize w.alloc (.cells #[.int .i64 0, .int .i64 0, .int .u32 0, .bool false, .int .i64 0, .int .i64 0, .int .u32 0, .bool false, .bool false] 38) = u at *
  refine (own_any m F n c cb z tb va rd root acc u M0.out C0.out hm hF h0 h1 k0 k1 r0 r1).mono ?_
  intro e w1 hE
  have l0 := G0.out.1
  have l1 := C0.out.lt
  cases hS : ownS n z tb va root acc rd with
  | bad r f =>
    have T := Lib.hid (show runS n z tb va root acc rd = .bad r f by unfold runS; rw [hS]; rfl)
    rw [hS] at hE
    obtain ⟨rfl, O2, C2⟩ := hE
    have O3 := Lib.hid (O0.out.next O2 (by simp))
    have C3 := Lib.hid C2
    clear O2 C2 hS
    unfold pan
    go_wp2
    exact ⟨rfl, run_bad T.out rfl O3.out C3.out⟩
  | ok r e =>
    have HS := Lib.hid hS
    obtain ⟨r3, r4, hV, f0, f1⟩ := ownS_ok hS
    rw [hS] at hE
    obtain ⟨rfl, o2, c2⟩ := hE
    obtain ⟨V, W, X, B, f⟩ := e
    simp only at hV f0 f1
    subst hV
    have M2 := M0.out.kept o2 (by simpa using hm) (by simpa using hF)
    have Z2 := Z0.out.keptS o2 (by simp; omega)
    have G2 := G0.out.keptO o2 (by simp; omega)
    have O2 := O0.out.next o2 (by simp)
    have l2 := o2.size
    have ha := Only.of ((Below.refl w1.heap.size w1).alloc (Nat.le_refl _) (.cells #[.bool true, .bool W, .bool X, .bool B, .int .i64 f] 50)) []
    have M3 := Lib.hid (M2.kept ha (by simp) (by simp))
    have C3 := Lib.hid (c2.kept ha (by simp))
    have O3 := Lib.hid (O2.next ha (by simp))
    have Z3 := Lib.hid (Z2.keptS ha (by simp))
    have G3 := Lib.hid (G2.keptO ha (by simp))
    have E3 := Lib.hid (five_new w1 true W X B f 50)
    have n1 := Lib.hid (show w1.heap.size ≠ w.heap.size by omega)
    have n2 := Lib.hid (show w1.heap.size ≠ cb by have := c2.lt; omega)
    have n3 := Lib.hid (show w.heap.size ≤ w1.heap.size by omega)
    clear M0 C0 O0 Z0 G0 Z2 G2 O2 c2 ha o2 hS M2
    simp only [Ent.val]
    go_wp2_with fail
    generalize w1.alloc (.cells #[.bool true, .bool W, .bool X, .bool B, .int .i64 f] 50) = w3 at *
    generalize w1.heap.size = b7 at *
    have R3 := Lib.hid (show RS w cb m F n c b7 z tb va r W X B f w3 from ⟨E3.out, C3.out, M3.out, O3.out⟩)
    by_cases hp : 0 ≤ f ∧ f < 4096
    case neg =>
      have T := Lib.hid (show runS n z tb va root acc rd = .bad r ⟨1, 1, va, false⟩ by unfold runS; rw [HS.out]; simp only [Out.bind]; unfold ipaS; rw [if_neg hp])
      -- TREE A
      refine wp_region_held_drew (S := RS w cb m F n c b7 z tb va r W X B f) (by kernel_rfl) (R3.out.kept (Only.drewN [] w3 1)) (fun hHeld => ?_)
      generalize w3.drew = x0 at *
      refine wpAnyH_take (i := 0) (v := (.pointer (some ⟨cb, 0, none⟩))) rfl (by kernel_rfl) (by kernel_rfl) (by kernel_rfl) (fun _ _ _ h => h) (y_run (by kernel_rfl) (fun _ => by kernel_rfl)) hHeld ?_
      try simp only [Act.put, List.setIfInBounds_toArray]
      refine wpAnyH_take (i := 1) (v := (.pointer (some ⟨cb, 0, none⟩))) rfl (by kernel_rfl) (by kernel_rfl) (by kernel_rfl) (fun _ _ _ h => h) (y_run (by kernel_rfl) (fun _ => by kernel_rfl)) hHeld ?_
      try simp only [Act.put]
      refine wpAnyH_take (i := 2) (v := (.pointer (some ⟨b7, 4, none⟩))) rfl (by kernel_rfl) (by kernel_rfl) (by kernel_rfl) (fun _ _ _ h => h) (y_run (by kernel_rfl) (fun _ => by kernel_rfl)) hHeld ?_
      try simp only [Act.put]
      refine wpAnyH_take (i := 3) (v := (.int .i64 f)) rfl (by kernel_rfl) (by kernel_rfl) (by kernel_rfl) (fun _ _ _ h => h) (y_int b7 4 f (by kernel_rfl) (fun _ h => h.fe.c4) (.tmp 18) rfl rfl) hHeld ?_
      try simp only [Act.put]
      refine wpAnyH_take (i := 4) (v := (.pointer (some ⟨cb, 0, none⟩))) rfl (by kernel_rfl) (by kernel_rfl) (by kernel_rfl) (fun _ _ _ h => h) (y_run (by kernel_rfl) (fun _ => by kernel_rfl)) hHeld ?_
      try simp only [Act.put]
      refine wpAnyH_take (i := 5) (v := (.pointer (some ⟨cb, 0, none⟩))) rfl (by kernel_rfl) (by kernel_rfl) (by kernel_rfl) (fun _ _ _ h => h) (y_run (by kernel_rfl) (fun _ => by kernel_rfl)) hHeld ?_
      try simp only [Act.put]
      refine wpAnyH_take (i := 6) (v := (.pointer (some ⟨cb, 2, none⟩))) rfl (by kernel_rfl) (by kernel_rfl) (by kernel_rfl) (fun _ _ _ h => h) (y_run (by kernel_rfl) (fun _ => by kernel_rfl)) hHeld ?_
      try simp only [Act.put]
      refine wpAnyH_take (i := 7) (v := (.int .u32 va)) rfl (by kernel_rfl) (by kernel_rfl) (by kernel_rfl) (fun _ _ _ h => h) (y_u32 cb 2 va (by kernel_rfl) (fun _ h => h.fc.c2) (.tmp 22) rfl rfl) hHeld ?_
      try simp only [Act.put]
      refine wpAnyH_take (i := 10) (v := (.int .i64 acc)) rfl (by kernel_rfl) (by kernel_rfl) (by kernel_rfl) (fun _ _ _ h => h) (y_run (by kernel_rfl) (fun _ => by kernel_rfl)) hHeld ?_
      try simp only [Act.put]
      refine wpAnyH_ready (rs := [8, 15]) (by kernel_rfl) (by simp) ?_
      refine AllReadyH.cons (o := ⟨some 24, .call { callee := .value (.func 51), args := #[.tmp 23], argTypes := #[23] }, _, _, _, _⟩) rfl (fun K hK => ?_) (AllReadyH.cons (o := ⟨some 9, .alloc 62, _, _, _, _⟩) rfl (fun K hK => ?_) AllReadyH.nil)
      · go_simp
        go_at_call 51
        refine (offset_any va _ h0 h1).mono ?_
        rintro e x08 ⟨rfl, ka, hka⟩
        have hN := hHeld.kept (Only.drewN [] x0 ka)
        rw [← hka] at hN
        refine hK.out _ _ hN (fun hHeld => ?_)
        clear hK K hN hka
        try simp only [Act.put, List.setIfInBounds_toArray, List.set_cons_zero, List.set_cons_succ]
        refine wpAnyH_ready (rs := [9, 15]) (by kernel_rfl) (by simp) ?_
        refine AllReadyH.cons (o := ⟨some 25, .call { callee := .value (.func 50), args := #[.tmp 17, .tmp 19, .tmp 24], argTypes := #[105, 3, 3] }, _, _, _, _⟩) rfl (fun K hK => ?_) (AllReadyH.cons (o := ⟨some 9, .alloc 62, _, _, _, _⟩) rfl (fun K hK => ?_) AllReadyH.nil)
        · go_simp
          go_at_call 50
          refine (ipa_no cb m f _ tb va r _ hHeld.fc hp).mono ?_
          rintro e wa ⟨rfl, rfl⟩
          exact ⟨rfl, run_bad T.out rfl hHeld.fo hHeld.fc⟩
        · go_simp
          have hN := hHeld.kept (Only.alloc [] x08 (.cells #[.int .i64 0, .int .i64 0, .int .i64 0, .bool false, .bool false, .bool false] 62))
          generalize x08.alloc (.cells #[.int .i64 0, .int .i64 0, .int .i64 0, .bool false, .bool false, .bool false] 62) = x0815 at hN ⊢
          refine hK.out _ _ hN (fun hHeld => ?_)
          clear hK K hN
          try simp only [Act.put, List.setIfInBounds_toArray, List.set_cons_zero, List.set_cons_succ]
          refine wpAnyH_ready (rs := [9]) (by kernel_rfl) (by simp) ?_
          refine AllReadyH.cons (o := ⟨some 25, .call { callee := .value (.func 50), args := #[.tmp 17, .tmp 19, .tmp 24], argTypes := #[105, 3, 3] }, _, _, _, _⟩) rfl (fun K hK => ?_) AllReadyH.nil
          · go_simp
            go_at_call 50
            refine (ipa_no cb m f _ tb va r _ hHeld.fc hp).mono ?_
            rintro e wa ⟨rfl, rfl⟩
            exact ⟨rfl, run_bad T.out rfl hHeld.fo hHeld.fc⟩
      · go_simp
        have hN := hHeld.kept (Only.alloc [] x0 (.cells #[.int .i64 0, .int .i64 0, .int .i64 0, .bool false, .bool false, .bool false] 62))
        generalize x0.alloc (.cells #[.int .i64 0, .int .i64 0, .int .i64 0, .bool false, .bool false, .bool false] 62) = x015 at hN ⊢
        refine hK.out _ _ hN (fun hHeld => ?_)
        clear hK K hN
        try simp only [Act.put, List.setIfInBounds_toArray, List.set_cons_zero, List.set_cons_succ]
        refine wpAnyH_ready (rs := [8]) (by kernel_rfl) (by simp) ?_
        refine AllReadyH.cons (o := ⟨some 24, .call { callee := .value (.func 51), args := #[.tmp 23], argTypes := #[23] }, _, _, _, _⟩) rfl (fun K hK => ?_) AllReadyH.nil
        · go_simp
          go_at_call 51
          refine (offset_any va _ h0 h1).mono ?_
          rintro e x0158 ⟨rfl, ka, hka⟩
          have hN := hHeld.kept (Only.drewN [] x015 ka)
          rw [← hka] at hN
          refine hK.out _ _ hN (fun hHeld => ?_)
          clear hK K hN hka
          try simp only [Act.put, List.setIfInBounds_toArray, List.set_cons_zero, List.set_cons_succ]
          refine wpAnyH_ready (rs := [9]) (by kernel_rfl) (by simp) ?_
          refine AllReadyH.cons (o := ⟨some 25, .call { callee := .value (.func 50), args := #[.tmp 17, .tmp 19, .tmp 24], argTypes := #[105, 3, 3] }, _, _, _, _⟩) rfl (fun K hK => ?_) AllReadyH.nil
          · go_simp
            go_at_call 50
            refine (ipa_no cb m f _ tb va r _ hHeld.fc hp).mono ?_
            rintro e wa ⟨rfl, rfl⟩
            exact ⟨rfl, run_bad T.out rfl hHeld.fo hHeld.fc⟩
      -- END TREE
    case pos =>
      cases hP : placeS n z tb (f * 256 + va % 256) acc false r with
      | bad r' f' =>
        have HP := Lib.hid hP
        have T := Lib.hid (show runS n z tb va root acc rd = .bad r' f' by unfold runS; rw [HS.out]; simp only [Out.bind]; unfold ipaS; rw [if_pos hp]; simp only [hP])
        -- TREE B
        refine wp_region_held_drew (S := RS w cb m F n c b7 z tb va r W X B f) (by kernel_rfl) (R3.out.kept (Only.drewN [] w3 1)) (fun hHeld => ?_)
        generalize w3.drew = x0 at *
        refine wpAnyH_take (i := 0) (v := (.pointer (some ⟨cb, 0, none⟩))) rfl (by kernel_rfl) (by kernel_rfl) (by kernel_rfl) (fun _ _ _ h => h) (y_run (by kernel_rfl) (fun _ => by kernel_rfl)) hHeld ?_
        try simp only [Act.put, List.setIfInBounds_toArray]
        refine wpAnyH_take (i := 1) (v := (.pointer (some ⟨cb, 0, none⟩))) rfl (by kernel_rfl) (by kernel_rfl) (by kernel_rfl) (fun _ _ _ h => h) (y_run (by kernel_rfl) (fun _ => by kernel_rfl)) hHeld ?_
        try simp only [Act.put]
        refine wpAnyH_take (i := 2) (v := (.pointer (some ⟨b7, 4, none⟩))) rfl (by kernel_rfl) (by kernel_rfl) (by kernel_rfl) (fun _ _ _ h => h) (y_run (by kernel_rfl) (fun _ => by kernel_rfl)) hHeld ?_
        try simp only [Act.put]
        refine wpAnyH_take (i := 3) (v := (.int .i64 f)) rfl (by kernel_rfl) (by kernel_rfl) (by kernel_rfl) (fun _ _ _ h => h) (y_int b7 4 f (by kernel_rfl) (fun _ h => h.fe.c4) (.tmp 18) rfl rfl) hHeld ?_
        try simp only [Act.put]
        refine wpAnyH_take (i := 4) (v := (.pointer (some ⟨cb, 0, none⟩))) rfl (by kernel_rfl) (by kernel_rfl) (by kernel_rfl) (fun _ _ _ h => h) (y_run (by kernel_rfl) (fun _ => by kernel_rfl)) hHeld ?_
        try simp only [Act.put]
        refine wpAnyH_take (i := 5) (v := (.pointer (some ⟨cb, 0, none⟩))) rfl (by kernel_rfl) (by kernel_rfl) (by kernel_rfl) (fun _ _ _ h => h) (y_run (by kernel_rfl) (fun _ => by kernel_rfl)) hHeld ?_
        try simp only [Act.put]
        refine wpAnyH_take (i := 6) (v := (.pointer (some ⟨cb, 2, none⟩))) rfl (by kernel_rfl) (by kernel_rfl) (by kernel_rfl) (fun _ _ _ h => h) (y_run (by kernel_rfl) (fun _ => by kernel_rfl)) hHeld ?_
        try simp only [Act.put]
        refine wpAnyH_take (i := 7) (v := (.int .u32 va)) rfl (by kernel_rfl) (by kernel_rfl) (by kernel_rfl) (fun _ _ _ h => h) (y_u32 cb 2 va (by kernel_rfl) (fun _ h => h.fc.c2) (.tmp 22) rfl rfl) hHeld ?_
        try simp only [Act.put]
        refine wpAnyH_take (i := 10) (v := (.int .i64 acc)) rfl (by kernel_rfl) (by kernel_rfl) (by kernel_rfl) (fun _ _ _ h => h) (y_run (by kernel_rfl) (fun _ => by kernel_rfl)) hHeld ?_
        try simp only [Act.put]
        refine wpAnyH_ready (rs := [8, 15]) (by kernel_rfl) (by simp) ?_
        refine AllReadyH.cons (o := ⟨some 24, .call { callee := .value (.func 51), args := #[.tmp 23], argTypes := #[23] }, _, _, _, _⟩) rfl (fun K hK => ?_) (AllReadyH.cons (o := ⟨some 9, .alloc 62, _, _, _, _⟩) rfl (fun K hK => ?_) AllReadyH.nil)
        · go_simp
          go_at_call 51
          refine (offset_any va _ h0 h1).mono ?_
          rintro e x08 ⟨rfl, ka, hka⟩
          have hN := hHeld.kept (Only.drewN [] x0 ka)
          rw [← hka] at hN
          refine hK.out _ _ hN (fun hHeld => ?_)
          clear hK K hN hka
          try simp only [Act.put, List.setIfInBounds_toArray, List.set_cons_zero, List.set_cons_succ]
          refine wpAnyH_ready (rs := [9, 15]) (by kernel_rfl) (by simp) ?_
          refine AllReadyH.cons (o := ⟨some 25, .call { callee := .value (.func 50), args := #[.tmp 17, .tmp 19, .tmp 24], argTypes := #[105, 3, 3] }, _, _, _, _⟩) rfl (fun K hK => ?_) (AllReadyH.cons (o := ⟨some 9, .alloc 62, _, _, _, _⟩) rfl (fun K hK => ?_) AllReadyH.nil)
          · go_simp
            go_at_call 50
            refine (ipa_yes cb f (va % 256) _ hp.1 hp.2 (by omega) (by omega)).mono ?_
            rintro e wa ⟨rfl, rfl⟩
            refine hK.out _ _ hHeld (fun hHeld => ?_)
            clear hK K
            try simp only [Act.put, List.setIfInBounds_toArray, List.set_cons_zero, List.set_cons_succ]
            refine wpAnyH_ready (rs := [11, 15]) (by kernel_rfl) (by simp) ?_
            refine AllReadyH.cons (o := ⟨some 27, .call { callee := .value (.func 49), args := #[.tmp 16, .tmp 25, .tmp 26, .const (.bool false)], argTypes := #[105, 23, 3, 4] }, _, _, _, _⟩) rfl (fun K hK => ?_) (AllReadyH.cons (o := ⟨some 9, .alloc 62, _, _, _, _⟩) rfl (fun K hK => ?_) AllReadyH.nil)
            · go_simp
              go_at_call 49
              refine (place_any m F n c cb z tb va r (f * 256 + va % 256) acc false _ hHeld.fm hHeld.fc (by omega) (by omega) (by omega) (by omega)).mono ?_
              intro e wa hE
              rw [HP.out] at hE
              obtain ⟨rfl, o9, c9⟩ := hE
              exact ⟨rfl, run_bad T.out rfl (hHeld.fo.next o9 (by simp)) c9⟩
            · go_simp
              have hN := hHeld.kept (Only.alloc [] x08 (.cells #[.int .i64 0, .int .i64 0, .int .i64 0, .bool false, .bool false, .bool false] 62))
              generalize x08.alloc (.cells #[.int .i64 0, .int .i64 0, .int .i64 0, .bool false, .bool false, .bool false] 62) = x0815 at hN ⊢
              refine hK.out _ _ hN (fun hHeld => ?_)
              clear hK K hN
              try simp only [Act.put, List.setIfInBounds_toArray, List.set_cons_zero, List.set_cons_succ]
              refine wpAnyH_ready (rs := [11]) (by kernel_rfl) (by simp) ?_
              refine AllReadyH.cons (o := ⟨some 27, .call { callee := .value (.func 49), args := #[.tmp 16, .tmp 25, .tmp 26, .const (.bool false)], argTypes := #[105, 23, 3, 4] }, _, _, _, _⟩) rfl (fun K hK => ?_) AllReadyH.nil
              · go_simp
                go_at_call 49
                refine (place_any m F n c cb z tb va r (f * 256 + va % 256) acc false _ hHeld.fm hHeld.fc (by omega) (by omega) (by omega) (by omega)).mono ?_
                intro e wa hE
                rw [HP.out] at hE
                obtain ⟨rfl, o9, c9⟩ := hE
                exact ⟨rfl, run_bad T.out rfl (hHeld.fo.next o9 (by simp)) c9⟩
          · go_simp
            have hN := hHeld.kept (Only.alloc [] x08 (.cells #[.int .i64 0, .int .i64 0, .int .i64 0, .bool false, .bool false, .bool false] 62))
            generalize x08.alloc (.cells #[.int .i64 0, .int .i64 0, .int .i64 0, .bool false, .bool false, .bool false] 62) = x0815 at hN ⊢
            refine hK.out _ _ hN (fun hHeld => ?_)
            clear hK K hN
            try simp only [Act.put, List.setIfInBounds_toArray, List.set_cons_zero, List.set_cons_succ]
            refine wpAnyH_ready (rs := [9]) (by kernel_rfl) (by simp) ?_
            refine AllReadyH.cons (o := ⟨some 25, .call { callee := .value (.func 50), args := #[.tmp 17, .tmp 19, .tmp 24], argTypes := #[105, 3, 3] }, _, _, _, _⟩) rfl (fun K hK => ?_) AllReadyH.nil
            · go_simp
              go_at_call 50
              refine (ipa_yes cb f (va % 256) _ hp.1 hp.2 (by omega) (by omega)).mono ?_
              rintro e wa ⟨rfl, rfl⟩
              refine hK.out _ _ hHeld (fun hHeld => ?_)
              clear hK K
              try simp only [Act.put, List.setIfInBounds_toArray, List.set_cons_zero, List.set_cons_succ]
              refine wpAnyH_ready (rs := [11]) (by kernel_rfl) (by simp) ?_
              refine AllReadyH.cons (o := ⟨some 27, .call { callee := .value (.func 49), args := #[.tmp 16, .tmp 25, .tmp 26, .const (.bool false)], argTypes := #[105, 23, 3, 4] }, _, _, _, _⟩) rfl (fun K hK => ?_) AllReadyH.nil
              · go_simp
                go_at_call 49
                refine (place_any m F n c cb z tb va r (f * 256 + va % 256) acc false _ hHeld.fm hHeld.fc (by omega) (by omega) (by omega) (by omega)).mono ?_
                intro e wa hE
                rw [HP.out] at hE
                obtain ⟨rfl, o9, c9⟩ := hE
                exact ⟨rfl, run_bad T.out rfl (hHeld.fo.next o9 (by simp)) c9⟩
        · go_simp
          have hN := hHeld.kept (Only.alloc [] x0 (.cells #[.int .i64 0, .int .i64 0, .int .i64 0, .bool false, .bool false, .bool false] 62))
          generalize x0.alloc (.cells #[.int .i64 0, .int .i64 0, .int .i64 0, .bool false, .bool false, .bool false] 62) = x015 at hN ⊢
          refine hK.out _ _ hN (fun hHeld => ?_)
          clear hK K hN
          try simp only [Act.put, List.setIfInBounds_toArray, List.set_cons_zero, List.set_cons_succ]
          refine wpAnyH_ready (rs := [8]) (by kernel_rfl) (by simp) ?_
          refine AllReadyH.cons (o := ⟨some 24, .call { callee := .value (.func 51), args := #[.tmp 23], argTypes := #[23] }, _, _, _, _⟩) rfl (fun K hK => ?_) AllReadyH.nil
          · go_simp
            go_at_call 51
            refine (offset_any va _ h0 h1).mono ?_
            rintro e x0158 ⟨rfl, ka, hka⟩
            have hN := hHeld.kept (Only.drewN [] x015 ka)
            rw [← hka] at hN
            refine hK.out _ _ hN (fun hHeld => ?_)
            clear hK K hN hka
            try simp only [Act.put, List.setIfInBounds_toArray, List.set_cons_zero, List.set_cons_succ]
            refine wpAnyH_ready (rs := [9]) (by kernel_rfl) (by simp) ?_
            refine AllReadyH.cons (o := ⟨some 25, .call { callee := .value (.func 50), args := #[.tmp 17, .tmp 19, .tmp 24], argTypes := #[105, 3, 3] }, _, _, _, _⟩) rfl (fun K hK => ?_) AllReadyH.nil
            · go_simp
              go_at_call 50
              refine (ipa_yes cb f (va % 256) _ hp.1 hp.2 (by omega) (by omega)).mono ?_
              rintro e wa ⟨rfl, rfl⟩
              refine hK.out _ _ hHeld (fun hHeld => ?_)
              clear hK K
              try simp only [Act.put, List.setIfInBounds_toArray, List.set_cons_zero, List.set_cons_succ]
              refine wpAnyH_ready (rs := [11]) (by kernel_rfl) (by simp) ?_
              refine AllReadyH.cons (o := ⟨some 27, .call { callee := .value (.func 49), args := #[.tmp 16, .tmp 25, .tmp 26, .const (.bool false)], argTypes := #[105, 23, 3, 4] }, _, _, _, _⟩) rfl (fun K hK => ?_) AllReadyH.nil
              · go_simp
                go_at_call 49
                refine (place_any m F n c cb z tb va r (f * 256 + va % 256) acc false _ hHeld.fm hHeld.fc (by omega) (by omega) (by omega) (by omega)).mono ?_
                intro e wa hE
                rw [HP.out] at hE
                obtain ⟨rfl, o9, c9⟩ := hE
                exact ⟨rfl, run_bad T.out rfl (hHeld.fo.next o9 (by simp)) c9⟩
        -- END TREE
      | ok r' s' =>
        obtain ⟨r5, r6, hH, hf, hA, hF0, hF1⟩ := placeS_ok hP
        have T := Lib.hid (show runS n z tb va root acc rd = .ok r' ⟨f, s'.A, true && (W && s'.h.W), true && (X && s'.h.X)⟩ by unfold runS; rw [HS.out]; simp only [Out.bind]; unfold ipaS; rw [if_pos hp]; simp only [hP])
        obtain ⟨A, hf', hr', hF', hW', hX', hB'⟩ := s'
        have HP := Lib.hid hP
        simp only at hf T
        subst hf
        clear hH hA hF0 hF1 hP
        have hx := Only.of ((Below.refl w3.heap.size w3).alloc (Nat.le_refl _) (.cells #[.int .i64 0, .int .i64 0, .int .i64 0, .bool false, .bool false, .bool false] 62)) []
        have RD := Lib.hid (fun k => R3.out.kept (Only.drewN [] w3 k))
        have RA := Lib.hid (fun k => (R3.out.kept hx).kept (Only.drewN [] (w3.alloc (.cells #[.int .i64 0, .int .i64 0, .int .i64 0, .bool false, .bool false, .bool false] 62)) k))
        have ZA := Lib.hid (fun k => (six_new w3 0 0 0 false false false 62).keptS (Only.drewN [] (w3.alloc (.cells #[.int .i64 0, .int .i64 0, .int .i64 0, .bool false, .bool false, .bool false] 62)) k) (by simp))
        have GA := Lib.hid (fun k => (free_new w3 #[.int .i64 0, .int .i64 0, .int .i64 0, .bool false, .bool false, .bool false] 62).keptO (Only.drewN [] (w3.alloc (.cells #[.int .i64 0, .int .i64 0, .int .i64 0, .bool false, .bool false, .bool false] 62)) k) (by simp))
        have RB := Lib.hid (fun k => (R3.out.kept (Only.drewN [] w3 k)).kept (Only.alloc [] (w3.drewN k) (.cells #[.int .i64 0, .int .i64 0, .int .i64 0, .bool false, .bool false, .bool false] 62)))
        have ZB := Lib.hid (show ∀ k, Six ((w3.drewN k).alloc (.cells #[.int .i64 0, .int .i64 0, .int .i64 0, .bool false, .bool false, .bool false] 62)) w3.heap.size 0 0 0 false false false from fun k => six_new (w3.drewN k) 0 0 0 false false false 62)
        have GB := Lib.hid (show ∀ k, Free ((w3.drewN k).alloc (.cells #[.int .i64 0, .int .i64 0, .int .i64 0, .bool false, .bool false, .bool false] 62)) w3.heap.size from fun k => free_new (w3.drewN k) #[.int .i64 0, .int .i64 0, .int .i64 0, .bool false, .bool false, .bool false] 62)
        have Q4 := Lib.hid (show ∀ k, ((w3.drewN k).alloc (.cells #[.int .i64 0, .int .i64 0, .int .i64 0, .bool false, .bool false, .bool false] 62)).cell? ⟨b7, 4, none⟩ = some (.int .i64 f) ∧ ((w3.drewN k).alloc (.cells #[.int .i64 0, .int .i64 0, .int .i64 0, .bool false, .bool false, .bool false] 62)).cell? ⟨cb, 2, none⟩ = some (.int .u32 va) from fun k => ⟨(RB.out k).fe.c4, (RB.out k).fc.c2⟩)
        have NA := Lib.hid (show w3.heap.size ≠ cb by have : cb < w3.heap.size := C3.out.lt; omega)
        have NB := Lib.hid (show w3.heap.size ≠ b7 by have : b7 < w3.heap.size := block_lt_of_cell E3.out.c0; omega)
        have q0 : w3.drew.cell? ⟨b7, 4, none⟩ = some (.int .i64 f) ∧ w3.drew.cell? ⟨cb, 2, none⟩ = some (.int .u32 va) := ⟨(RD.out 1).fe.c4, (RD.out 1).fc.c2⟩
        have q1 : (w3.alloc (.cells #[.int .i64 0, .int .i64 0, .int .i64 0, .bool false, .bool false, .bool false] 62)).drew.cell? ⟨b7, 4, none⟩ = some (.int .i64 f) ∧ (w3.alloc (.cells #[.int .i64 0, .int .i64 0, .int .i64 0, .bool false, .bool false, .bool false] 62)).drew.cell? ⟨cb, 2, none⟩ = some (.int .u32 va) := ⟨(RA.out 1).fe.c4, (RA.out 1).fc.c2⟩
        have Q2 := Lib.hid (show ∀ k, (w3.drewN k).cell? ⟨b7, 4, none⟩ = some (.int .i64 f) ∧ (w3.drewN k).cell? ⟨cb, 2, none⟩ = some (.int .u32 va) from fun k => ⟨(RD.out k).fe.c4, (RD.out k).fc.c2⟩)
        have Q3 := Lib.hid (show ∀ k, ((w3.alloc (.cells #[.int .i64 0, .int .i64 0, .int .i64 0, .bool false, .bool false, .bool false] 62)).drewN k).cell? ⟨b7, 4, none⟩ = some (.int .i64 f) ∧ ((w3.alloc (.cells #[.int .i64 0, .int .i64 0, .int .i64 0, .bool false, .bool false, .bool false] 62)).drewN k).cell? ⟨cb, 2, none⟩ = some (.int .u32 va) from fun k => ⟨(RA.out k).fe.c4, (RA.out k).fc.c2⟩)
        have na1 : ¬ w3.heap.size = cb := NA.out
        have na2 : ¬ cb = w3.heap.size := fun x => NA.out x.symm
        have nb1 : ¬ w3.heap.size = b7 := NB.out
        have nb2 : ¬ b7 = w3.heap.size := fun x => NB.out x.symm
        clear hx
        go_region_held3 (fun w' => w'.cell? ⟨b7, 4, none⟩ = some (.int .i64 f) ∧ w'.cell? ⟨cb, 2, none⟩ = some (.int .u32 va)) (first | (with_reducible exact q0) | (with_reducible exact q1) | (with_reducible exact Q2.out _) | (with_reducible exact Q3.out _) | (with_reducible exact Q4.out _) | (with_reducible exact q9) | go_keep) (first
          | (go_at_call 51; refine (offset_any va _ h0 h1).mono ?_; rintro e w6 ⟨rfl, k, rfl⟩)
          | (go_at_call 50; (with_reducible refine (ipa_yes cb f (va % 256) _ hp.1 hp.2 (by omega) (by omega)).mono ?_); rintro e w6 ⟨rfl, rfl⟩)
          | (go_at_call 49; (with_reducible refine (place_any m F n c cb z tb va r (f * 256 + va % 256) acc false _ (RD.out _).fm (RD.out _).fc (by omega) (by omega) (by omega) (by omega)).mono ?_); intro e w9 hE; rw [HP.out] at hE; obtain ⟨rfl, o9, c9⟩ := hE; simp only [Spot.val, Hit.val]; have R9 := (RD.out _).fe.keptS o9 (by simpa using n2.out); have q9 := And.intro R9.c4 c9.c2; have O9 := Lib.hid ((RD.out _).fo.next o9 (by simp)); have E9 := Lib.hid R9; have C9 := Lib.hid c9; have L9 := Lib.hid ((Only.drewN [cb] w3 _).trans o9); clear R9 c9 o9)
          | (go_at_call 49; (with_reducible refine (place_any m F n c cb z tb va r (f * 256 + va % 256) acc false _ (RA.out _).fm (RA.out _).fc (by omega) (by omega) (by omega) (by omega)).mono ?_); intro e w9 hE; rw [HP.out] at hE; obtain ⟨rfl, o9, c9⟩ := hE; simp only [Spot.val, Hit.val]; have R9 := (RA.out _).fe.keptS o9 (by simpa using n2.out); have q9 := And.intro R9.c4 c9.c2; have O9 := Lib.hid ((RA.out _).fo.next o9 (by simp)); have E9 := Lib.hid R9; have C9 := Lib.hid c9; have Z9 := Lib.hid ((ZA.out _).keptS o9 (by simpa using NA.out)); have G9 := Lib.hid ((GA.out _).keptO o9 (by simpa using NA.out)); have L9 := Lib.hid (((Only.alloc [cb] w3 (.cells #[.int .i64 0, .int .i64 0, .int .i64 0, .bool false, .bool false, .bool false] 62)).trans (Only.drewN [cb] _ _)).trans o9); obtain ⟨s0, s1, s2, s3, s4, s5⟩ := Z9.out; have g0 := G9.out.2 0; have g1 := G9.out.2 1; have g2 := G9.out.2 2; have g3 := G9.out.2 3; have g4 := G9.out.2 4; have g5 := G9.out.2 5; clear R9 c9 o9)
          | (go_at_call 49; (with_reducible refine (place_any m F n c cb z tb va r (f * 256 + va % 256) acc false _ (RB.out _).fm (RB.out _).fc (by omega) (by omega) (by omega) (by omega)).mono ?_); intro e w9 hE; rw [HP.out] at hE; obtain ⟨rfl, o9, c9⟩ := hE; simp only [Spot.val, Hit.val]; have R9 := (RB.out _).fe.keptS o9 (by simpa using n2.out); have q9 := And.intro R9.c4 c9.c2; have O9 := Lib.hid ((RB.out _).fo.next o9 (by simp)); have E9 := Lib.hid R9; have C9 := Lib.hid c9; have Z9 := Lib.hid ((ZB.out _).keptS o9 (by simpa using NA.out)); have G9 := Lib.hid ((GB.out _).keptO o9 (by simpa using NA.out)); have L9 := Lib.hid (((Only.drewN [cb] w3 _).trans (Only.alloc [cb] _ (.cells #[.int .i64 0, .int .i64 0, .int .i64 0, .bool false, .bool false, .bool false] 62))).trans o9); obtain ⟨s0, s1, s2, s3, s4, s5⟩ := Z9.out; have g0 := G9.out.2 0; have g1 := G9.out.2 1; have g2 := G9.out.2 2; have g3 := G9.out.2 3; have g4 := G9.out.2 4; have g5 := G9.out.2 5; clear R9 c9 o9))
        all_goals rename_i hHeld
        all_goals clear hHeld na1 na2 nb1 nb2 q0 q1 q9 Q2 Q3 Q4 HS HP
        all_goals have N3 := Lib.hid (show w.heap.size < w3.heap.size from G3.out.1)
        all_goals first
          | (have S10 := Lib.hid (set6_six (f' := 0) (r' := hr') (F' := hF') (W' := hW') (X' := hX') (B' := hB') Z9.out); have ho := set6_only w9 w3.heap.size 0 hr' hF' hW' hX' hB'; have L10 := Lib.hid (L9.out.next ho (by simp)); have C10 := Lib.hid (C9.out.kept ho (by simpa using fun x => NA.out x.symm)); have E10 := Lib.hid (E9.out.keptS ho (by simpa using fun x => NB.out x.symm)); have O10 := Lib.hid (O9.out.next ho (by have := N3.out; simp; omega)); have N1 := Lib.hid (show w3.heap.size ≠ w.heap.size by have := N3.out; omega); clear ho s0 s1 s2 s3 s4 s5 g0 g1 g2 g3 g4 g5 L9 C9 E9 O9 Z9 G9; show Exit.then _ _ Exit.normal _ (set6 w9 w3.heap.size 0 hr' hF' hW' hX' hB'); generalize set6 w9 w3.heap.size 0 hr' hF' hW' hX' hB' = w10 at *; generalize w3.heap.size = hb at *)
          | (have S10 := Lib.hid (six_new w9 0 hr' hF' hW' hX' hB' 62); have ho := Only.alloc [] w9 (.cells #[.int .i64 0, .int .i64 hr', .int .i64 hF', .bool hW', .bool hX', .bool hB'] 62); have L10 := Lib.hid (L9.out.next ho (by simp)); have C10 := Lib.hid (C9.out.kept ho (by simp)); have E10 := Lib.hid (E9.out.keptS ho (by simp)); have O10 := Lib.hid (O9.out.next ho (by simp)); have N1 := Lib.hid (show w9.heap.size ≠ w.heap.size by have := N3.out; have := L9.out.size; omega); clear ho L9 C9 E9 O9; generalize w9.alloc (.cells #[.int .i64 0, .int .i64 hr', .int .i64 hF', .bool hW', .bool hX', .bool hB'] 62) = w10 at *; generalize w9.heap.size = hb at *)
        all_goals have Z10 := Lib.hid (Z3.out.keptS L10.out (by simp; omega))
        all_goals have G10 := Lib.hid (G3.out.keptO L10.out (by simp; omega))
        all_goals clear RD RA RB ZA ZB GA GB NA NB M3 C3 O3 Z3 G3 E3 R3 L10
        all_goals
          obtain ⟨e0, e1, e2, e3, e4⟩ := E10.out
          have s3 := S10.out.c3
          have s4 := S10.out.c4
          go_wp2_with fail
          refine (En.both_any true W X B f true hW' hX' false 0 w10).mono ?_
          rintro e w11 ⟨rfl, b11⟩
          have ho := Only.of b11 []
          have C11 := Lib.hid (C10.out.kept ho (by simp))
          have O11 := Lib.hid (O10.out.next ho (by simp))
          have E11 := Lib.hid (E10.out.keptS ho (by simp))
          have Z11 := Lib.hid (Z10.out.keptS ho (by simp))
          have G11 := Lib.hid (G10.out.keptO ho (by simp))
          clear C10 O10 E10 Z10 G10 ho b11 e0 e1 e2 e3 e4 s3 s4 S10
          simp only [Bool.and_self, Bool.true_and, if_true] at T ⊢
          go_wp2_with fail
          have ho := Only.alloc [] w11 (.cells #[.bool true, .bool (W && hW'), .bool (X && hX'), .bool false, .int .i64 0] 50)
          have C12 := Lib.hid (C11.out.kept ho (by simp))
          have O12 := Lib.hid (O11.out.next ho (by simp))
          have E12 := Lib.hid (E11.out.keptS ho (by simp))
          have Z12 := Lib.hid (Z11.out.keptS ho (by simp))
          have G12 := Lib.hid (G11.out.keptO ho (by simp))
          have F12 := Lib.hid (five_new w11 true (W && hW') (X && hX') false 0 50)
          have N2 := Lib.hid (show w11.heap.size ≠ w.heap.size by have := G11.out.1; omega)
          clear C11 O11 E11 Z11 G11 ho
          generalize w11.alloc (.cells #[.bool true, .bool (W && hW'), .bool (X && hX'), .bool false, .int .i64 0] 50) = w12 at *
          generalize w11.heap.size = b10 at *
          have c3 := C12.out.c3
          have e4 := E12.out.c4
          have f1 := F12.out.c1
          have f2 := F12.out.c2
          obtain ⟨t0, t1, t2, t3, t4, t5, t6, t7, t8⟩ := Z12.out
          simp only at t0 t1 t2 t3 t4 t5 t6 t7 t8
          have g0 := G12.out.2 0
          have g1 := G12.out.2 1
          have g2 := G12.out.2 2
          have g3 := G12.out.2 3
          have g4 := G12.out.2 4
          have g5 := G12.out.2 5
          have g6 := G12.out.2 6
          have g7 := G12.out.2 7
          have g8 := G12.out.2 8
          clear E12 F12 N1 N2 N3 n1 n2 n3
          go_region
          have h8 := (set9_only w12 w.heap.size ⟨⟨0, 0, 0, false⟩, r', f, A, W && hW', X && hX'⟩).trans (Only.drewN [w.heap.size] _ 1)
          have O13 := Lib.hid (O12.out.next h8 (by simp))
          have C13 := Lib.hid (C12.out.kept h8 (by simp; omega))
          have Z13 := (set9_nine (t' := ⟨⟨0, 0, 0, false⟩, r', f, A, W && hW', X && hX'⟩) Z12.out).keptS (Only.drewN [] _ 1) (by simp)
          clear t0 t1 t2 t3 t4 t5 t6 t7 t8 g0 g1 g2 g3 g4 g5 g6 g7 g8 c3 e4 f1 f2 h8 O12 C12 Z12 G12
          show Exit.then _ _ Exit.normal _ ((set9 w12 w.heap.size ⟨⟨0, 0, 0, false⟩, r', f, A, W && hW', X && hX'⟩).drewN 1)
          generalize (set9 w12 w.heap.size ⟨⟨0, 0, 0, false⟩, r', f, A, W && hW', X && hX'⟩).drewN 1 = w13 at *
          obtain ⟨t0, t1, t2, t3, t4, t5, t6, t7, t8⟩ := Z13
          simp only at t0 t1 t2 t3 t4 t5 t6 t7 t8
          go_wp2
          refine bodyPost_ret (v := .agg #[.int .i64 0, .int .i64 0, .int .u32 0, .bool false, .int .i64 r', .int .i64 f, .int .u32 A, .bool (W && hW'), .bool (X && hX')]) (by simp [results, Try.results30, go_sem, t0, t1, t2, t3, t4, t5, t6, t7, t8]) rfl (run_ok T.out rfl O13.out C13.out)
end Ns
end Go.Proofs.Ytdjglmfilhodlaa
