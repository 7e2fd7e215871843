/-
  PROVED HERE: whatever the instructions x and y are, warderlaw02.IsaApart answers true (two instructions that have words have one word just if they are one, and one line likewise), and each argument reads behind the call as it read before. Conditions: none; the package-level variables start as the program's text lays them (the card ties them to that text).
-/
import Derived.Test.YtebnjhecopmekaaDoorIsaAlive
import Derived.Test.YtebnjhecopmekaaDoorIsaLaid
import Derived.Test.YtebnjhecopmekaaDoorIsaOpen
import Derived.Test.YtebnjhecopmekaaDoorTie
import Derived.ChangeOld
import Derived.ChangeMaps5
namespace Go.Proofs.YtebnjhecopmekaaDoor.isaApart
open Go.ChangeShapes Go.WideShapes Go.ChangeAt Go.RowKit Isa Go.ChangeMaps

/-- An instruction's four numbers. -/
abbrev I4 := Int × Int × Int × Int
def insA (x : I4) : Value := .agg #[.int .i64 x.1, .int .i64 x.2.1, .int .i64 x.2.2.1, .int .i64 x.2.2.2]
def rightI (x : I4) : Bool := right x.1 x.2.1 x.2.2.1 x.2.2.2
def encI (x : I4) : Int := if rightI x = true then enc x.1 x.2.1 x.2.2.1 x.2.2.2 else 0
def lineI (x : I4) : List UInt8 := lineV x.1 x.2.1 x.2.2.1 x.2.2.2
theorem encode_v (op a b imm : Int) (w : World) (hE : Env w) :
    Calls Tryd.prog 9 #[.agg #[.int .i64 op, .int .i64 a, .int .i64 b, .int .i64 imm]] w fun e w' => e = .returned (.tuple #[.int .u32 (encI (op, a, b, imm)), .bool (rightI (op, a, b, imm))]) ∧ Below w.heap.size w w' := by
  unfold encI rightI
  cases h : right op a b imm
  · exact encode_no op a b imm w hE.1 h
  · exact encode_yes op a b imm w hE.1 h
theorem lineI_empty (x : I4) : lineI x = [] ↔ rightI x = false := by
  unfold lineI lineV rightI
  cases h : right x.1 x.2.1 x.2.2.1 x.2.2.2
  · simp
  · simp [lineL_ne _ _ _ _ h]
theorem enc_inj {x y : I4} (hx : rightI x = true) (hy : rightI y = true) : encI x = encI y ↔ x = y := by
  constructor
  · intro h
    unfold encI at h
    rw [if_pos hx, if_pos hy] at h
    obtain ⟨a1, a2, a3, a4⟩ := d_enc hx
    obtain ⟨b1, b2, b3, b4⟩ := d_enc hy
    rw [h] at a1 a2 a3 a4
    obtain ⟨x1, x2, x3, x4⟩ := x
    obtain ⟨y1, y2, y3, y4⟩ := y
    simp only [Prod.mk.injEq]
    exact ⟨a1.symm.trans b1, a2.symm.trans b2, a3.symm.trans b3, a4.symm.trans b4⟩
  · rintro rfl; rfl
theorem line_inj {x y : I4} (hx : rightI x = true) (hy : rightI y = true) : lineI x = lineI y ↔ x = y := by
  constructor
  · intro h
    unfold lineI lineV at h
    have hx' : right x.1 x.2.1 x.2.2.1 x.2.2.2 = true := hx
    have hy' : right y.1 y.2.1 y.2.2.1 y.2.2.2 = true := hy
    rw [if_pos hx', if_pos hy'] at h
    have r1 := readO_of _ _ _ _ hx'
    have r2 := readO_of _ _ _ _ hy'
    rw [h, r2] at r1
    exact (Option.some.inj r1).symm
  · rintro rfl; rfl
set_option maxHeartbeats 4000000 in
theorem walk_same (o1 a1 b1 i1 : Int) (w : World) (hE : Env w) :
    Calls Tryd.prog 7 #[.agg #[.int .i64 o1, .int .i64 a1, .int .i64 b1, .int .i64 i1], .agg #[.int .i64 o1, .int .i64 a1, .int .i64 b1, .int .i64 i1]] w fun e w' => e = .returned (.bool true) ∧ Below w.heap.size w w' := by
  have HE := Lib.hid hE
  clear hE
  go_enter Tryd.func7, Tryd.ntmps7
  go_wp2_with fail
  refine (alive_any _ ((HE.out.box _).box _)).mono ?_
  rintro e w1 ⟨rfl, hb⟩
  have X1 := Lib.hid (((Box4.new w (.int .i64 o1) (.int .i64 a1) (.int .i64 b1) (.int .i64 i1) 23).box _).kept hb)
  have Y1 := (Box4.new (w.alloc (.cells #[.int .i64 o1, .int .i64 a1, .int .i64 b1, .int .i64 i1] 23)) (.int .i64 o1) (.int .i64 a1) (.int .i64 b1) (.int .i64 i1) 23).kept hb
  rw [World.size_alloc] at Y1
  have YY1 := Lib.hid Y1
  have B1 := Lib.hid (((((Below.refl _ _).alloc (Nat.le_refl _) _).alloc (by simp) _).trans (hb.mono (by simp; omega))) : Below w.heap.size w w1)
  obtain ⟨⟨x0, x1, x2, x3⟩, _⟩ := X1.out
  clear hb Y1
  go_wp2_with fail
  refine (encode_v _ _ _ _ _ (HE.out.kept B1.out)).mono ?_
  rintro e w2 ⟨rfl, hb⟩
  have X2 := Lib.hid (X1.out.kept hb)
  have Y2 := Lib.hid (YY1.out.kept hb)
  have B2 := Lib.hid (B1.out.trans (hb.mono B1.out.size))
  obtain ⟨⟨y0, y1, y2, y3⟩, _⟩ := Y2.out
  clear hb x0 x1 x2 x3
  go_wp2_with fail
  refine (encode_v _ _ _ _ _ (HE.out.kept B2.out)).mono ?_
  rintro e w3 ⟨rfl, hb⟩
  have X3 := Lib.hid (X2.out.kept hb)
  have Y3 := Lib.hid (Y2.out.kept hb)
  have B3 := Lib.hid (B2.out.trans (hb.mono B2.out.size))
  obtain ⟨⟨x0, x1, x2, x3⟩, _⟩ := X3.out
  clear hb y0 y1 y2 y3
  go_wp2_with fail
  refine (line_any _ _ _ _ _ (HE.out.kept B3.out)).mono ?_
  rintro e w4 ⟨rfl, hb⟩
  have X4 := Lib.hid (X3.out.kept hb)
  have Y4 := Lib.hid (Y3.out.kept hb)
  have B4 := Lib.hid (B3.out.trans (hb.mono B3.out.size))
  obtain ⟨⟨y0, y1, y2, y3⟩, _⟩ := Y4.out
  clear hb x0 x1 x2 x3
  go_wp2_with fail
  refine (line_any _ _ _ _ _ (HE.out.kept B4.out)).mono ?_
  rintro e w5 ⟨rfl, hb⟩
  have X5 := Lib.hid (X4.out.kept hb)
  have Y5 := Lib.hid (Y4.out.kept hb)
  have B5 := Lib.hid (B4.out.trans (hb.mono B4.out.size))
  obtain ⟨⟨x0, x1, x2, x3⟩, _⟩ := X5.out
  clear hb y0 y1 y2 y3
  obtain ⟨⟨y0, y1, y2, y3⟩, _⟩ := Y5.out
  have m1 := lineI_empty (o1, a1, b1, i1)
  change lineV o1 a1 b1 i1 = [] ↔ _ at m1
  generalize hl1 : lineV o1 a1 b1 i1 = L1 at *
  have HL1 := Lib.hid hl1
  clear hl1
  cases h1 : rightI (o1, a1, b1, i1)
  · have e1 := m1.2 h1
    subst e1
    have t0 : (bs []).toList = [] := by rw [Go.ByteArray.toList_eq]; rfl
    clear m1
    go_wp2
    go_ret
    exact ⟨rfl, B5.out⟩
  · have n1 : ¬ L1 = [] := fun e => by rw [m1.1 e] at h1; cases h1
    have t1 : ¬ (bs L1).toList = [] := by rw [Go.ByteArray.toList_eq]; exact n1
    have t2 : (bs L1).toList.isEmpty = false := by rw [Go.ByteArray.toList_eq, bs_toList]; simpa using n1
    clear m1 n1
    go_wp2
    go_ret
    exact ⟨rfl, B5.out⟩
set_option maxHeartbeats 4000000 in
theorem walk_diff (o1 a1 b1 i1 o2 a2 b2 i2 : Int) (w : World) (hE : Env w) (hne : ¬ (o1, a1, b1, i1) = (o2, a2, b2, i2)) :
    Calls Tryd.prog 7 #[.agg #[.int .i64 o1, .int .i64 a1, .int .i64 b1, .int .i64 i1], .agg #[.int .i64 o2, .int .i64 a2, .int .i64 b2, .int .i64 i2]] w fun e w' => e = .returned (.bool true) ∧ Below w.heap.size w w' := by
  have HE := Lib.hid hE
  have HN := Lib.hid hne
  clear hne
  clear hE
  go_enter Tryd.func7, Tryd.ntmps7
  go_wp2_with fail
  refine (alive_any _ ((HE.out.box _).box _)).mono ?_
  rintro e w1 ⟨rfl, hb⟩
  have X1 := Lib.hid (((Box4.new w (.int .i64 o1) (.int .i64 a1) (.int .i64 b1) (.int .i64 i1) 23).box _).kept hb)
  have Y1 := (Box4.new (w.alloc (.cells #[.int .i64 o1, .int .i64 a1, .int .i64 b1, .int .i64 i1] 23)) (.int .i64 o2) (.int .i64 a2) (.int .i64 b2) (.int .i64 i2) 23).kept hb
  rw [World.size_alloc] at Y1
  have YY1 := Lib.hid Y1
  have B1 := Lib.hid (((((Below.refl _ _).alloc (Nat.le_refl _) _).alloc (by simp) _).trans (hb.mono (by simp; omega))) : Below w.heap.size w w1)
  obtain ⟨⟨x0, x1, x2, x3⟩, _⟩ := X1.out
  clear hb Y1
  go_wp2_with fail
  refine (encode_v _ _ _ _ _ (HE.out.kept B1.out)).mono ?_
  rintro e w2 ⟨rfl, hb⟩
  have X2 := Lib.hid (X1.out.kept hb)
  have Y2 := Lib.hid (YY1.out.kept hb)
  have B2 := Lib.hid (B1.out.trans (hb.mono B1.out.size))
  obtain ⟨⟨y0, y1, y2, y3⟩, _⟩ := Y2.out
  clear hb x0 x1 x2 x3
  go_wp2_with fail
  refine (encode_v _ _ _ _ _ (HE.out.kept B2.out)).mono ?_
  rintro e w3 ⟨rfl, hb⟩
  have X3 := Lib.hid (X2.out.kept hb)
  have Y3 := Lib.hid (Y2.out.kept hb)
  have B3 := Lib.hid (B2.out.trans (hb.mono B2.out.size))
  obtain ⟨⟨x0, x1, x2, x3⟩, _⟩ := X3.out
  clear hb y0 y1 y2 y3
  go_wp2_with fail
  refine (line_any _ _ _ _ _ (HE.out.kept B3.out)).mono ?_
  rintro e w4 ⟨rfl, hb⟩
  have X4 := Lib.hid (X3.out.kept hb)
  have Y4 := Lib.hid (Y3.out.kept hb)
  have B4 := Lib.hid (B3.out.trans (hb.mono B3.out.size))
  obtain ⟨⟨y0, y1, y2, y3⟩, _⟩ := Y4.out
  clear hb x0 x1 x2 x3
  go_wp2_with fail
  refine (line_any _ _ _ _ _ (HE.out.kept B4.out)).mono ?_
  rintro e w5 ⟨rfl, hb⟩
  have X5 := Lib.hid (X4.out.kept hb)
  have Y5 := Lib.hid (Y4.out.kept hb)
  have B5 := Lib.hid (B4.out.trans (hb.mono B4.out.size))
  obtain ⟨⟨x0, x1, x2, x3⟩, _⟩ := X5.out
  clear hb y0 y1 y2 y3
  obtain ⟨⟨y0, y1, y2, y3⟩, _⟩ := Y5.out
  have m1 := lineI_empty (o1, a1, b1, i1)
  have m2 := lineI_empty (o2, a2, b2, i2)
  change lineV o1 a1 b1 i1 = [] ↔ _ at m1
  change lineV o2 a2 b2 i2 = [] ↔ _ at m2
  have M3 := Lib.hid (fun h1 h2 => enc_inj (x := (o1, a1, b1, i1)) (y := (o2, a2, b2, i2)) h1 h2)
  have M4 := Lib.hid (fun h1 h2 => line_inj (x := (o1, a1, b1, i1)) (y := (o2, a2, b2, i2)) h1 h2)
  generalize hl1 : lineV o1 a1 b1 i1 = L1 at *
  generalize hl2 : lineV o2 a2 b2 i2 = L2 at *
  have HL1 := Lib.hid hl1
  have HL2 := Lib.hid hl2
  clear hl1 hl2
  cases h1 : rightI (o1, a1, b1, i1)
  · have e1 := m1.2 h1
    subst e1
    have t0 : (bs []).toList = [] := by rw [Go.ByteArray.toList_eq]; rfl
    clear m1
    cases h2 : rightI (o2, a2, b2, i2)
    · have e2 := m2.2 h2
      subst e2
      clear m2
      go_wp2
      go_ret
      exact ⟨rfl, B5.out⟩
    · have n2 : ¬ L2 = [] := fun e => by rw [m2.1 e] at h2; cases h2
      have t1 : ¬ (bs L2).toList = [] := by rw [Go.ByteArray.toList_eq]; exact n2
      have t2 : (bs L2).toList.isEmpty = false := by rw [Go.ByteArray.toList_eq, bs_toList]; simpa using n2
      clear m2 n2
      go_wp2
      go_ret
      exact ⟨rfl, B5.out⟩
  · have n1 : ¬ L1 = [] := fun e => by rw [m1.1 e] at h1; cases h1
    have t1 : ¬ (bs L1).toList = [] := by rw [Go.ByteArray.toList_eq]; exact n1
    have t2 : (bs L1).toList.isEmpty = false := by rw [Go.ByteArray.toList_eq, bs_toList]; simpa using n1
    clear m1 n1
    cases h2 : rightI (o2, a2, b2, i2)
    · have e2 := m2.2 h2
      subst e2
      have t0 : (bs []).toList = [] := by rw [Go.ByteArray.toList_eq]; rfl
      clear m2
      go_wp2
      go_ret
      exact ⟨rfl, B5.out⟩
    · have n2 : ¬ L2 = [] := fun e => by rw [m2.1 e] at h2; cases h2
      have t3 : ¬ (bs L2).toList = [] := by rw [Go.ByteArray.toList_eq]; exact n2
      have t4 : (bs L2).toList.isEmpty = false := by rw [Go.ByteArray.toList_eq, bs_toList]; simpa using n2
      have q1 : (encI (o1, a1, b1, i1) == encI (o2, a2, b2, i2)) = false := by
        rw [beq_eq_false_iff_ne]; exact fun e => HN.out ((M3.out h1 h2).1 e)
      have q2 : ((bs L1).toList == (bs L2).toList) = false := by
        refine str_ne (fun e => HN.out ((M4.out h1 h2).1 ?_))
        show lineV o1 a1 b1 i1 = lineV o2 a2 b2 i2
        rw [HL1.out, HL2.out]
        exact bs_inj.1 e
      clear m2 n2
      go_wp2
      all_goals first
        | (go_ret; exact ⟨rfl, B5.out⟩)
        | exact absurd (by simp only [Prod.mk.injEq]; exact ⟨by assumption, by assumption, by assumption, by assumption⟩) HN.out
theorem walk (o1 a1 b1 i1 o2 a2 b2 i2 : Int) (w : World) (hE : Env w) :
    Calls Tryd.prog 7 #[.agg #[.int .i64 o1, .int .i64 a1, .int .i64 b1, .int .i64 i1], .agg #[.int .i64 o2, .int .i64 a2, .int .i64 b2, .int .i64 i2]] w fun e w' => e = .returned (.bool true) ∧ Below w.heap.size w w' := by
  by_cases h : (o1, a1, b1, i1) = (o2, a2, b2, i2)
  · cases h
    exact walk_same o1 a1 b1 i1 w hE
  · exact walk_diff o1 a1 b1 i1 o2 a2 b2 i2 w hE h

set_option maxRecDepth 100000 in
theorem lifted (os : Os) (started : os.Started) (H : Type) (enc : TypeId × Value → H) :
    ReturnsInHanded {} Tryd.checked os 7 .any (fun w args => (Rows.isaApartSpec.pre enc Tryd.prog Tryd.f7 [] false w args ∧ laidMetH Tryd.prog laidL w) ∧ sizedMet enc Tryd.prog Tryd.f7 (OpenSpec.ofChange Rows.isaApartSpec) false w args)
      (Rows.isaApartSpec.post enc Tryd.prog Tryd.f7 false true false false) := by
  refine returnsInHanded_of_change_and (C := Tryd.checked) (X := fun w _ => laidMetH Tryd.prog laidL w) (fun _ _ _ hh h => h.of_heap hh) own started (by kernel_rfl) Tryd.func7
    (ChangeSpec.witness_shaped (enc := enc) (C := Tryd.checked) (os := os) (X := fun w _ => laidMetH Tryd.prog laidL w) false (World.doorLaid Tryd.prog 4000 os) #[.agg #[.int .i64 0, .int .i64 0, .int .i64 0, .int .i64 0], .agg #[.int .i64 0, .int .i64 0, .int .i64 0, .int .i64 0]] 8 rfl (World.shaped_of_RefB (by kernel_rfl) (by kernel_rfl)) (by kernel_rfl) (by kernel_rfl) (by kernel_rfl) (door_met os _)) ?_
  intro W base args ds gs before hval0 hW _ _ hL _
  have hval : ∀ (j : Nat) t v, Tryd.f7.params[j]? = some t → args[j]? = some v → Value.okWide Tryd.prog W .any base t v := hval0
  have hW' := hW
  obtain ⟨p, q, hA0, hV, rfl, hfz, hnd⟩ := hW
  have hA : DataW.TrodAll enc Tryd.prog W 0 (fun _ => true) true Tryd.f7.params.toList args.toList ds p := hA0
  rw [Tryd.params7] at hA hval
  obtain ⟨v0, vs0, d0, ds0, p0, q0, hargs, rfl, rfl, h0, r0⟩ := trodAll_cons hA
  obtain ⟨v1, vs1, d1, ds1, p1, q1, rfl, rfl, rfl, h1, r1⟩ := trodAll_cons r0
  obtain ⟨rfl, rfl, rfl⟩ := trodAll_nil r1
  obtain rfl : args = #[v0, v1] := by cases args; simp_all
  obtain ⟨rfl, rfl⟩ := trodVars_none hV
  obtain ⟨o0, a0, b0, i0, rfl, rfl, rfl, w0⟩ := ins_open (hval 0 23 v0 rfl rfl) h0
  obtain ⟨o1, a1, b1, i1, rfl, rfl, rfl, w1⟩ := ins_open (hval 1 23 v1 rfl rfl) h1
  have hE := env_of hL
  clear hA0 hval0
  simp only [List.append_nil] at hW'
  refine (walk o0 a0 b0 i0 o1 a1 b1 i1 W hE).mono fun e W' ⟨he, bel⟩ => ?_
  subst he
  exact ⟨_, rfl, _, _, _, [], [], [], hW', trodAll_mk1 (shut_bool Tryd.underlying4 _), (trodAll_cons_mk (ins_shut w0 _ _) (trodAll_cons_mk (ins_shut w1 _ _) trodAll_mk0)), rfl, bel.frame _, fun h => by cases h⟩

theorem over : Rows.IsaApartSaid :=
  OpenClaim.holds_of_wide 7 Tryd.f7 rfl rfl rfl rfl rfl rfl rfl ⟨rfl, rfl, rfl, rfl, rfl⟩ rfl rfl rfl rfl rfl (by kernel_rfl) Tryd.func7 (by kernel_rfl)
    (of_decide_eq_true (by kernel_rfl)) (by unfold Func.isWrapper; first | (rw [if_pos (by decide +kernel)]; kernel_rfl) | (rw [if_neg (by decide +kernel)]; exact ⟨rfl, rfl⟩))
    (fun os started H enc _ => lifted os started H enc)
end Go.Proofs.YtebnjhecopmekaaDoor.isaApart
namespace Go.Proofs.YtebnjhecopmekaaDoor
open Go
/-- The statement. -/
theorem isaApart_holds : Rows.IsaApartCardSaid :=
  Claim7.holds_tied_plain_at .later [] [.data, .data, .data, .sentinel, .sentinel, .data] true _ true
    isaApart.over (fun _ h => by cases h) (by kernel_rfl) (fun _ h => by cases h) isaApart_row_tie rfl ⟨rfl, rfl⟩ (by kernel_rfl) rfl
    (fun f fn hf hfn => by
      obtain rfl : f = 7 := Option.some.inj ((show Tryd.prog.funcNamed "warder/warderlaw02.IsaApart" = some 7 by kernel_rfl).symm.trans hf) |>.symm
      obtain rfl : fn = Tryd.f7 := (Option.some.inj (Tryd.func7.symm.trans hfn)).symm
      exact ⟨by kernel_rfl, fun j t ht => by
        rw [Tryd.params7] at ht
        have hm : t ∈ [23, 23] := by simpa using Array.mem_of_getElem? ht
        have hall : ([23, 23].all fun u => !Tryd.prog.wantsStandIn u) = true := by kernel_rfl
        exact (show Tryd.prog.wantsStandIn t = false by simpa using List.all_eq_true.1 hall t hm)⟩)
    (by kernel_rfl)
#print axioms isaApart_holds
end Go.Proofs.YtebnjhecopmekaaDoor
