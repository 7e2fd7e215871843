/-
  AluApart: for every state and word, an instruction that isn't a branch changes one register at most, and PC by 4. The condition is the card's: the package-level tables lie as the program's text lays them.
-/
import Derived.Test.YtlfhcnpbgbnadaaDoorAluAlive
import Derived.Test.YtlfhcnpbgbnadaaDoorAluEq
import Derived.Test.YtlfhcnpbgbnadaaDoorAluOpen
import Derived.Test.YtlfhcnpbgbnadaaDoorTie
import Derived.ChangeOld
import Derived.ChangeMaps5
namespace Go.Proofs.YtlfhcnpbgbnadaaDoor.aluApart
open Go.ChangeShapes Go.WideShapes Go.ChangeAt Go.RowKit Isa Alu

set_option maxHeartbeats 4000000 in
theorem walk_bad (r : Nat → Int) (pc v : Int) (w : World) (hE : Env w) (hR : R32 r) (hv : W32 v) (hd : decV v = .tuple #[.agg #[.int .i64 0, .int .i64 0, .int .i64 0, .int .i64 0], .bool false])
    (hs : stepV r pc v = .tuple #[.agg (stL r pc).toArray, .agg #[.int .i64 12, .int .i64 0, .int .u32 0, .int .u32 0]]) :
    Calls Tryd.prog 7 #[.agg (stL r pc).toArray, .int .u32 v] w fun e w' => e = .returned (.bool true) ∧ Below w.heap.size w w' := by
  have hq := eqSt r pc
  have HE := Lib.hid hE
  have HR := Lib.hid hR
  have HV := Lib.hid hv
  have HD := Lib.hid hd
  clear hE hR hv hd
  have B0 := Lib.hid (((Below.refl _ _).alloc (Nat.le_refl _) _) : Below w.heap.size w (w.alloc (.cells (stL r pc).toArray 25)))
  go_enter Tryd.func7, Tryd.ntmps7
  go_wp2_with fail
  refine (alive_any _ (HE.out.box _)).mono ?_
  rintro e w1 ⟨rfl, hb⟩
  have X1 := Lib.hid ((Box.new w (stL r pc) 25).kept hb)
  have B1 := Lib.hid (B0.out.trans (hb.mono B0.out.size))
  clear hb B0
  go_wp2_with fail
  refine (decode_any v _ (HE.out.kept B1.out).1 HV.out.1 HV.out.2).mono ?_
  rw [HD.out]
  rintro e w2 ⟨rfl, hb⟩
  have X2 := Lib.hid ((X1.out.kept hb).box (.cells #[.int .i64 0, .int .i64 0, .int .i64 0, .int .i64 0] 50))
  have I2 := Lib.hid (Box.new w2 [.int .i64 0, .int .i64 0, .int .i64 0, .int .i64 0] 50)
  have B2' := B1.out.trans (hb.mono B1.out.size)
  have B2 := Lib.hid (B2'.alloc B2'.size (.cells #[.int .i64 0, .int .i64 0, .int .i64 0, .int .i64 0] 50))
  clear hb X1 B1 B2'
  go_wp2_with (first | (with_reducible (show wpList _ _ _ (⟨_, .load _ (.tmp 2), _, _, _, _⟩ :: _) _ _); refine wl_load (.tmp 2) _ _ rfl rfl rfl X2.out (stL_is _ _).size ?_))
  clear HD
  generalize hw3 : w2.alloc (.cells #[.int .i64 0, .int .i64 0, .int .i64 0, .int .i64 0] 50) = w3 at *
  refine (step_any _ r pc v _ (HE.out.kept B2.out).1 (stL_is _ _) HR.out HV.out).mono ?_
  rw [hs]
  clear hs
  rintro e w4 ⟨rfl, hb⟩
  have X4 := Lib.hid (X2.out.kept hb)
  have I4 := Lib.hid (I2.out.kept hb)
  have B4 := Lib.hid (B2.out.trans (hb.mono B2.out.size))
  have S4 := Lib.hid (two_boxes w4 (stL r pc) (stL_is _ _).size (.int .i64 12) (.int .i64 0) (.int .u32 0) (.int .u32 0))
  have X5 := Lib.hid (X4.out.kept S4.out.2.2.2.2)
  have I5 := Lib.hid (I4.out.kept S4.out.2.2.2.2)
  have B5 := Lib.hid (B4.out.trans (S4.out.2.2.2.2.mono B4.out.size))
  have T5 := Lib.hid S4.out.2.2.1
  have E5 := Lib.hid S4.out.2.2.2.1
  clear hb X2 I2 B2 X4 I4 B4
  have e0 := E5.out.at 0 rfl
  have e1 := E5.out.at 1 rfl
  have e2 := E5.out.at 2 rfl
  have e3 := E5.out.at 3 rfl
  go_wp2_with (first | (with_reducible (show wpList _ _ _ (⟨_, .store _ (.tmp 7) (.tmp 22), _, _, _, _⟩ :: _) _ _); refine wl_store (.tmp 7) (.tmp 22) _ _ (stL r pc) rfl rfl rfl rfl S4.out.1 (stL_is _ _).size (stL_is _ _).size (stL_is _ _).one ?_) | (with_reducible (show wpList _ _ _ (⟨_, .store _ (.tmp 8) (.tmp 23), _, _, _, _⟩ :: _) _ _); refine wl_storeE (.tmp 8) (.tmp 23) _ _ _ _ _ _ _ _ _ rfl rfl rfl rfl S4.out.2.1 (one4 _ _ _ _) ?_) | (with_reducible (show wpList _ _ _ (⟨_, .load _ (.tmp 7), _, _, _, _⟩ :: _) _ _); clear S4; generalize (((w4.alloc (.cells #[.int .u32 0, .int .u32 0, .int .u32 0, .int .u32 0, .int .u32 0, .int .u32 0, .int .u32 0, .int .u32 0, .int .u32 0, .int .u32 0, .int .u32 0, .int .u32 0, .int .u32 0, .int .u32 0, .int .u32 0, .int .u32 0, .int .u32 0] 25) |>.alloc (.cells #[.int .i64 0, .int .i64 0, .int .u32 0, .int .u32 0] 28)).setCells w4.heap.size 0 (stL r pc)).setCells (w4.heap.size + 1) 0 [.int .i64 12, .int .i64 0, .int .u32 0, .int .u32 0]) = w5 at *; refine wl_load (.tmp 7) _ _ rfl rfl rfl T5.out (stL_is _ _).size ?_) | (with_reducible (show wpList _ _ _ (⟨_, .load _ (.tmp 2), _, _, _, _⟩ :: _) _ _); refine wl_load (.tmp 2) _ _ rfl rfl rfl X5.out (stL_is _ _).size ?_))
  go_ret
  exact ⟨rfl, B5.out⟩
/-- Does the instruction change its register? -/
def chg (r : Nat → Int) (pc : Int) (op a b imm : Nat) : Bool := puts op && (res r pc op a b imm != r a)
def cN (r : Nat → Int) (pc : Int) (op a b imm k : Nat) : Int := if chg r pc op a b imm = true ∧ a < k then 1 else 0
theorem rNew_ne (r : Nat → Int) (pc : Int) (op a b imm : Nat) (h : chg r pc op a b imm = true) : (rNew r pc op a b imm a != r a) = true := by
  unfold chg at h
  rw [Bool.and_eq_true] at h
  unfold rNew
  rw [if_pos ⟨h.1, rfl⟩]
  exact h.2
theorem rNew_same (r : Nat → Int) (pc : Int) (op a b imm k : Nat) (h : ¬ (chg r pc op a b imm = true ∧ k = a)) : (rNew r pc op a b imm k != r k) = false := by
  unfold rNew
  by_cases hp : puts op = true ∧ k = a
  · rw [if_pos hp]
    obtain ⟨h1, rfl⟩ := hp
    unfold chg at h
    rw [h1, Bool.true_and] at h
    simpa using h
  · rw [if_neg hp]; simp
theorem eK_puts (op : Nat) (h : op < 28) (hp : puts op = true) : eK op = 0 := by
  have : op ∈ List.range 28 := by simpa using h
  revert this hp; revert op; decide
theorem nxt_plain (r : Nat → Int) (pc : Int) (op a b imm : Nat) (h : ¬ (16 ≤ op ∧ op ≤ 20)) : nxt r pc op a b imm = (pc + 4) % 4294967296 := by
  have hb : brn r op a b = false := by
    unfold brn
    rw [if_neg (by omega), if_neg (by omega), if_neg (by omega)]
    simp; omega
  unfold nxt
  rw [if_neg (by omega), hb]
  rfl
set_option maxHeartbeats 4000000 in
theorem walk_good (r : Nat → Int) (pc v : Int) (op a b imm : Nat) (w : World) (hE : Env w) (hR : R32 r) (hv : W32 v) (hd : decV v = .tuple #[.agg #[.int .i64 op, .int .i64 a, .int .i64 b, .int .i64 imm], .bool true]) (ho : op < 28) (ha : a < 16)
    (hs : stepV r pc v = .tuple #[.agg (stL (rNew r pc op a b imm) (nxt r pc op a b imm)).toArray, .agg #[.int .i64 (eK op), .int .i64 (eR op a), .int .u32 (eA r op b imm), .int .u32 (eV r op a imm)]]) :
    Calls Tryd.prog 7 #[.agg (stL r pc).toArray, .int .u32 v] w fun e w' => e = .returned (.bool true) ∧ Below w.heap.size w w' := by
  have HE := Lib.hid hE
  have HR := Lib.hid hR
  have HV := Lib.hid hv
  have HD := Lib.hid hd
  clear hE hR hv hd
  have B0 := Lib.hid (((Below.refl _ _).alloc (Nat.le_refl _) _) : Below w.heap.size w (w.alloc (.cells (stL r pc).toArray 25)))
  go_enter Tryd.func7, Tryd.ntmps7
  go_wp2_with fail
  refine (alive_any _ (HE.out.box _)).mono ?_
  rintro e w1 ⟨rfl, hb⟩
  have X1 := Lib.hid ((Box.new w (stL r pc) 25).kept hb)
  have B1 := Lib.hid (B0.out.trans (hb.mono B0.out.size))
  clear hb B0
  go_wp2_with fail
  refine (decode_any v _ (HE.out.kept B1.out).1 HV.out.1 HV.out.2).mono ?_
  rw [HD.out]
  rintro e w2 ⟨rfl, hb⟩
  have X2 := Lib.hid ((X1.out.kept hb).box (.cells #[.int .i64 op, .int .i64 a, .int .i64 b, .int .i64 imm] 50))
  have I2 := Lib.hid (Box.new w2 [.int .i64 op, .int .i64 a, .int .i64 b, .int .i64 imm] 50)
  have B2' := B1.out.trans (hb.mono B1.out.size)
  have B2 := Lib.hid (B2'.alloc B2'.size (.cells #[.int .i64 op, .int .i64 a, .int .i64 b, .int .i64 imm] 50))
  clear hb X1 B1 B2'
  go_wp2_with (first | (with_reducible (show wpList _ _ _ (⟨_, .load _ (.tmp 2), _, _, _, _⟩ :: _) _ _); refine wl_load (.tmp 2) _ _ rfl rfl rfl X2.out (stL_is _ _).size ?_))
  clear HD
  generalize hw3 : w2.alloc (.cells #[.int .i64 op, .int .i64 a, .int .i64 b, .int .i64 imm] 50) = w3 at *
  refine (step_any _ r pc v _ (HE.out.kept B2.out).1 (stL_is _ _) HR.out HV.out).mono ?_
  rw [hs]
  clear hs
  rintro e w4 ⟨rfl, hb⟩
  have X4 := Lib.hid (X2.out.kept hb)
  have I4 := Lib.hid (I2.out.kept hb)
  have B4 := Lib.hid (B2.out.trans (hb.mono B2.out.size))
  have S4 := Lib.hid (two_boxes w4 (stL (rNew r pc op a b imm) (nxt r pc op a b imm)) (stL_is _ _).size (.int .i64 (eK op)) (.int .i64 (eR op a)) (.int .u32 (eA r op b imm)) (.int .u32 (eV r op a imm)))
  have X5 := Lib.hid (X4.out.kept S4.out.2.2.2.2)
  have I5 := Lib.hid (I4.out.kept S4.out.2.2.2.2)
  have B5 := Lib.hid (B4.out.trans (S4.out.2.2.2.2.mono B4.out.size))
  have T5 := Lib.hid S4.out.2.2.1
  have E5 := Lib.hid S4.out.2.2.2.1
  clear hb X2 I2 B2 X4 I4 B4
  go_wp2_with (first | (with_reducible (show wpList _ _ _ (⟨_, .store _ (.tmp 7) (.tmp 22), _, _, _, _⟩ :: _) _ _); refine wl_store (.tmp 7) (.tmp 22) _ _ (stL (rNew r pc op a b imm) (nxt r pc op a b imm)) rfl rfl rfl rfl S4.out.1 (stL_is _ _).size (stL_is _ _).size (stL_is _ _).one ?_) | (with_reducible (show wpList _ _ _ (⟨_, .store _ (.tmp 8) (.tmp 23), _, _, _, _⟩ :: _) _ _); refine wl_storeE (.tmp 8) (.tmp 23) _ _ _ _ _ _ _ _ _ rfl rfl rfl rfl S4.out.2.1 (one4 _ _ _ _) ?_))
  clear S4
  generalize (((w4.alloc (.cells #[.int .u32 0, .int .u32 0, .int .u32 0, .int .u32 0, .int .u32 0, .int .u32 0, .int .u32 0, .int .u32 0, .int .u32 0, .int .u32 0, .int .u32 0, .int .u32 0, .int .u32 0, .int .u32 0, .int .u32 0, .int .u32 0, .int .u32 0] 25) |>.alloc (.cells #[.int .i64 0, .int .i64 0, .int .u32 0, .int .u32 0] 28)).setCells w4.heap.size 0 (stL (rNew r pc op a b imm) (nxt r pc op a b imm))).setCells (w4.heap.size + 1) 0 [.int .i64 (eK op), .int .i64 (eR op a), .int .u32 (eA r op b imm), .int .u32 (eV r op a imm)]) = w5 at *
  have e0 := E5.out.at 0 rfl
  have i0 := I5.out.at 0 rfl
  have i1 := I5.out.at 1 rfl
  have x16 := X5.out.at 16 (stL_is _ _).pc
  have t16 := T5.out.at 16 (stL_is _ _).pc
  go_loopw [9, 10] (fun n i wr => ∃ k m : Nat, k ≤ 16 ∧ i = .int .i64 k ∧ n = .int .i64 (cN r pc op a b imm k) ∧ wr = w5.drewN m) (fun _ i _ => 16 - (intOf i).toNat)
  case atStart => exact ⟨0, 0, by omega, rfl, by unfold cN; rw [if_neg (by omega)], rfl⟩
  case round =>
    obtain ⟨k, m, hk, rfl, rfl, rfl⟩ := hrel
    by_cases hlt : k < 16
    · have ik : (k : Int) < 16 := by omega
      have ck := T5.out.at k ((stL_is _ _).reg k hlt)
      have cs := X5.out.at k ((stL_is _ _).reg k hlt)
      by_cases hc : chg r pc op a b imm = true ∧ k = a
      · obtain ⟨h1, rfl⟩ := hc
        have d := rNew_ne r pc op k b imm h1
        have d2 : ((k : Int) != (k : Int)) = false := by simp
        have q0 : cN r pc op k b imm k = 0 := by unfold cN; rw [if_neg (by omega)]
        have q1 := Lib.hid (show cN r pc op k b imm (k + 1) = 1 by unfold cN; rw [if_pos ⟨h1, by omega⟩])
        rw [q0]
        clear q0
        go_wp2
        go_quiet (fail)
        go_wp2
        go_roundw
        case rel => exact ⟨k + 1, _, by omega, by go_num, by rw [q1.out], rfl⟩
        case measure => simp [intOf]; omega
      · have d := rNew_same r pc op a b imm k hc
        have q1 := Lib.hid (show cN r pc op a b imm (k + 1) = cN r pc op a b imm k by
          unfold cN
          by_cases h1 : chg r pc op a b imm = true
          · have : k ≠ a := fun e => hc ⟨h1, e⟩
            by_cases h2 : a < k
            · rw [if_pos ⟨h1, by omega⟩, if_pos ⟨h1, h2⟩]
            · rw [if_neg (by omega), if_neg (by omega)]
          · rw [if_neg (fun x => h1 x.1), if_neg (fun x => h1 x.1)])
        clear hc
        go_wp2
        go_quiet (fail)
        go_wp2
        go_roundw
        case rel => exact ⟨k + 1, _, by omega, by go_num, by rw [q1.out], rfl⟩
        case measure => simp [intOf]; omega
    · have d : decide ((k : Int) < 16) = false := by simp; omega
      have hk16 : k = 16 := by omega
      subst hk16
      cases hc : chg r pc op a b imm
      · have q0 : cN r pc op a b imm 16 = 0 := by unfold cN; rw [if_neg (by rw [hc]; simp)]
        rw [q0]
        clear q0 hc
        by_cases hk0 : eK op = 0
        · have z : (eK op != 0) = false := by simpa using hk0
          clear hk0
          by_cases o1 : 16 ≤ op
          · have g1 : decide (16 ≤ (op : Int)) = true := by simp; omega
            by_cases o2 : op ≤ 20
            · have g2 : decide ((op : Int) ≤ 20) = true := by simp; omega
              go_wp2
              go_ret
              exact ⟨rfl, below_drewN B5.out _⟩
            · have g2 : decide ((op : Int) ≤ 20) = false := by simp; omega
              rw [nxt_plain r pc op a b imm (by omega)] at t16
              go_wp2
              go_ret
              exact ⟨rfl, below_drewN B5.out _⟩
          · have g1 : decide (16 ≤ (op : Int)) = false := by simp; omega
            rw [nxt_plain r pc op a b imm (by omega)] at t16
            go_wp2
            go_ret
            exact ⟨rfl, below_drewN B5.out _⟩
        · have z : (eK op != 0) = true := by simpa using hk0
          clear hk0
          by_cases o1 : 16 ≤ op
          · have g1 : decide (16 ≤ (op : Int)) = true := by simp; omega
            by_cases o2 : op ≤ 20
            · have g2 : decide ((op : Int) ≤ 20) = true := by simp; omega
              go_wp2
              go_ret
              exact ⟨rfl, below_drewN B5.out _⟩
            · have g2 : decide ((op : Int) ≤ 20) = false := by simp; omega
              rw [nxt_plain r pc op a b imm (by omega)] at t16
              go_wp2
              go_ret
              exact ⟨rfl, below_drewN B5.out _⟩
          · have g1 : decide (16 ≤ (op : Int)) = false := by simp; omega
            rw [nxt_plain r pc op a b imm (by omega)] at t16
            go_wp2
            go_ret
            exact ⟨rfl, below_drewN B5.out _⟩
      · have q0 : cN r pc op a b imm 16 = 1 := by unfold cN; rw [if_pos ⟨hc, by omega⟩]
        have hp : puts op = true := by unfold chg at hc; rw [Bool.and_eq_true] at hc; exact hc.1
        have z : (eK op != 0) = false := by rw [eK_puts op ho hp]; rfl
        rw [q0]
        clear q0 hc hp
        by_cases o1 : 16 ≤ op
        · have g1 : decide (16 ≤ (op : Int)) = true := by simp; omega
          by_cases o2 : op ≤ 20
          · have g2 : decide ((op : Int) ≤ 20) = true := by simp; omega
            go_wp2
            go_ret
            exact ⟨rfl, below_drewN B5.out _⟩
          · have g2 : decide ((op : Int) ≤ 20) = false := by simp; omega
            rw [nxt_plain r pc op a b imm (by omega)] at t16
            go_wp2
            go_ret
            exact ⟨rfl, below_drewN B5.out _⟩
        · have g1 : decide (16 ≤ (op : Int)) = false := by simp; omega
          rw [nxt_plain r pc op a b imm (by omega)] at t16
          go_wp2
          go_ret
          exact ⟨rfl, below_drewN B5.out _⟩
theorem walk (r : Nat → Int) (pc v : Int) (w : World) (hE : Env w) (hR : R32 r) (hv : W32 v) :
    Calls Tryd.prog 7 #[.agg (stL r pc).toArray, .int .u32 v] w fun e w' => e = .returned (.bool true) ∧ Below w.heap.size w w' := by
  cases h : isI v
  · refine walk_bad r pc v w hE hR hv ?_ ?_
    · unfold decV
      rw [if_neg (by rw [show right (dOp v) (dA v) (dB v) (dI v) = false from h]; decide)]
    · unfold stepV sR sP sK sG sA sV
      rw [h]
      rfl
  · obtain ⟨ho, ha, hb, hi, e1, e2, e3, e4⟩ := isI_nums h
    refine walk_good r pc v (oN v) (aN v) (bN v) (iN v) w hE hR hv ?_ ho ha ?_
    · unfold decV
      rw [if_pos (show right (dOp v) (dA v) (dB v) (dI v) = true from h), e1, e2, e3, e4]
    · unfold stepV sR sP sK sG sA sV
      rw [h]
      rfl

set_option maxRecDepth 100000 in
theorem lifted (os : Os) (started : os.Started) (H : Type) (enc : TypeId × Value → H) :
    ReturnsInHanded {} Tryd.checked os 7 .any (fun w args => (Rows.aluApartSpec.pre enc Tryd.prog Tryd.f7 [] false w args ∧ laidMetH Tryd.prog laidL w) ∧ sizedMet enc Tryd.prog Tryd.f7 (OpenSpec.ofChange Rows.aluApartSpec) false w args)
      (Rows.aluApartSpec.post enc Tryd.prog Tryd.f7 false true false false) := by
  refine returnsInHanded_of_change_and (C := Tryd.checked) (X := fun w _ => laidMetH Tryd.prog laidL w) (fun _ _ _ hh h => h.of_heap hh) own started (by kernel_rfl) Tryd.func7
    (ChangeSpec.witness_shaped (enc := enc) (C := Tryd.checked) (os := os) (X := fun w _ => laidMetH Tryd.prog laidL w) false (World.doorLaid Tryd.prog 4000 os) #[.agg #[.int .u32 0, .int .u32 0, .int .u32 0, .int .u32 0, .int .u32 0, .int .u32 0, .int .u32 0, .int .u32 0, .int .u32 0, .int .u32 0, .int .u32 0, .int .u32 0, .int .u32 0, .int .u32 0, .int .u32 0, .int .u32 0, .int .u32 0], .int .u32 0] 8 rfl (World.shaped_of_RefB (by kernel_rfl) (by kernel_rfl)) (by kernel_rfl) (by kernel_rfl) (by kernel_rfl) (door_met os _)) ?_
  intro W base args ds gs before hval0 hW _ _ hL _
  have hval : ∀ (j : Nat) t v, Tryd.f7.params[j]? = some t → args[j]? = some v → Value.okWide Tryd.prog W .any base t v := hval0
  have hW' := hW
  obtain ⟨p, q, hA0, hV, rfl, hfz, hnd⟩ := hW
  have hA : DataW.TrodAll enc Tryd.prog W 0 (fun _ => true) true Tryd.f7.params.toList args.toList ds p := hA0
  rw [Tryd.params7] at hA hval
  obtain ⟨v0, vs0, d0, ds0, p0, q0, hargs, rfl, rfl, h0, r0⟩ := trodAll_cons hA
  obtain ⟨v1, vs1, d1, ds1, p1, q1, rfl, rfl, rfl, h1, r1⟩ := trodAll_cons r0
  obtain ⟨rfl, rfl, rfl⟩ := trodAll_nil r1
  obtain rfl : args = #[v0, v1] := by cases args; simp_all
  obtain ⟨rfl, rfl⟩ := trodVars_none hV
  obtain ⟨rg0, pc0, rfl, rfl, hR0, hP0, sh0⟩ := st_open (hval 0 25 v0 rfl rfl) h0
  obtain ⟨x1, rfl, rfl, rfl, w1⟩ := open_int Tryd.underlying22 (hval 1 22 v1 rfl rfl) h1
  have hE := env_of hL
  clear hA0 hval0
  simp only [List.append_nil] at hW'
  refine (walk rg0 pc0 x1 W hE hR0 ⟨(bounds_u32 w1).1, by have := (bounds_u32 w1).2; omega⟩).mono fun e W' ⟨he, bel⟩ => ?_
  subst he
  exact ⟨_, rfl, _, _, _, [], [], [], hW', trodAll_mk1 (shut_bool Tryd.underlying4 _), (trodAll_cons_mk (sh0 _ _) (trodAll_cons_mk (shut_int Tryd.underlying22 w1) trodAll_mk0)), rfl, bel.frame _, fun h => by cases h⟩

theorem over : Rows.AluApartSaid :=
  OpenClaim.holds_of_wide 7 Tryd.f7 rfl rfl rfl rfl rfl rfl rfl ⟨rfl, rfl, rfl, rfl, rfl⟩ rfl rfl rfl rfl rfl (by kernel_rfl) Tryd.func7 (by kernel_rfl)
    (of_decide_eq_true (by kernel_rfl)) (by unfold Func.isWrapper; first | (rw [if_pos (by decide +kernel)]; kernel_rfl) | (rw [if_neg (by decide +kernel)]; exact ⟨rfl, rfl⟩))
    (fun os started H enc _ => lifted os started H enc)
end Go.Proofs.YtlfhcnpbgbnadaaDoor.aluApart
namespace Go.Proofs.YtlfhcnpbgbnadaaDoor
open Go
/-- The statement. -/
theorem aluApart_holds : Rows.AluApartCardSaid :=
  Claim7.holds_tied_plain_at .later [] [.data, .data, .data, .sentinel, .sentinel, .data] true _ true
    aluApart.over (fun _ h => by cases h) (by kernel_rfl) (fun _ h => by cases h) aluApart_row_tie rfl ⟨rfl, rfl⟩ (by kernel_rfl) rfl
    (fun f fn hf hfn => by
      obtain rfl : f = 7 := Option.some.inj ((show Tryd.prog.funcNamed "warder/warderlaw03.AluApart" = some 7 by kernel_rfl).symm.trans hf) |>.symm
      obtain rfl : fn = Tryd.f7 := (Option.some.inj (Tryd.func7.symm.trans hfn)).symm
      exact ⟨by kernel_rfl, fun j t ht => by
        rw [Tryd.params7] at ht
        have hm : t ∈ [25, 22] := by simpa using Array.mem_of_getElem? ht
        have hall : ([25, 22].all fun u => !Tryd.prog.wantsStandIn u) = true := by kernel_rfl
        exact (show Tryd.prog.wantsStandIn t = false by simpa using List.all_eq_true.1 hall t hm)⟩)
    (by kernel_rfl)
#print axioms aluApart_holds
end Go.Proofs.YtlfhcnpbgbnadaaDoor
