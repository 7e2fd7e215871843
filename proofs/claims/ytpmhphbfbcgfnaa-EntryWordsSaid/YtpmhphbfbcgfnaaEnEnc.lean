/-
  What entry's Encode and Both answer, at every argument; no condition but that each argument is of its Go type.
-/
import Derived.Test.YtpmhphbfbcgfnaaEnEq
namespace Go.Proofs.Ytpmhphbfbcgfnaa
open Go.RowKit Nt
namespace En
/-- How much of the frame comes back. -/
def eF (V : Bool) (F : Int) : Int := if V then F % 65536 else 0
theorem decode_lw (V W X B : Bool) (F : Int) (w : World) :
    Calls Try.prog 11 #[.int .u32 (lw V W X B F)] w fun e w' => e = .returned (.agg #[.bool V, .bool (V && W), .bool (V && X), .bool (V && B), .int .i64 (eF V F)]) ∧ Below w.heap.size w w' := by
  have l := lw_lt V W X B F
  have d := decode_any (lw V W X B F) w l.1 (by omega)
  obtain ⟨e0, e1, e2, e3, e4⟩ := lw_dec V W X B F
  rw [e0, e1, e2, e3, e4] at d
  exact d
theorem gd_eq (V W X B : Bool) (F : Int) : (V == V && (V && W) == W && (V && X) == X && (V && B) == B && (if V then F % 65536 else 0) == F) = gd V W X B F := by
  unfold gd
  rw [Bool.eq_iff_iff]
  cases V <;> cases W <;> cases X <;> cases B <;> simp <;> omega
theorem eqLw (V W X B : Bool) (F : Int) (w : World) : (Op.equalIn 10000 23 (.agg #[.bool V, .bool (V && W), .bool (V && X), .bool (V && B), .int .i64 (eF V F)]) (.agg #[.bool V, .bool W, .bool X, .bool B, .int .i64 F])).run Try.prog w = .ok (gd V W X B F) w := by
  rw [eqEnt]
  exact congrArg (fun x => Result.ok x w) (gd_eq V W X B F)
/-- What Encode answers. -/
def encN (V W X B : Bool) (F : Int) : Int := if gd V W X B F then lw V W X B F else 0
set_option maxHeartbeats 1000000 in
theorem encode_any (V W X B : Bool) (F : Int) (w : World) :
    Calls Try.prog 8 #[.agg #[.bool V, .bool W, .bool X, .bool B, .int .i64 F]] w fun e w' => e = .returned (.tuple #[.int .u32 (encN V W X B F), .bool (gd V W X B F)]) ∧ Below w.heap.size w w' := by
  have b0 : Below w.heap.size w (w.alloc (.cells #[.bool V, .bool W, .bool X, .bool B, .int .i64 F] 23)) := (Below.refl _ _).alloc (Nat.le_refl _) _
  have B0 := Lib.hid b0
  have H0 := Lib.hid (five_new w V W X B F 23)
  have q := eqLw V W X B F
  clear b0
  cases hg : gd V W X B F
  all_goals
    have E := Lib.hid (show encN V W X B F = if gd V W X B F then lw V W X B F else 0 from rfl)
    rw [hg] at q
    go_enter Try.func8, Try.ntmps8
    go_wp2_with fail
    refine (lay_any _ _ _ _ _ _).mono ?_
    rintro e w1 ⟨rfl, hb⟩
    have H1 := Lib.hid (H0.out.kept' hb)
    have B1 := Lib.hid (B0.out.trans (hb.mono B0.out.size))
    clear hb
    go_wp2_with fail
    obtain ⟨x0, x1, x2, x3, x4⟩ := H1.out
    have k0 := cell_regrown x0
    have k1 := cell_regrown x1
    have k2 := cell_regrown x2
    have k3 := cell_regrown x3
    have k4 := cell_regrown x4
    clear x0 x1 x2 x3 x4
    refine wp_region_quiet_below (by kernel_rfl) (by kernel_rfl) ?_
    repeat (quiet_step (first | (go_at_call 11; exact Calls.regrown_of (decode_lw _ _ _ _ _ _))))
    refine wpQuiet_nil ?_
    intro _ hw'
    obtain ⟨⟨dq, osq⟩, hw''⟩ := hw'
    subst hw''
    have hb2 := below_regrown w1 dq osq
    go_wp2
    go_ret2
    exact ⟨by rw [E.out, hg]; rfl, B1.out.trans (hb2.mono B1.out.size)⟩
end En
end Go.Proofs.Ytpmhphbfbcgfnaa
