/-
  What the laws' alive and great answer. Conditions: that each argument is of its Go type.
-/
import Derived.Test.YtiiggmfindfkfaaGreatStBegin
namespace Go.Proofs.YtiiggmfindfkfaaGreat
open Go.RowKit Nt
namespace St
open Ph En Wk
def alC : Nat → Cq
  | 0 => ⟨0, 3, 5, true, false⟩
  | 1 => ⟨2, 3, 0, false, false⟩
  | 2 => ⟨1, 1, 64, false, true⟩
  | 3 => ⟨3, 65, 0, true, true⟩
  | 4 => ⟨5, 1, 0, false, false⟩
  | 5 => ⟨3, 65, 0, false, true⟩
  | _ => ⟨5, 1, 0, false, false⟩
def alNext (s : List Nat × (Nat → Fst)) (c : Cq) : List Nat × (Nat → Fst) := (opA 140 s.1 s.2 c).2
def alS : Nat → List Nat × (Nat → Fst)
  | 0 => ((own0 140 40).set 0 1, fun _ => .no)
  | k + 1 => alNext (alS k) (alC k)
def alK (k : Nat) : Int := (opA 140 (alS k).1 (alS k).2 (alC k)).1
theorem alk0 : alK 0 = 0 := by kernel_rfl
theorem alk1 : alK 1 = 0 := by kernel_rfl
theorem alk2 : alK 2 = 0 := by kernel_rfl
theorem alk3 : alK 3 = 0 := by kernel_rfl
theorem alk4 : alK 4 = 20 := by kernel_rfl
theorem alk5 : alK 5 = 0 := by kernel_rfl
theorem alk6 : alK 6 = 0 := by kernel_rfl
theorem alt1 : tabs (alS 1).2 + 1 = 2 := by kernel_rfl
theorem alt7 : tabs (alS 7).2 + 1 = 1 := by kernel_rfl
theorem all4 : told (alS 4).2 65 = some ⟨true, true, 65, false⟩ := by kernel_rfl
theorem all7 : told (alS 7).2 66 = some ⟨false, true, 66, true⟩ := by kernel_rfl
theorem alo7 : (Fr.which 1 (alS 7).1).length = 1 := by kernel_rfl
/-- Where the laws' alive stands. -/
structure Al (B g : Nat) (L : Loc) (w : World) (v : Value) (x : Pl) (k : Nat) : Prop where
  wd : Wd B g L w v x
  rep : Rep L.n x (alS k).2
  os : x.os = (alS k).1
  n : L.n = 140
theorem Al.below {B g : Nat} {L : Loc} {w w' : World} {v : Value} {x : Pl} {k : Nat} (h : Al B g L w v x k) (hb : Below w.heap.size w w') : Al B g L w' v x k := ⟨h.wd.below hb, h.rep, h.os, h.n⟩
def AlEnd (B g : Nat) (L : Loc) (v : Value) (kk : Int) (k : Nat) (w : World) (e : Ending) (w' : World) : Prop := e = .returned (.int .i64 kk) ∧ ∃ v' x', Al B g L w' v' x' (k + 1) ∧ Below B w w' ∧ Hop L.S v v' w w'
theorem al_call {B g : Nat} {L : Loc} {w : World} {v : Value} {x : Pl} {k K : Nat} {args : Array Value} (kk : Int) (hk : alK k = kk) (D : Al B g L w v x k)
    (C : Calls Tryz.prog K args w (OEnd L v (gon x (opP L.n L.vm x.noLog (alS k).2 (alC k))).k (gon x (opP L.n L.vm x.noLog (alS k).2 (alC k))).x w)) : Calls Tryz.prog K args w (AlEnd B g L v kk k w) := by
  have e0 : gon x (opP L.n L.vm x.noLog (alS k).2 (alC k)) = opP L.n L.vm x.noLog (alS k).2 (alC k) := by unfold gon; rw [D.rep.live]; rfl
  rw [e0] at C
  have ha := op_abs (n := L.n) (vm := L.vm) (x := x.noLog) (A := (alS k).2) (alC k)
  rw [show x.noLog.os = x.os from rfl, D.os] at ha
  have hg := (op_good (vm := L.vm) D.rep.noLog rfl (alC k)).2.1
  have hn := D.n
  have h1 : (opP L.n L.vm x.noLog (alS k).2 (alC k)).k = kk := by
    have := congrArg (·.1) ha
    rw [← hk]
    unfold alK
    rw [← hn]
    exact this
  have h2 : (opP L.n L.vm x.noLog (alS k).2 (alC k)).x.os = (alS (k + 1)).1 := by
    have := congrArg (·.2.1) ha
    show _ = (alNext (alS k) (alC k)).1
    unfold alNext
    rw [← hn]
    exact this
  have h3 : (opP L.n L.vm x.noLog (alS k).2 (alC k)).A = (alS (k + 1)).2 := by
    have := congrArg (·.2.2) ha
    show _ = (alNext (alS k) (alC k)).2
    unfold alNext
    rw [← hn]
    exact this
  refine C.mono ?_
  rintro e w' ⟨rfl, v', hS, hP⟩
  refine ⟨by rw [h1], v', _, ⟨D.wd.hop hS hP, by rw [← h3]; exact hg, h2, hn⟩, D.wd.bel hP, hP⟩
set_option maxRecDepth 100000 in
set_option maxHeartbeats 8000000 in
theorem alive_any (w : World) : Calls Tryz.prog 5 #[] w fun e w' => e = .returned (.bool true) ∧ Below w.heap.size w w' := by
  go_enter Tryz.func5, Tryz.ntmps5
  go_wp2_with fail
  refine (begin_any 140 100 w (by decide) (by decide)).mono ?_
  rintro e w1 ⟨g, L, v, rfl, D, hb, hn, hvm, _⟩
  have D0 := Lib.hid (show Al w.heap.size g L w1 v (beg 140 100 8) 0 from ⟨D, by rw [hn]; exact beg_rep (by decide) (by decide), rfl, hn⟩)
  have B0 := Lib.hid hb
  have VM := Lib.hid hvm
  have c3 := D.c.2.2.2
  clear D hb hn hvm
  generalize beg 140 100 8 = x0 at *
  go_wp2_with fail
  clear c3
  refine (al_call (k := 0) 0 alk0 D0.out (map_call 3 5 true false _ D0.out.wd.st (fun _ => D0.out.rep))).mono ?_
  rintro e y0 ⟨rfl, v1, x1, hD, hB, hP⟩
  have D1 := Lib.hid hD
  have B1 := Lib.hid (B0.out.trans hB)
  clear hD hB hP D0 B0
  go_wp2_with fail
  have C := ntab_any _ D1.out.wd.st D1.out.rep
  rw [alt1] at C
  refine C.mono ?_
  rintro e z0 ⟨rfl, b1⟩
  have D1 := Lib.hid (D1.out.below b1)
  have B1 := Lib.hid (B1.out.trans (b1.mono B1.out.size))
  clear b1 C
  go_wp2_with fail
  refine (al_call (k := 1) 0 alk1 D1.out (unmap_call 3 _ D1.out.wd.st (fun _ => D1.out.rep))).mono ?_
  rintro e y1 ⟨rfl, v2, x2, hD, hB, hP⟩
  have D2 := Lib.hid hD
  have B2 := Lib.hid (B1.out.trans hB)
  clear hD hB hP D1 B1
  go_wp2_with fail
  refine (al_call (k := 2) 0 alk2 D2.out (maprun_call 1 64 false true _ D2.out.wd.st (fun _ => D2.out.rep))).mono ?_
  rintro e y2 ⟨rfl, v3, x3, hD, hB, hP⟩
  have D3 := Lib.hid hD
  have B3 := Lib.hid (B2.out.trans hB)
  clear hD hB hP D2 B2
  go_wp2_with fail
  refine (al_call (k := 3) 0 alk3 D3.out (protect_call 65 true true _ D3.out.wd.st (fun _ => D3.out.rep))).mono ?_
  rintro e y3 ⟨rfl, v4, x4, hD, hB, hP⟩
  have D4 := Lib.hid hD
  have B4 := Lib.hid (B3.out.trans hB)
  clear hD hB hP D3 B3
  go_wp2_with fail
  have C := look_some 65 ⟨true, true, 65, false⟩ _ D4.out.wd.st D4.out.rep (by decide) all4
  refine C.mono ?_
  rintro e z1 ⟨rfl, b1⟩
  have Y1 := Lib.hid (Tl.Lay.new z1 62 [.bool true, .bool true, .bool true, .bool false, .int .i64 65])
  have E4 := Lib.hid ((D4.out.below b1).below ((Below.refl _ _).alloc (Nat.le_refl _) (.cells #[.bool true, .bool true, .bool true, .bool false, .int .i64 65] 62)))
  have F4 := Lib.hid ((B4.out.trans (b1.mono B4.out.size)).alloc (Nat.le_trans B4.out.size b1.size) (.cells #[.bool true, .bool true, .bool true, .bool false, .int .i64 65] 62))
  have NY := Lib.hid (show z1.heap.size ∉ L.all ∧ v4.ownBlock ≠ some z1.heap.size from ⟨fun h => by have := (D4.out.below b1).wd.st.lts _ h; omega, (D4.out.below b1).wd.st.off (Nat.le_refl _)⟩)
  clear D4 B4 b1 C
  go_wp2_with fail
  show Calls _ _ _ (z1.alloc (.cells #[.bool true, .bool true, .bool true, .bool false, .int .i64 65] 62)) _
  have NS := Lib.hid (S_all NY.out.1)
  have NV1 := Lib.hid NY.out.2
  clear NY
  generalize z1.heap.size = b8 at *
  generalize z1.alloc (.cells #[.bool true, .bool true, .bool true, .bool false, .int .i64 65] 62) = z2 at *
  have D4 := E4
  have B4 := F4
  clear E4 F4
  refine (al_call (k := 4) 20 alk4 D4.out (merge_call 1 _ D4.out.wd.st (fun _ => D4.out.rep))).mono ?_
  rintro e y4 ⟨rfl, v5, x5, hD, hB, hP⟩
  have D5 := Lib.hid hD
  have B5 := Lib.hid (B4.out.trans hB)
  have Y2 := Lib.hid (hP.lay Y1.out NS.out NV1.out)
  have NV2 := Lib.hid (hP.off Y1.out.lt NV1.out)
  clear Y1 NV1
  clear hD hB hP D4 B4
  go_wp2_with fail
  refine (al_call (k := 5) 0 alk5 D5.out (protect_call 65 false true _ D5.out.wd.st (fun _ => D5.out.rep))).mono ?_
  rintro e y5 ⟨rfl, v6, x6, hD, hB, hP⟩
  have D6 := Lib.hid hD
  have B6 := Lib.hid (B5.out.trans hB)
  have Y3 := Lib.hid (hP.lay Y2.out NS.out NV2.out)
  have NV3 := Lib.hid (hP.off Y2.out.lt NV2.out)
  clear Y2 NV2
  clear hD hB hP D5 B5
  go_wp2_with fail
  refine (al_call (k := 6) 0 alk6 D6.out (merge_call 1 _ D6.out.wd.st (fun _ => D6.out.rep))).mono ?_
  rintro e y6 ⟨rfl, v7, x7, hD, hB, hP⟩
  have D7 := Lib.hid hD
  have B7 := Lib.hid (B6.out.trans hB)
  have Y4 := Lib.hid (hP.lay Y3.out NS.out NV3.out)
  have NV4 := Lib.hid (hP.off Y3.out.lt NV3.out)
  clear Y3 NV3
  clear hD hB hP D6 B6
  go_wp2_with fail
  have C := look_some 66 ⟨false, true, 66, true⟩ _ D7.out.wd.st D7.out.rep (by decide) all7
  refine C.mono ?_
  rintro e z3 ⟨rfl, b1⟩
  have Y5 := Lib.hid ((Y4.out.kept (Only.of b1 []) (by simp)).alloc (.cells #[.bool true, .bool false, .bool true, .bool true, .int .i64 66] 62))
  have Z5 := Lib.hid (Tl.Lay.new z3 62 [.bool true, .bool false, .bool true, .bool true, .int .i64 66])
  have E7 := Lib.hid ((D7.out.below b1).below ((Below.refl _ _).alloc (Nat.le_refl _) (.cells #[.bool true, .bool false, .bool true, .bool true, .int .i64 66] 62)))
  have F7 := Lib.hid ((B7.out.trans (b1.mono B7.out.size)).alloc (Nat.le_trans B7.out.size b1.size) (.cells #[.bool true, .bool false, .bool true, .bool true, .int .i64 66] 62))
  clear D7 B7 b1 C Y4
  obtain ⟨b13, hb13⟩ : ∃ b, b = z3.heap.size := ⟨_, rfl⟩
  have HB := Lib.hid hb13
  rw [← hb13] at Z5
  have y1 := Y5.out.cell 1
  have y4 := Y5.out.cell 4
  have w3 := Z5.out.cell 3
  simp only [List.getElem?_cons_zero, List.getElem?_cons_succ] at y1 y4 w3
  rw [hb13] at w3
  clear hb13
  go_wp2_with fail
  have C := ntab_any _ E7.out.wd.st E7.out.rep
  rw [alt7] at C
  refine C.mono ?_
  rintro e z5 ⟨rfl, b1⟩
  have E8 := Lib.hid (E7.out.below b1)
  have F8 := Lib.hid (F7.out.trans (b1.mono F7.out.size))
  have c1 := E8.out.wd.c.2.1
  clear b1 C E7 F7 y1 y4 w3 Y5 Z5
  go_wp2_with fail
  have C := Fr.count_any L.t L.tF 1 _ z5 E8.out.wd.st.tab
  rw [E8.out.os, alo7] at C
  refine C.mono ?_
  rintro e z6 ⟨rfl, rfl⟩
  clear c1 C
  go_wp2_with fail
  have C := vmid_any _ E8.out.wd.st
  rw [VM.out] at C
  refine C.mono ?_
  rintro e z6 ⟨rfl, rfl⟩
  go_wp2_with fail
  go_ret
  exact ⟨rfl, F8.out⟩
/-- Are calls more than are looked at? -/
def gr (n away : Int) (len : Nat) : Prop := n < 1 ∨ 300 < n ∨ away < 0 ∨ n ≤ away ∨ 24 < len
theorem great_no (n away : Nat) (pa : Option Addr) (len cap : Nat) (w : World) (hl : len ≤ 24) (h1 : away < n) (h2 : n ≤ 300) :
    Calls Tryz.prog 6 #[.int .i64 n, .int .i64 away, .slice pa len cap] w fun e w' => e = .returned (.bool false) ∧ w = w' := by
  have d1 : ¬ (n : Int) < 1 := by omega
  have d2 : ¬ (300 : Int) < (n : Int) := by omega
  have d3 : ¬ (away : Int) < 0 := by omega
  have d4 : ¬ (n : Int) ≤ (away : Int) := by omega
  have d5 : ¬ (24 : Int) < (len : Int) := by omega
  clear hl h1 h2
  go_enter Tryz.func6, Tryz.ntmps6
  go_wp2
  go_ret
  exact ⟨rfl, rfl⟩
theorem great_yes (n away : Int) (pa : Option Addr) (len cap : Nat) (w : World) (h : gr n away len) :
    Calls Tryz.prog 6 #[.int .i64 n, .int .i64 away, .slice pa len cap] w fun e w' => e = .returned (.bool true) ∧ w = w' := by
  unfold gr at h
  by_cases d1 : n < 1
  · clear h
    have d := decide_eq_true d1
    go_enter Tryz.func6, Tryz.ntmps6
    go_wp2
    go_ret
    exact ⟨rfl, rfl⟩
  by_cases d2 : 300 < n
  · clear h d1
    have e1 : ¬ n < 1 := by omega
    go_enter Tryz.func6, Tryz.ntmps6
    go_wp2
    go_ret
    exact ⟨rfl, rfl⟩
  by_cases d3 : away < 0
  · clear h
    go_enter Tryz.func6, Tryz.ntmps6
    go_wp2
    go_ret
    exact ⟨rfl, rfl⟩
  by_cases d4 : n ≤ away
  · clear h
    go_enter Tryz.func6, Tryz.ntmps6
    go_wp2
    go_ret
    exact ⟨rfl, rfl⟩
  · have d5 : (24 : Int) < (len : Int) := by omega
    clear h
    go_enter Tryz.func6, Tryz.ntmps6
    go_wp2
    go_ret
    exact ⟨rfl, rfl⟩
end St
end Go.Proofs.YtiiggmfindfkfaaGreat
