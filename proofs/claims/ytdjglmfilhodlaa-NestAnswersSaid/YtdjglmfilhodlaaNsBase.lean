/-
  What a translation by two stages tells, as plain functions; a translation on its way as it lies in a world; what nest's fail, ipa and place answer, or panic with, at every argument. Conditions: that a memory and a translation on its way lie there, and that each argument is of its Go type.
-/
import Derived.Test.YtdjglmfilhodlaaWkMath
import Derived.Test.YtdjglmfilhodlaaEnBoth
namespace Go.Proofs.Ytdjglmfilhodlaa
open Go.RowKit Nt
namespace Ns
open Ph En Wk

/-! ### Plain functions -/
/-- What a translation fails by. -/
structure Flt where
  st : Int
  kd : Int
  ad : Int
  tb : Bool
def Flt.val (f : Flt) : Value := .agg #[.int .i64 f.st, .int .i64 f.kd, .int .u32 f.ad, .bool f.tb]
/-- How a call ends that fails so. -/
def pan (f : Flt) : Ending := .panicked [{ v := .iface 36 f.val, recovered := false }]
/-- What comes out: how many entries were read, and an answer, or a fault. -/
inductive Out (α : Type) where
  | ok (r : Int) (x : α)
  | bad (r : Int) (f : Flt)
def Out.bind {α β : Type} : Out α → (Int → α → Out β) → Out β
  | .ok r x, k => k r x
  | .bad r f, _ => .bad r f
/-- Where an address of the second kind is. -/
structure Spot where
  A : Int
  h : Hit
def placeS (n : Nat) (z : Nat → Int) (tb a acc : Int) (t : Bool) (rd : Int) : Out Spot :=
  if (walkS n z tb a acc).f = 0 then .ok (rd + (walkS n z tb a acc).r) ⟨256 * (walkS n z tb a acc).F + a % 256, walkS n z tb a acc⟩
  else .bad (rd + (walkS n z tb a acc).r) ⟨2, (walkS n z tb a acc).f, a, t⟩
def ipaS (va p o rd : Int) : Out Int := if 0 ≤ p ∧ p < 4096 then .ok rd (p * 256 + o) else .bad rd ⟨1, 1, va, false⟩
def slotS (n : Nat) (z : Nat → Int) (tb va p i rd : Int) : Out Ent :=
  (ipaS va p (4 * i) rd).bind fun r a => (placeS n z tb a 0 true r).bind fun r s => .ok r (entOf (rdw n z s.A.toNat))
def tellsS (n : Nat) (z : Nat → Int) (tb va root rd : Int) : Out Ent :=
  (slotS n z tb va (root / 256) (va / 16384 % 64) rd).bind fun r e =>
    if e.V = false then .bad r ⟨1, 2, va, false⟩
    else if e.B = true then .ok r ⟨e.V, e.W, e.X, e.B, e.F + va / 256 % 64⟩
    else (slotS n z tb va e.F (va / 256 % 64) r).bind fun r e => if e.V = false then .bad r ⟨1, 3, va, false⟩ else .ok r e
def ownS (n : Nat) (z : Nat → Int) (tb va root acc rd : Int) : Out Ent :=
  if 1048576 ≤ va then .bad rd ⟨1, 1, va, false⟩
  else if root = 0 then .ok rd ⟨true, true, true, false, va / 256 % 4096⟩
  else (tellsS n z tb va root rd).bind fun r e => if alw e.V e.W e.X acc = false then .bad r ⟨1, 4, va, false⟩ else .ok r e
/-- What a translation that goes well tells. -/
structure Fine where
  P : Int
  A : Int
  W : Bool
  X : Bool
def runS (n : Nat) (z : Nat → Int) (tb va root acc rd : Int) : Out Fine :=
  (ownS n z tb va root acc rd).bind fun r e => (ipaS va e.F (va % 256) r).bind fun r a => (placeS n z tb a acc false r).bind fun r s => .ok r ⟨e.F, s.A, e.V && (e.W && s.h.W), e.V && (e.X && s.h.X)⟩
/-- What is told. -/
structure Tld where
  f : Flt
  r : Int
  P : Int
  A : Int
  W : Bool
  X : Bool
def toldOf : Out Fine → Tld
  | .ok r x => ⟨⟨0, 0, 0, false⟩, r, x.P, x.A, x.W, x.X⟩
  | .bad r f => ⟨f, r, 0, 0, false, false⟩
def transS (n : Nat) (z : Nat → Int) (root tb va acc : Int) : Tld := toldOf (runS n z tb va root acc 0)

/-! ### Bounds -/
theorem tellS_r (n : Nat) (z : Nat → Int) (root a : Int) : 0 ≤ (tellS n z root a).r ∧ (tellS n z root a).r ≤ 2 := by
  unfold tellS
  repeat' split
  all_goals simp
theorem walkS_r (n : Nat) (z : Nat → Int) (root a acc : Int) : 0 ≤ (walkS n z root a acc).r ∧ (walkS n z root a acc).r ≤ 2 := by
  have h := tellS_r n z root a
  unfold walkS hitOf
  repeat' split
  all_goals exact h
theorem walkS_F {n : Nat} {z : Nat → Int} {root a acc : Int} (h : (walkS n z root a acc).f = 0) : 0 ≤ (walkS n z root a acc).F ∧ (walkS n z root a acc).F < n := by
  unfold walkS hitOf at h ⊢
  by_cases h1 : (tellS n z root a).f ≠ 0
  · rw [if_pos h1] at h
    exact absurd h h1
  · rw [if_neg h1] at h ⊢
    by_cases h2 : checkS n (tellS n z root a).e acc ≠ 0
    · rw [if_pos h2] at h
      exact absurd h h2
    · rw [if_neg h2]
      have h3 : checkS n (tellS n z root a).e acc = 0 := by simpa using h2
      unfold checkS at h3
      split at h3
      · simp at h3
      · split at h3
        · simp at h3
        · rename_i h5
          exact inM_true (by simpa using h5)

/-! ### A translation on its way -/
/-- It lies in a block, and may be written. -/
structure Crs (w : World) (cb m : Nat) (tb va rd : Int) : Prop where
  c0 : w.cell? ⟨cb, 0, none⟩ = some (.pointer (some ⟨m, 0, none⟩))
  c1 : w.cell? ⟨cb, 1, none⟩ = some (.int .i64 tb)
  c2 : w.cell? ⟨cb, 2, none⟩ = some (.int .u32 va)
  c3 : w.cell? ⟨cb, 3, none⟩ = some (.int .i64 rd)
  free : ∀ i, w.frozen? ⟨cb, i, none⟩ = false
theorem Crs.lt {w : World} {cb m : Nat} {tb va rd : Int} (h : Crs w cb m tb va rd) : cb < w.heap.size := block_lt_of_cell h.c0
theorem Crs.kept {w w' : World} {cb m : Nat} {tb va rd : Int} {S : List Nat} (h : Crs w cb m tb va rd) (ho : Only S w w') (hn : cb ∉ S) : Crs w' cb m tb va rd :=
  ⟨(ho.cell h.lt hn 0).trans h.c0, (ho.cell h.lt hn 1).trans h.c1, (ho.cell h.lt hn 2).trans h.c2, (ho.cell h.lt hn 3).trans h.c3, fun i => (ho.frozen h.lt hn i).trans (h.free i)⟩
theorem Crs.set {w : World} {cb m : Nat} {tb va rd : Int} (h : Crs w cb m tb va rd) (r : Int) : Crs (w.setCell ⟨cb, 3, none⟩ (.int .i64 r)).drew cb m tb va r := by
  obtain ⟨c0, c1, c2, c3, fr⟩ := h
  refine ⟨?_, ?_, ?_, ?_, fun i => ?_⟩
  · simp [go_sem, c0]
  · simp [go_sem, c1]
  · simp [go_sem, c2]
  · simp [go_sem, c3]
  · simp only [World.frozen?_drew, World.frozen?_setCell]; exact fr i
/-- How a call on its way ends. -/
def OutEnd {α : Type} (val : α → Value) (o : Out α) (cb m : Nat) (tb va : Int) (w : World) (e : Ending) (w' : World) : Prop :=
  match o with
  | .ok r x => e = .returned (val x) ∧ Only [cb] w w' ∧ Crs w' cb m tb va r
  | .bad r f => e = pan f ∧ Only [cb] w w' ∧ Crs w' cb m tb va r
theorem out_bad {α : Type} {val : α → Value} {o : Out α} {cb m : Nat} {tb va r : Int} {f : Flt} {w w' : World} {e : Ending} (T : o = .bad r f) (he : e = pan f) (ho : Only [cb] w w') (hc : Crs w' cb m tb va r) : OutEnd val o cb m tb va w e w' := by
  subst T
  exact ⟨he, ho, hc⟩
theorem out_ok {α : Type} {val : α → Value} {o : Out α} {cb m : Nat} {tb va r : Int} {x : α} {w w' : World} {e : Ending} (T : o = .ok r x) (he : e = .returned (val x)) (ho : Only [cb] w w') (hc : Crs w' cb m tb va r) : OutEnd val o cb m tb va w e w' := by
  subst T
  exact ⟨he, ho, hc⟩
theorem fail_any (cb m : Nat) (k tb va rd : Int) (w : World) (hC : Crs w cb m tb va rd) :
    Calls Try.prog 64 #[.pointer (some ⟨cb, 0, none⟩), .int .i64 k] w fun e w' => e = pan ⟨1, k, va, false⟩ ∧ w = w' := by
  have c2 := hC.c2
  go_enter Try.func64, Try.ntmps64
  go_wp2
  exact ⟨rfl, rfl, rfl⟩
theorem ipa_yes (cb : Nat) (p o : Int) (w : World) (h0 : 0 ≤ p) (h1 : p < 4096) (h2 : 0 ≤ o) (h3 : o < 256) :
    Calls Try.prog 50 #[.pointer (some ⟨cb, 0, none⟩), .int .i64 p, .int .i64 o] w fun e w' => e = .returned (.int .u32 (p * 256 + o)) ∧ w = w' := by
  go_enter Try.func50, Try.ntmps50
  go_wp2_with fail
  refine (join_yes p o _ h0 h1 h2 h3).mono ?_
  rintro e w' ⟨rfl, rfl⟩
  go_wp2
  go_ret
  exact ⟨rfl, rfl⟩
theorem ipa_no (cb m : Nat) (p o tb va rd : Int) (w : World) (hC : Crs w cb m tb va rd) (h : ¬ (0 ≤ p ∧ p < 4096)) :
    Calls Try.prog 50 #[.pointer (some ⟨cb, 0, none⟩), .int .i64 p, .int .i64 o] w fun e w' => e = pan ⟨1, 1, va, false⟩ ∧ w = w' := by
  go_enter Try.func50, Try.ntmps50
  go_wp2_with fail
  refine (join_no p o _ (fun k => h ⟨k.1, k.2.1⟩)).mono ?_
  rintro e w' ⟨rfl, rfl⟩
  go_wp2_with (go_at_call 64; refine (fail_any cb m 1 tb va rd _ hC).mono ?_; rintro e w' ⟨rfl, rfl⟩; unfold pan)
  exact ⟨rfl, rfl, rfl⟩
/-- A hit's cells when they are written. -/
def set6 (w : World) (b : Nat) (f r F : Int) (W X B : Bool) : World :=
  (((((w.setCell ⟨b, 0, none⟩ (.int .i64 f)).setCell ⟨b, 1, none⟩ (.int .i64 r)).setCell ⟨b, 2, none⟩ (.int .i64 F)).setCell ⟨b, 3, none⟩ (.bool W)).setCell ⟨b, 4, none⟩ (.bool X)).setCell ⟨b, 5, none⟩ (.bool B)
theorem set6_six {w : World} {b : Nat} {f r F : Int} {W X B : Bool} {f' r' F' : Int} {W' X' B' : Bool} (h : Six w b f r F W X B) : Six (set6 w b f' r' F' W' X' B') b f' r' F' W' X' B' := by
  obtain ⟨c0, c1, c2, c3, c4, c5⟩ := h
  unfold set6
  constructor <;> simp [go_sem, c0, c1, c2, c3, c4, c5]
theorem set6_only (w : World) (b : Nat) (f r F : Int) (W X B : Bool) : Only [b] w (set6 w b f r F W X B) := by
  unfold set6
  exact (((((Only.setCell w (by simp) _ _).trans (Only.setCell _ (by simp) _ _)).trans (Only.setCell _ (by simp) _ _)).trans (Only.setCell _ (by simp) _ _)).trans (Only.setCell _ (by simp) _ _)).trans (Only.setCell _ (by simp) _ _)
theorem set6_free {w : World} {b : Nat} (h : Free w b) (f r F : Int) (W X B : Bool) : Free (set6 w b f r F W X B) b :=
  ⟨Nat.lt_of_lt_of_le h.1 (set6_only w b f r F W X B).size, fun i => by unfold set6; simp only [World.frozen?_setCell]; exact h.2 i⟩
theorem _root_.Go.Proofs.Ytdjglmfilhodlaa.Wk.Free.keptO {w w' : World} {b : Nat} {S : List Nat} (h : Free w b) (ho : Only S w w') (hn : b ∉ S) : Free w' b :=
  ⟨Nat.lt_of_lt_of_le h.1 ho.size, fun i => (ho.frozen h.1 hn i).trans (h.2 i)⟩
def Spot.val (s : Spot) : Value := .tuple #[.int .u32 s.A, s.h.val]
set_option maxHeartbeats 2000000 in
theorem place_any (m F n c cb : Nat) (z : Nat → Int) (tb va rd a acc : Int) (t : Bool) (w : World) (hM : Mem w m F n c z) (hC : Crs w cb m tb va rd) (h0 : 0 ≤ a) (h1 : a < 4294967296) (r0 : 0 ≤ rd) (r1 : rd ≤ 100) :
    Calls Try.prog 49 #[.pointer (some ⟨cb, 0, none⟩), .int .u32 a, .int .i64 acc, .bool t] w (OutEnd Spot.val (placeS n z tb a acc t rd) cb m tb va w) := by
  have hb : Below w.heap.size w (w.alloc (.cells #[.int .i64 0, .int .i64 0, .int .i64 0, .bool false, .bool false, .bool false] 62)).drew := ((Below.refl _ _).alloc (Nat.le_refl _) _).drew
  have M0 := Lib.hid (hM.kept (Only.of hb []) (by simp) (by simp))
  have C0 := Lib.hid (hC.kept (Only.of hb []) (by simp))
  have B0 := Lib.hid hb
  have Z0 := Lib.hid (six_new w 0 0 0 false false false 62)
  have l0 := block_lt_of_cell (six_new w 0 0 0 false false false 62).c0
  have G0 := Lib.hid (free_new w #[.int .i64 0, .int .i64 0, .int .i64 0, .bool false, .bool false, .bool false] 62)
  obtain ⟨⟨f, r, F', W, X, B⟩, hH⟩ : ∃ H, walkS n z tb a acc = H := ⟨_, rfl⟩
  have HH := Lib.hid hH
  have hr := walkS_r n z tb a acc
  rw [hH] at hr
  have hr0 : 0 ≤ r := hr.1
  have hr2 : r ≤ 2 := hr.2
  have hf0 : Hid (f = 0 → 0 ≤ F' ∧ F' < n) := Lib.hid (fun h => by have := walkS_F (n := n) (z := z) (root := tb) (a := a) (acc := acc) (by rw [hH]; exact h); rw [hH] at this; exact this)
  have hn : n ≤ 1024 := hM.few
  clear hr
  have hlt := hC.lt
  clear hM hC hb hH
  have d0 := C0.out.c0
  have d1 := C0.out.c1
  go_enter Try.func49, Try.ntmps49
  go_wp2_with fail
  generalize (w.alloc (.cells #[.int .i64 0, .int .i64 0, .int .i64 0, .bool false, .bool false, .bool false] 62)) = u at *
  have hx := Only.of ((Below.refl u.drew.heap.size u.drew).alloc (Nat.le_refl _) (.cells #[.int .i64 0, .int .i64 0, .int .i64 0, .bool false, .bool false, .bool false] 62)) []
  have BX := Lib.hid (show Below u.drew.heap.size u.drew (u.alloc (.cells #[.int .i64 0, .int .i64 0, .int .i64 0, .bool false, .bool false, .bool false] 62)).drew from (Below.refl u.drew.heap.size u.drew).alloc (Nat.le_refl _) (.cells #[.int .i64 0, .int .i64 0, .int .i64 0, .bool false, .bool false, .bool false] 62))
  have M0' := Lib.hid (show Mem (u.alloc (.cells #[.int .i64 0, .int .i64 0, .int .i64 0, .bool false, .bool false, .bool false] 62)).drew m F n c z from M0.out.kept hx (by simp) (by simp))
  have C0' := Lib.hid (show Crs (u.alloc (.cells #[.int .i64 0, .int .i64 0, .int .i64 0, .bool false, .bool false, .bool false] 62)).drew cb m tb va rd from C0.out.kept hx (by simp))
  have d0' := C0'.out.c0
  have hcu : ¬ u.heap.size = cb := fun x => by have := C0.out.lt; simp at this; omega
  have hcu' : ¬ cb = u.heap.size := fun x => hcu x.symm
  have S0' := Lib.hid (show Six (u.alloc (.cells #[.int .i64 0, .int .i64 0, .int .i64 0, .bool false, .bool false, .bool false] 62)).drew u.heap.size 0 0 0 false false false from six_new u.drew 0 0 0 false false false 62)
  have G0' := Lib.hid (show Free (u.alloc (.cells #[.int .i64 0, .int .i64 0, .int .i64 0, .bool false, .bool false, .bool false] 62)).drew u.heap.size from free_new u.drew #[.int .i64 0, .int .i64 0, .int .i64 0, .bool false, .bool false, .bool false] 62)
  have d1' := C0'.out.c1
  clear hx
  go_region_held3 (fun w' => w'.cell? ⟨cb, 0, none⟩ = some (.pointer (some ⟨m, 0, none⟩)) ∧ w'.cell? ⟨cb, 1, none⟩ = some (.int .i64 tb)) (first | (with_reducible exact ⟨d0, d1⟩) | (with_reducible exact ⟨k0, k1⟩) | (with_reducible exact ⟨d0', d1'⟩) | go_keep) (first
      | (go_at_call 23; (with_reducible refine (walk_any m F n c z tb a acc _ M0.out h0 h1).mono ?_); rintro e w1 ⟨rfl, b1⟩; rw [HH.out]; simp only [Hit.val]; have C1 := C0.out.kept (Only.of b1 []) (by simp); have k0 := C1.c0; have k1 := C1.c1; have hcw : ¬ w1.heap.size = cb := (fun x => by have := C1.lt; omega); have hcw' : ¬ cb = w1.heap.size := (fun x => hcw x.symm); clear C1)
      | (go_at_call 23; (with_reducible refine (walk_any m F n c z tb a acc _ M0'.out h0 h1).mono ?_); rintro e w1 ⟨rfl, b1⟩; rw [HH.out]; simp only [Hit.val]; have C1 := C0'.out.kept (Only.of b1 []) (by simp); have k0 := C1.c0; have k1 := C1.c1; clear C1; obtain ⟨s0, s1, s2, s3, s4, s5⟩ := S0'.out.kept' b1; have GG := (G0'.out.kept' b1).2; have g0 := GG 0; have g1 := GG 1; have g2 := GG 2; have g3 := GG 3; have g4 := GG 4; have g5 := GG 5; clear GG))
  rename_i hHeld
  have e1 := Lib.hid hcw
  have e2 := Lib.hid (show w1.heap.size ≠ w.heap.size by have := b1.size; simp at this; omega)
  have b3 : Below u.drew.heap.size u.drew (w1.alloc (.cells #[.int .i64 f, .int .i64 r, .int .i64 F', .bool W, .bool X, .bool B] 62)) := b1.alloc b1.size _
  have S4 := Lib.hid (six_new w1 f r F' W X B 62)
  have G4 := Lib.hid (free_new w1 #[.int .i64 f, .int .i64 r, .int .i64 F', .bool W, .bool X, .bool B] 62)
  clear hHeld hcw hcw' hcu hcu' b1 k0 k1 d0' d1' d0 d1 S0' G0' C0' M0' M0 BX
  generalize w1.alloc (.cells #[.int .i64 f, .int .i64 r, .int .i64 F', .bool W, .bool X, .bool B] 62) = w4 at *
  have R4 := Lib.hid (Free.kept (w := u.drew) ⟨l0, G0.out.2⟩ b3 l0)
  have Z4 := Lib.hid ((show Six u.drew w.heap.size 0 0 0 false false false from ⟨Z0.out.c0, Z0.out.c1, Z0.out.c2, Z0.out.c3, Z0.out.c4, Z0.out.c5⟩).kept' b3)
  clear G0 l0 Z0
  generalize w1.heap.size = hb at *
  rotate_left
  rename_i hHeld
  have e1 := Lib.hid hcu
  have e2 := Lib.hid (show u.heap.size ≠ w.heap.size by omega)
  have b3 : Below u.drew.heap.size u.drew (set6 w1 u.heap.size f r F' W X B) := ((((((BX.out.trans (b1.mono BX.out.size)).setCell (by simp) _).setCell (by simp) _).setCell (by simp) _).setCell (by simp) _).setCell (by simp) _).setCell (by simp) _
  have S4 := Lib.hid (set6_six (f' := f) (r' := r) (F' := F') (W' := W) (X' := X) (B' := B) (S0'.out.kept' b1))
  have G4 := Lib.hid (set6_free (G0'.out.kept' b1) f r F' W X B)
  clear hHeld hcu hcu' k0 k1 s0 s1 s2 s3 s4 s5 g0 g1 g2 g3 g4 g5 b1 d0' d1' d0 d1 S0' G0' C0' M0' M0 BX
  show Exit.then _ _ Exit.normal _ (set6 w1 u.heap.size f r F' W X B)
  generalize set6 w1 u.heap.size f r F' W X B = w4 at *
  have R4 := Lib.hid (Free.kept (w := u.drew) ⟨l0, G0.out.2⟩ b3 l0)
  have Z4 := Lib.hid ((show Six u.drew w.heap.size 0 0 0 false false false from ⟨Z0.out.c0, Z0.out.c1, Z0.out.c2, Z0.out.c3, Z0.out.c4, Z0.out.c5⟩).kept' b3)
  clear G0 l0 Z0
  generalize u.heap.size = hb at *
  all_goals
    have B4 := Lib.hid (B0.out.trans (b3.mono B0.out.size))
    have C4 := Lib.hid (C0.out.kept (Only.of b3 []) (by simp))
    have e3 := Lib.hid (show ¬ cb = w.heap.size from fun x => by have := hlt; omega)
    clear b3 C0 B0
    have c3 := C4.out.c3
    have g3 := C4.out.free 3
    have s1 := S4.out.c1
    have z1 : IntKind.i64.wrap (rd + r) = rd + r := IntWalk.i64_in _ (by omega)
    clear w1 u
    go_wp2_with fail
    go_region
    have ho : Only [cb] w4 (w4.setCell ⟨cb, 3, none⟩ (.int .i64 (rd + r))).drew := (Only.setCell w4 (by simp) _ _).trans (Only.drewN [cb] _ 1)
    have C5 := Lib.hid (C4.out.set (rd + r))
    have O5 := Lib.hid ((Only.of B4.out [cb]).trans ho)
    have S5 := Lib.hid (S4.out.keptS ho (by simpa using e1.out))
    have Z5 := Lib.hid (Z4.out.keptS ho (by simpa using fun x => e3.out x.symm))
    have R5 := Lib.hid (R4.out.keptO ho (by simpa using fun x => e3.out x.symm))
    clear ho C4 B4 S4 R4 G4 Z4 c3 g3 s1 z1
    generalize (w4.setCell ⟨cb, 3, none⟩ (.int .i64 (rd + r))).drew = w5 at *
    have s0 := S5.out.c0
    have s2 := S5.out.c2
    by_cases hf : f = 0
    case neg =>
      have T : placeS n z tb a acc t rd = .bad (rd + r) ⟨2, f, a, t⟩ := by unfold placeS; rw [HH.out, if_neg hf]
      have TT := Lib.hid T
      clear T
      have dk : (f != 0) = true := by simpa using hf
      clear HH hf0 hf s2
      go_wp2
      exact ⟨rfl, out_bad TT.out rfl O5.out C5.out⟩
    subst hf
    obtain ⟨f0, f1⟩ := hf0.out rfl
    have T : placeS n z tb a acc t rd = .ok (rd + r) ⟨256 * F' + a % 256, ⟨0, r, F', W, X, B⟩⟩ := by unfold placeS; rw [HH.out, if_pos rfl]
    have TT := Lib.hid T
    clear T
    have z2 : IntKind.i64.wrap (256 * F') = 256 * F' := IntWalk.i64_in _ (by omega)
    have z3 : IntKind.i64.wrap (256 * F' + a % 256) = 256 * F' + a % 256 := IntWalk.i64_in _ (by omega)
    have z4 : IntKind.u32.wrap (256 * F' + a % 256) = 256 * F' + a % 256 := IntWalk.u32_in _ (by omega)
    clear HH hf0
    go_wp2_with fail
    obtain ⟨s0, s1, s2, s3, s4, s5⟩ := S5.out
    have q : w5.cell? ⟨hb, 0, none⟩ = some (.int .i64 0) ∧ w5.cell? ⟨hb, 1, none⟩ = some (.int .i64 r) ∧ w5.cell? ⟨hb, 2, none⟩ = some (.int .i64 F') ∧ w5.cell? ⟨hb, 3, none⟩ = some (.bool W) ∧ w5.cell? ⟨hb, 4, none⟩ = some (.bool X) ∧ w5.cell? ⟨hb, 5, none⟩ = some (.bool B) := ⟨s0, s1, s2, s3, s4, s5⟩
    clear s0 s1 s2 s3 s4 s5
    obtain ⟨t0, t1, t2, t3, t4, t5⟩ := Z5.out
    have n1 : ¬ hb = w.heap.size := e2.out
    have n2 : ¬ w.heap.size = hb := fun x => e2.out x.symm
    have g0 := R5.out.2 0
    have g1 := R5.out.2 1
    have g2 := R5.out.2 2
    have g3 := R5.out.2 3
    have g4 := R5.out.2 4
    have g5 := R5.out.2 5
    go_region_held3 (fun w' => w'.cell? ⟨hb, 0, none⟩ = some (.int .i64 0) ∧ w'.cell? ⟨hb, 1, none⟩ = some (.int .i64 r) ∧ w'.cell? ⟨hb, 2, none⟩ = some (.int .i64 F') ∧ w'.cell? ⟨hb, 3, none⟩ = some (.bool W) ∧ w'.cell? ⟨hb, 4, none⟩ = some (.bool X) ∧ w'.cell? ⟨hb, 5, none⟩ = some (.bool B)) (first | (with_reducible exact q) | (with_reducible exact q7) | go_keep) (first
      | (go_at_call 51; refine (offset_any a _ h0 h1).mono ?_; rintro e w6 ⟨rfl, k, rfl⟩))
    have h1 := Only.drewN [w.heap.size] w5 (1 + k)
    have h2 := h1.trans (set6_only (w5.drewN (1 + k)) w.heap.size 0 r F' W X B)
    have O8 := Lib.hid (O5.out.next h2 (by simp))
    have C8 := Lib.hid (C5.out.kept h2 (by simpa using e3.out))
    have Z8 := set6_six (f' := 0) (r' := r) (F' := F') (W' := W) (X' := X) (B' := B) (Six.keptS Z5.out (Only.drewN [] w5 (1 + k)) (by simp))
    clear q t0 t1 t2 t3 t4 t5 n1 n2 g0 g1 g2 g3 g4 g5 h1 h2 C5 O5 Z5 R5 S5 e1 e2 e3 z2 z3 z4 f0 f1
    rename_i hHeld
    clear hHeld
    show Exit.then _ _ Exit.normal _ (set6 (w5.drewN (1 + k)) w.heap.size 0 r F' W X B)
    generalize set6 (w5.drewN (1 + k)) w.heap.size 0 r F' W X B = w8 at *
    obtain ⟨t0, t1, t2, t3, t4, t5⟩ := Z8
    go_wp2
    refine bodyPost_ret (v := .tuple #[.int .u32 (256 * F' + a % 256), .agg #[.int .i64 0, .int .i64 r, .int .i64 F', .bool W, .bool X, .bool B]]) (by simp [results, Try.results49, go_sem, t0, t1, t2, t3, t4, t5]) rfl (out_ok TT.out rfl O8.out C8.out)
end Ns
end Go.Proofs.Ytdjglmfilhodlaa
