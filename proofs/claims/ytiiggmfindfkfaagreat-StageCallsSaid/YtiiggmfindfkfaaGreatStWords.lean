/-
  Plain: the words of tables, what deeds do to them, and a space's own state. Conditions: none.
-/
import Derived.Test.YtiiggmfindfkfaaGreatWkKit
import Derived.Test.YtiiggmfindfkfaaGreatEnKit
import Derived.Test.YtiiggmfindfkfaaGreatFrKit
import Derived.Test.YtiiggmfindfkfaaGreatTlKit
namespace Go.Proofs.YtiiggmfindfkfaaGreat
open Go.RowKit
namespace St
open Ph En Wk

/-- A word. -/
def W32 (v : Int) : Prop := 0 ≤ v ∧ v < 4294967296
theorem w32_0 : W32 0 := ⟨by decide, by decide⟩
theorem w32_lw (V W X B : Bool) (F : Int) : W32 (lw V W X B F) := by have := lw_lt V W X B F; exact ⟨this.1, by omega⟩
/-- Bytes, as far as n frames go. -/
def By (n : Nat) (z : Nat → Int) : Prop := ∀ j, j < 256 * n → B8 (z j)
theorem pw_at {n a : Nat} (z : Nat → Int) (v : Int) (j : Nat) : pw n z a v j = if hwA n a = true ∧ a ≤ j ∧ j < a + 4 then byte4 v (j - a) else z j := by
  unfold pw
  cases h : hwA n a
  · rw [if_neg (by simp), if_neg (by simp)]
  · rw [if_pos rfl]
    unfold putw
    by_cases e : a ≤ j ∧ j < a + 4
    · rw [if_pos e, if_pos ⟨rfl, e⟩]
    · rw [if_neg e, if_neg (fun x => e x.2)]
theorem By.pw {n : Nat} {z : Nat → Int} (h : By n z) (a : Nat) {v : Int} (hv : W32 v) : By n (pw n z a v) := by
  intro j hj
  rw [pw_at]
  split
  · exact byte4_8 _ _ hv.1 hv.2
  · exact h j hj
theorem word4_byte {v : Int} (h : W32 v) : word4 (byte4 v 0) (byte4 v 1) (byte4 v 2) (byte4 v 3) = v := by
  obtain ⟨h0, h1⟩ := h
  show v % 256 + v / 256 % 256 * 256 + v / 65536 % 256 * 65536 + v / 16777216 * 16777216 = v
  omega
/-- A word having been put, what stands there and elsewhere. -/
theorem rdw_pw {n a b : Nat} {z : Nat → Int} {v : Int} (ha : hwA n a = true) (hb : hwA n b = true) (hv : W32 v) : rdw n (pw n z a v) b = if b = a then v else rdw n z b := by
  have a4 : a % 4 = 0 := by unfold hwA at ha; simp at ha; exact ha.1
  have b4 : b % 4 = 0 := by unfold hwA at hb; simp at hb; exact hb.1
  unfold rdw pw
  rw [if_pos hb, if_pos hb, if_pos ha]
  unfold putw
  by_cases e : b = a
  · subst e
    rw [if_pos rfl, if_pos ⟨Nat.le_refl _, by omega⟩, if_pos ⟨by omega, by omega⟩, if_pos ⟨by omega, by omega⟩, if_pos ⟨by omega, by omega⟩, Nat.sub_self, show b + 1 - b = 1 by omega, show b + 2 - b = 2 by omega, show b + 3 - b = 3 by omega]
    exact word4_byte hv
  · rw [if_neg e, if_neg (by omega), if_neg (by omega), if_neg (by omega), if_neg (by omega)]
/-- Frames whose bytes stay, a word having been put into another one. -/
theorem pw_off {n t i j : Nat} (z : Nat → Int) (v : Int) (hi : i < 64) (hj : j / 256 ≠ t) : pw n z (256 * t + 4 * i) v j = z j := by
  rw [pw_at, if_neg (by omega)]
/-- The word at an index of a table. -/
def wd (n : Nat) (z : Nat → Int) (t i : Nat) : Int := rdw n z (256 * t + 4 * i)
theorem wd_lt {n : Nat} {z : Nat → Int} (h : By n z) (t i : Nat) : W32 (wd n z t i) := rdw_lt h _
theorem wAt_wd (n : Nat) (z : Nat → Int) (t i : Nat) : wAt n z t i = wd n z t i := by
  unfold wAt wd
  congr 1
theorem wd_pw {n t i t' i' : Nat} {z : Nat → Int} {v : Int} (ht : t < n) (hi : i < 64) (ht' : t' < n) (hi' : i' < 64) (hv : W32 v) : wd n (pw n z (256 * t + 4 * i) v) t' i' = if t' = t ∧ i' = i then v else wd n z t' i' := by
  unfold wd
  rw [rdw_pw (hwA_at ht hi) (hwA_at ht' hi') hv]
  by_cases e : t' = t ∧ i' = i
  · rw [if_pos e, if_pos (by omega)]
  · rw [if_neg e, if_neg (by omega)]
/-- A frame is filled with noughts. -/
def fil (z : Nat → Int) (k : Nat) : Nat → Int := fillz z k 0 (fun _ => 0)
theorem By.fil {n : Nat} {z : Nat → Int} (h : By n z) (k : Nat) : By n (fil z k) := by
  intro j hj
  unfold St.fil fillz fz
  split
  · rw [if_neg (by omega)]; exact ⟨by decide, by decide⟩
  · exact h j hj
theorem fil_off {k j : Nat} (z : Nat → Int) (hj : j / 256 ≠ k) : fil z k j = z j := by
  unfold fil fillz
  rw [if_neg (by omega)]
theorem fil_in {k j : Nat} (z : Nat → Int) (hj : j / 256 = k) : fil z k j = 0 := by
  unfold fil fillz fz
  rw [if_pos (by omega), if_neg (by omega)]
theorem wd_fil {n k t i : Nat} {z : Nat → Int} (hi : i < 64) : wd n (fil z k) t i = if t = k then 0 else wd n z t i := by
  unfold wd rdw
  split
  · by_cases e : t = k
    · subst e
      rw [if_pos rfl, fil_in _ (by omega), fil_in _ (by omega), fil_in _ (by omega), fil_in _ (by omega)]
      rfl
    · rw [if_neg e, fil_off _ (by omega), fil_off _ (by omega), fil_off _ (by omega), fil_off _ (by omega)]
  · split <;> rfl
theorem wd_congr {n : Nat} {z z' : Nat → Int} {t i : Nat} (hi : i < 64) (h : ∀ j, j / 256 = t → z' j = z j) : wd n z' t i = wd n z t i := by
  unfold wd rdw
  rw [h _ (by omega), h _ (by omega), h _ (by omega), h _ (by omega)]

/-! ### Deeds -/
inductive Deed where
  | put (a : Nat) (v : Int)
  | drop
def Deed.enc : Deed → List Value
  | .put a v => [.int .i64 1, .int .u32 a, .int .u32 v]
  | .drop => [.int .i64 2, .int .u32 0, .int .u32 0]
def Deed.isDrop : Deed → Bool
  | .put _ _ => false
  | .drop => true
def zdo (n : Nat) (z : Nat → Int) : Deed → Nat → Int
  | .put a v => pw n z a v
  | .drop => z
/-- The bytes, deeds having been done. -/
def zrun (n : Nat) (z : Nat → Int) (l : List Deed) : Nat → Int := l.foldl (zdo n) z
theorem zrun_append (n : Nat) (z : Nat → Int) (l l' : List Deed) : zrun n z (l ++ l') = zrun n (zrun n z l) l' := by unfold zrun; rw [List.foldl_append]
/-- Changes of entries, one behind the other. -/
inductive Chs (n : Nat) : (Nat → Int) → List Deed → Prop
  | nil (z : Nat → Int) : Chs n z []
  | put {z : Nat → Int} {a : Nat} {v : Int} {l : List Deed} (ha : hwA n a = true) (hv : W32 v) (hd : dV (rdw n z a) = false) (h : Chs n (pw n z a v) l) : Chs n z (.put a v :: l)
  | brk {z : Nat → Int} {a : Nat} {l : List Deed} (ha : hwA n a = true) (hd : dV (rdw n z a) = true) (h : Chs n (pw n z a 0) l) : Chs n z (.put a 0 :: .drop :: l)
theorem Chs.append {n : Nat} {z : Nat → Int} {l l' : List Deed} (h : Chs n z l) (h' : Chs n (zrun n z l) l') : Chs n z (l ++ l') := by
  induction h with
  | nil z => exact h'
  | put ha hv hd _ ih => exact .put ha hv hd (ih h')
  | brk ha hd _ ih => exact .brk ha hd (ih h')

/-! ### A space's own state -/
structure Pl where
  z : Nat → Int
  os : List Nat
  next : Nat
  ps : List (Option Tl.SlotT)
  root : Nat
  gone : Bool
  log : List Deed
/-- All of a vmid are gone. -/
def offV (vm : Nat) : Option Tl.SlotT → Option Tl.SlotT := Tl.off fun s => decide (s.1 = (vm : Int))
theorem offV_twice (vm : Nat) (o : Option Tl.SlotT) : offV vm (offV vm o) = offV vm o := by
  unfold offV Tl.off
  cases o with
  | none => rfl
  | some s =>
    by_cases h : s.1 = (vm : Int)
    · simp [h]
    · simp [h]
def Pl.put (n : Nat) (x : Pl) (a : Nat) (v : Int) : Pl := { x with z := pw n x.z a v, log := x.log ++ [.put a v] }
def Pl.drop (vm : Nat) (x : Pl) : Pl := { x with ps := x.ps.map (offV vm), log := x.log ++ [.drop] }
/-- An entry's word is changed. -/
def Pl.chg (n vm : Nat) (x : Pl) (a : Nat) (v : Int) : Pl :=
  if rdw n x.z a = v then x
  else if dV (rdw n x.z a) = true then (if v = 0 then (x.put n a 0).drop vm else ((x.put n a 0).drop vm).put n a v)
  else if v = 0 then x else x.put n a v
section
variable (n vm : Nat) (x : Pl) (a : Nat) (v : Int)
theorem Pl.chg_os : (x.chg n vm a v).os = x.os := by unfold Pl.chg Pl.put Pl.drop; repeat' (first | rfl | split)
theorem Pl.chg_next : (x.chg n vm a v).next = x.next := by unfold Pl.chg Pl.put Pl.drop; repeat' (first | rfl | split)
theorem Pl.chg_root : (x.chg n vm a v).root = x.root := by unfold Pl.chg Pl.put Pl.drop; repeat' (first | rfl | split)
theorem Pl.chg_gone : (x.chg n vm a v).gone = x.gone := by unfold Pl.chg Pl.put Pl.drop; repeat' (first | rfl | split)
theorem Pl.chg_len : (x.chg n vm a v).log.length ≤ x.log.length + 3 := by
  unfold Pl.chg Pl.put Pl.drop
  split
  · omega
  · split
    · split <;> simp
    · split <;> simp
end
/-- Is a word nought, or a valid entry? -/
def Wok (v : Int) : Prop := v = 0 ∨ dV v = true
theorem dV_0 : dV 0 = false := by decide
theorem chg_by {n vm : Nat} {x : Pl} (h : By n x.z) (a : Nat) {v : Int} (hv : W32 v) : By n (x.chg n vm a v).z := by
  unfold Pl.chg Pl.put Pl.drop
  split
  · exact h
  · split
    · split
      · exact h.pw _ w32_0
      · exact (h.pw _ w32_0).pw _ hv
    · split
      · exact h
      · exact h.pw _ hv
theorem chg_off {n vm t i j : Nat} {x : Pl} (v : Int) (hi : i < 64) (hj : j / 256 ≠ t) : (x.chg n vm (256 * t + 4 * i) v).z j = x.z j := by
  unfold Pl.chg Pl.put Pl.drop
  split
  · rfl
  · split
    · split
      · exact pw_off _ _ hi hj
      · exact (pw_off _ _ hi hj).trans (pw_off _ _ hi hj)
    · split
      · rfl
      · exact pw_off _ _ hi hj
/-- What stands in the tables, an entry's word having been changed. -/
theorem chg_wd {n vm t i t' i' : Nat} {x : Pl} {v : Int} (ht : t < n) (hi : i < 64) (ht' : t' < n) (hi' : i' < 64) (hv : W32 v) (hw : Wok (wd n x.z t i)) :
    wd n (x.chg n vm (256 * t + 4 * i) v).z t' i' = if t' = t ∧ i' = i then v else wd n x.z t' i' := by
  have e0 : rdw n x.z (256 * t + 4 * i) = wd n x.z t i := rfl
  unfold Pl.chg Pl.put Pl.drop
  rw [e0]
  by_cases h1 : wd n x.z t i = v
  · rw [if_pos h1]
    by_cases e : t' = t ∧ i' = i
    · rw [if_pos e, e.1, e.2, h1]
    · rw [if_neg e]
  · rw [if_neg h1]
    by_cases h2 : dV (wd n x.z t i) = true
    · rw [if_pos h2]
      by_cases h3 : v = 0
      · rw [if_pos h3, h3]
        exact wd_pw ht hi ht' hi' w32_0
      · rw [if_neg h3]
        show wd n (pw n (pw n x.z _ 0) _ v) t' i' = _
        rw [wd_pw ht hi ht' hi' hv, wd_pw ht hi ht' hi' w32_0]
        by_cases e : t' = t ∧ i' = i
        · rw [if_pos e, if_pos e]
        · rw [if_neg e, if_neg e, if_neg e]
    · rw [if_neg h2]
      rcases hw with h | h
      · by_cases h3 : v = 0
        · exact absurd (h.trans h3.symm) h1
        · rw [if_neg h3]
          exact wd_pw ht hi ht' hi' hv
      · exact absurd h h2
/-- A state has come out of bytes and places by its log's deeds. -/
structure From (n vm : Nat) (z0 : Nat → Int) (ps0 : List (Option Tl.SlotT)) (x : Pl) : Prop where
  z : x.z = zrun n z0 x.log
  ch : Chs n z0 x.log
  ps : x.ps = if x.log.any Deed.isDrop = true then ps0.map (offV vm) else ps0
theorem From.nil {n vm : Nat} {x : Pl} (h : x.log = []) : From n vm x.z x.ps x := ⟨by rw [h]; rfl, by rw [h]; exact .nil _, by rw [h]; rfl⟩
theorem ps_drop {vm : Nat} {ps ps0 : List (Option Tl.SlotT)} {b : Bool} (h : ps = if b = true then ps0.map (offV vm) else ps0) : ps.map (offV vm) = ps0.map (offV vm) := by
  rw [h]
  split
  · rw [List.map_map]
    exact List.map_congr_left (fun o _ => offV_twice vm o)
  · rfl
theorem From.put {n vm a : Nat} {v : Int} {z0 : Nat → Int} {ps0 : List (Option Tl.SlotT)} {x : Pl} (h : From n vm z0 ps0 x) (ha : hwA n a = true) (hv : W32 v) (hd : dV (rdw n x.z a) = false) : From n vm z0 ps0 (x.put n a v) := by
  refine ⟨?_, h.ch.append (by rw [← h.z]; exact .put ha hv hd (.nil _)), ?_⟩
  · show pw n x.z a v = zrun n z0 (x.log ++ [.put a v])
    rw [zrun_append, ← h.z]; rfl
  · show x.ps = if (x.log ++ [Deed.put a v]).any Deed.isDrop = true then _ else _
    rw [List.any_append, show [Deed.put a v].any Deed.isDrop = false from rfl, Bool.or_false]
    exact h.ps
theorem From.brk {n vm a : Nat} {z0 : Nat → Int} {ps0 : List (Option Tl.SlotT)} {x : Pl} (h : From n vm z0 ps0 x) (ha : hwA n a = true) (hd : dV (rdw n x.z a) = true) : From n vm z0 ps0 ((x.put n a 0).drop vm) := by
  have e : ((x.put n a 0).drop vm).log = x.log ++ [.put a 0, .drop] := by show (x.log ++ [Deed.put a 0]) ++ [Deed.drop] = _; simp
  refine ⟨?_, ?_, ?_⟩
  · rw [e, zrun_append, ← h.z]; rfl
  · rw [e]
    exact h.ch.append (by rw [← h.z]; exact .brk ha hd (.nil _))
  · rw [e, List.any_append, show [Deed.put a 0, Deed.drop].any Deed.isDrop = true from rfl, Bool.or_true, if_pos rfl]
    exact ps_drop h.ps
theorem From.chg {n vm t i : Nat} {v : Int} {z0 : Nat → Int} {ps0 : List (Option Tl.SlotT)} {x : Pl} (h : From n vm z0 ps0 x) (ht : t < n) (hi : i < 64) (hv : W32 v) : From n vm z0 ps0 (x.chg n vm (256 * t + 4 * i) v) := by
  have ha := hwA_at ht hi
  unfold Pl.chg
  by_cases h1 : rdw n x.z (256 * t + 4 * i) = v
  · rw [if_pos h1]; exact h
  · rw [if_neg h1]
    by_cases h2 : dV (rdw n x.z (256 * t + 4 * i)) = true
    · rw [if_pos h2]
      by_cases h3 : v = 0
      · rw [if_pos h3]; exact h.brk ha h2
      · rw [if_neg h3]
        refine (h.brk ha h2).put ha hv ?_
        show dV (rdw n (pw n x.z _ 0) _) = false
        rw [rdw_pw ha ha w32_0, if_pos rfl]
        exact dV_0
    · rw [if_neg h2]
      by_cases h3 : v = 0
      · rw [if_pos h3]; exact h
      · rw [if_neg h3]; exact h.put ha hv (by simpa using h2)
end St
end Go.Proofs.YtiiggmfindfkfaaGreat
