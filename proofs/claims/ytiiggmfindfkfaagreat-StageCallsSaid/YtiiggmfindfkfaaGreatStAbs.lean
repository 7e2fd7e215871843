/-
  Plain: what calls answer hangs on the owners and on what the first indexes are, alone. Conditions: none.
-/
import Derived.Test.YtiiggmfindfkfaaGreatStNew
namespace Go.Proofs.YtiiggmfindfkfaaGreat
namespace St
open Ph En Wk
abbrev Ans := Int × List Nat × (Nat → Fst)
def readyA (os : List Nat) (A : Nat → Fst) (i : Nat) : Option (List Nat × (Nat → Fst)) := match A i with
  | .blk w e F => match Fr.spot 1 os with
    | none => none
    | some t => some (os.set t 1, setA A i (.tab t (blkPg w e F)))
  | _ => some (os, A)
def laidA (os : List Nat) (A : Nat → Fst) (i : Nat) : Option (List Nat × (Nat → Fst)) := match A i with
  | .no => match Fr.spot 1 os with
    | none => none
    | some t => some (os.set t 1, setA A i (.tab t (fun _ => none)))
  | _ => some (os, A)
def pgA (A : Nat → Fst) (i j : Nat) (o : Option (Bool × Bool × Nat)) : Nat → Fst := match A i with
  | .tab t pg => setA A i (.tab t (setP pg j o))
  | _ => A
def repA (os : List Nat) (A : Nat → Fst) (i : Nat) (f : Fst) : List Nat × (Nat → Fst) := match A i with
  | .tab t _ => (os.set t 0, setA A i f)
  | _ => (os, A)
def tidyA (os : List Nat) (A : Nat → Fst) (i : Nat) : List Nat × (Nat → Fst) := if bare (A i) = true then repA os A i .no else (os, A)
def mapA (n : Nat) (os : List Nat) (A : Nat → Fst) (p f : Int) (w e : Bool) : Ans :=
  if inR 4096 p = false ∨ inR n f = false then (11, os, A)
  else if (told A p.toNat).isSome = true then (13, os, A)
  else match laidA os A (p.toNat / 64) with
    | none => (15, os, A)
    | some (os1, A1) => (0, os1, pgA A1 (p.toNat / 64) (p.toNat % 64) (some (w, e, f.toNat)))
def runA (n : Nat) (os : List Nat) (A : Nat → Fst) (i f : Int) (w e : Bool) : Ans :=
  if inR 64 i = false ∨ inR n f = false ∨ inR n (f + 63) = false ∨ f % 64 ≠ 0 then (11, os, A)
  else if isNo (A i.toNat) = false then (13, os, A)
  else (0, os, setA A i.toNat (.blk w e f.toNat))
def unmA (os : List Nat) (A : Nat → Fst) (p : Int) : Ans :=
  if inR 4096 p = false then (11, os, A)
  else if (told A p.toNat).isSome = false then (12, os, A)
  else match readyA os A (p.toNat / 64) with
    | none => (15, os, A)
    | some (os1, A1) => (0, tidyA os1 (pgA A1 (p.toNat / 64) (p.toNat % 64) none) (p.toNat / 64))
def proA (os : List Nat) (A : Nat → Fst) (p : Int) (w e : Bool) : Ans :=
  if inR 4096 p = false then (11, os, A)
  else match told A p.toNat with
    | none => (12, os, A)
    | some q => match readyA os A (p.toNat / 64) with
      | none => (15, os, A)
      | some (os1, A1) => (0, os1, pgA A1 (p.toNat / 64) (p.toNat % 64) (some (w, e, q.F)))
def splA (os : List Nat) (A : Nat → Fst) (i : Int) : Ans :=
  if inR 64 i = false then (11, os, A)
  else if isB (A i.toNat) = false then (12, os, A)
  else match readyA os A i.toNat with
    | none => (15, os, A)
    | some (os1, A1) => (0, os1, A1)
def merA (os : List Nat) (A : Nat → Fst) (i : Int) : Ans :=
  if inR 64 i = false then (11, os, A)
  else match A i.toNat with
    | .tab _ pg => match mrg pg with
      | none => (20, os, A)
      | some (w, e, F) => (0, repA os A i.toNat (.blk w e F))
    | _ => (12, os, A)
def opA (n : Nat) (os : List Nat) (A : Nat → Fst) (c : Cq) : Ans :=
  if c.what = 0 then mapA n os A c.page c.frame c.w c.e
  else if c.what = 1 then runA n os A c.page c.frame c.w c.e
  else if c.what = 2 then unmA os A c.page
  else if c.what = 3 then proA os A c.page c.w c.e
  else if c.what = 4 then splA os A c.page
  else merA os A c.page
/-- What a result comes to. -/
def absR (r : Res) : Ans := (r.k, r.x.os, r.A)
section
variable {n vm : Nat} {x : Pl} {A : Nat → Fst}
theorem bup_os (i t : Nat) (w e : Bool) (F : Nat) : (bup n vm x i t w e F).os = x.os.set t 1 := by unfold bup; rw [Pl.chg_os, bupN_os]; rfl
theorem ready_abs (i : Nat) : (ready n vm x A i).map (fun y => (y.1.os, y.2)) = readyA x.os A i := by
  unfold ready readyA
  cases A i with
  | no => rfl
  | tab t pg => rfl
  | blk w e F =>
    simp only
    cases Fr.spot 1 x.os with
    | none => rfl
    | some t => simp only [Option.map_some, bup_os]
theorem laid_abs (i : Nat) : (laid n vm x A i).map (fun y => (y.1.os, y.2)) = laidA x.os A i := by
  unfold laid laidA
  cases A i with
  | blk w e F => rfl
  | tab t pg => rfl
  | no =>
    simp only
    cases Fr.spot 1 x.os with
    | none => rfl
    | some t => simp only [Option.map_some, Pl.chg_os, Pl.took_os]
theorem pgP_abs (i j : Nat) (o : Option (Bool × Bool × Nat)) : (pgP n vm x A i j o).1.os = x.os ∧ (pgP n vm x A i j o).2 = pgA A i j o := by
  unfold pgP pgA
  cases A i with
  | no => exact ⟨rfl, rfl⟩
  | blk w e F => exact ⟨rfl, rfl⟩
  | tab t pg => exact ⟨Pl.chg_os _ _ _ _ _, rfl⟩
theorem repP_abs (i : Nat) (f : Fst) : ((repP n vm x A i f).1.os, (repP n vm x A i f).2) = repA x.os A i f := by
  unfold repP repA
  cases A i with
  | no => rfl
  | blk w e F => rfl
  | tab t pg => show ((x.chg n vm _ _).os.set t 0, _) = _; rw [Pl.chg_os]
theorem tidy_abs (i : Nat) : ((tidy n vm x A i).1.os, (tidy n vm x A i).2) = tidyA x.os A i := by
  unfold tidy tidyA
  split
  · exact repP_abs i .no
  · rfl
theorem op_abs (c : Cq) : absR (opP n vm x A c) = opA n x.os A c := by
  unfold opP opA
  split
  · unfold mapP mapA
    split
    · rfl
    · split
      · rfl
      · have h := laid_abs (n := n) (vm := vm) (x := x) (A := A) (c.page.toNat / 64)
        revert h
        cases laid n vm x A (c.page.toNat / 64) with
        | none => intro h; rw [← h]; rfl
        | some y =>
          intro h
          rw [← h]
          obtain ⟨h1, h2⟩ := pgP_abs (n := n) (vm := vm) (x := y.1) (A := y.2) (c.page.toNat / 64) (c.page.toNat % 64) (some (c.w, c.e, c.frame.toNat))
          simp only [absR, Option.map_some, h1, h2]
  split
  · unfold runM runA
    split
    · rfl
    · split
      · rfl
      · simp only [absR, Pl.chg_os]
  split
  · unfold unmP unmA
    split
    · rfl
    · split
      · rfl
      · have h := ready_abs (n := n) (vm := vm) (x := x) (A := A) (c.page.toNat / 64)
        revert h
        cases ready n vm x A (c.page.toNat / 64) with
        | none => intro h; rw [← h]; rfl
        | some y =>
          intro h
          rw [← h]
          obtain ⟨h1, h2⟩ := pgP_abs (n := n) (vm := vm) (x := y.1) (A := y.2) (c.page.toNat / 64) (c.page.toNat % 64) none
          have h3 := tidy_abs (n := n) (vm := vm) (x := (pgP n vm y.1 y.2 (c.page.toNat / 64) (c.page.toNat % 64) none).1) (A := (pgP n vm y.1 y.2 (c.page.toNat / 64) (c.page.toNat % 64) none).2) (c.page.toNat / 64)
          rw [h1, h2] at h3
          simp only [absR, Option.map_some, ← h3, h2]
  split
  · unfold proP proA
    split
    · rfl
    · cases told A c.page.toNat with
      | none => rfl
      | some q =>
        simp only
        have h := ready_abs (n := n) (vm := vm) (x := x) (A := A) (c.page.toNat / 64)
        revert h
        cases ready n vm x A (c.page.toNat / 64) with
        | none => intro h; rw [← h]; rfl
        | some y =>
          intro h
          rw [← h]
          obtain ⟨h1, h2⟩ := pgP_abs (n := n) (vm := vm) (x := y.1) (A := y.2) (c.page.toNat / 64) (c.page.toNat % 64) (some (c.w, c.e, q.F))
          simp only [absR, Option.map_some, h1, h2]
  split
  · unfold splP splA
    split
    · rfl
    · split
      · rfl
      · have h := ready_abs (n := n) (vm := vm) (x := x) (A := A) c.page.toNat
        revert h
        cases ready n vm x A c.page.toNat with
        | none => intro h; rw [← h]; rfl
        | some y => intro h; rw [← h]; rfl
  · unfold merP merA
    split
    · rfl
    · cases hA : A c.page.toNat with
      | no => rfl
      | blk w e F => rfl
      | tab t pg =>
        simp only
        cases mrg pg with
        | none => rfl
        | some y =>
          simp only [absR]
          rw [← repP_abs (n := n) (vm := vm) (x := x)]
/-- Calls, one behind the other. -/
def stepR (n vm : Nat) (x : Pl) (A : Nat → Fst) (c : Cq) : Res := gon x (opP n vm x.noLog A c)
def runsP (n vm : Nat) (cs : Nat → Cq) : Nat → Pl × (Nat → Fst) → Pl × (Nat → Fst)
  | 0, s => s
  | k + 1, s => let r := stepR n vm (runsP n vm cs k s).1 (runsP n vm cs k s).2 (cs k); (r.x, r.A)
theorem stepR_live (h : x.gone = false) (c : Cq) : stepR n vm x A c = opP n vm x.noLog A c := by unfold stepR gon; rw [h]; rfl
theorem stepR_good (hR : Rep n x A) (c : Cq) : Good n vm x.noLog A (stepR n vm x A c) := by
  rw [stepR_live hR.live]
  exact op_good (hR.log []) rfl c
theorem runs_rep (cs : Nat → Cq) (hR : Rep n x A) : ∀ k, Rep n (runsP n vm cs k (x, A)).1 (runsP n vm cs k (x, A)).2
  | 0 => hR
  | k + 1 => (stepR_good (vm := vm) (runs_rep cs hR k) (cs k)).2.1
end
/-- The owners, where a world begins: so many are nobody's, the others another one's. -/
def own0 (n k : Nat) : List Nat := List.replicate k 0 ++ List.replicate (n - k) 2
theorem own0_len {n k : Nat} (h : k ≤ n) : (own0 n k).length = n := by unfold own0; simp; omega
theorem own0_get {n k i : Nat} (h : k ≤ n) (hi : i < n) : (own0 n k)[i]? = some (if i < k then 0 else 2) := by
  unfold own0
  by_cases e : i < k
  · rw [List.getElem?_append_left (by simpa using e), List.getElem?_replicate, if_pos e, if_pos e]
  · rw [List.getElem?_append_right (by simp; omega), List.length_replicate, List.getElem?_replicate, if_pos (by omega), if_neg e]
theorem own0_next {n k : Nat} (h : k < n) : (own0 n k).set k 0 = own0 n (k + 1) := by
  apply List.ext_getElem?
  intro i
  by_cases hi : i < n
  · by_cases e : k = i
    · subst e
      rw [List.getElem?_set_self (by rw [own0_len (by omega)]; exact hi), own0_get (by omega) hi, if_pos (by omega)]
    · rw [List.getElem?_set_ne e, own0_get (by omega) hi, own0_get (by omega) hi]
      by_cases h1 : i < k
      · rw [if_pos h1, if_pos (by omega)]
      · rw [if_neg h1, if_neg (by omega)]
  · rw [List.getElem?_eq_none (by rw [List.length_set, own0_len (by omega)]; omega), List.getElem?_eq_none (by rw [own0_len (by omega)]; omega)]
theorem own0_spot {n k : Nat} (h1 : 1 ≤ k) (h : k ≤ n) : Fr.spot 1 (own0 n k) = some 0 := by
  refine Fr.spot_at (by omega) (Fr.isRun_iff.2 ⟨by rw [own0_len h]; omega, fun i hi => ?_⟩) (fun j hj => by omega)
  have : i = 0 := by omega
  subst this
  rw [own0_get h (by omega), if_pos (by omega)]
/-- A space, where a world begins. -/
def beg (n away : Nat) (room : Nat) : Pl := ⟨fil (fun _ => 0) 0, (own0 n (n - away)).set 0 1, 0, List.replicate room none, 0, false, []⟩
theorem beg_rep {n away room : Nat} (h1 : n ≤ 1024) (h2 : away < n) : Rep n (beg n away room) (fun _ => .no) := by
  have hb : By n (fun _ => 0) := fun _ _ => (by show (0 : Int) ≤ 0 ∧ (0 : Int) < 256; decide)
  refine ⟨hb.fil 0, h1, by show ((own0 n (n - away)).set 0 1).length = n; rw [List.length_set, own0_len (by omega)], (by show 0 < n; omega), List.getElem?_set_self (by rw [own0_len (by omega)]; omega), rfl, fun i hi => ?_, fun i _ => trivial, fun i j t pg pg' _ _ h _ => by cases h⟩
  show wd n (fil (fun _ => 0) 0) 0 i = 0
  rw [wd_fil hi, if_pos rfl]
end St
end Go.Proofs.YtiiggmfindfkfaaGreat
