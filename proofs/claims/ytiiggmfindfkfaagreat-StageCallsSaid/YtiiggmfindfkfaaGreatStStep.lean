/-
  Plain: what each call that changes a space answers, and leaves. Conditions: none.
-/
import Derived.Test.YtiiggmfindfkfaaGreatStWhole
namespace Go.Proofs.YtiiggmfindfkfaaGreat
namespace St
open Ph En Wk

/-! ### A frame that is taken -/
theorem spot1 {os : List Nat} {t : Nat} (h : Fr.spot 1 os = some t) : os[t]? = some 0 := by
  have := (Fr.isRun_iff.1 (Fr.spot_inv h).1).2 0 (by omega)
  rwa [Nat.one_mul, Nat.add_zero] at this
theorem spot1_no {os : List Nat} (h : Fr.spot 1 os = none) (t : Nat) : os[t]? ≠ some 0 := fun e => by
  have h1 := Fr.spot_none (by omega) h t
  have h2 : Fr.isRun 1 os t = true := by
    refine Fr.isRun_iff.2 ⟨?_, fun i hi => ?_⟩
    · have := (List.getElem?_eq_some_iff.1 e).1; omega
    · have : i = 0 := by omega
      subst this
      rw [Nat.one_mul, Nat.add_zero]; exact e
  rw [h1] at h2
  cases h2
/-- What a block's entries tell, one by one. -/
def blkPg (w e : Bool) (F : Nat) : Pgs := fun j => some (w, e, F + j)
section
variable {n vm : Nat} {x : Pl} {A : Nat → Fst}
theorem From.took (hl : x.log = []) (t : Nat) : From n vm (fil x.z t) x.ps (x.took t) := From.nil (x := x.took t) hl
theorem Pl.took_os (t : Nat) : (x.took t).os = x.os.set t 1 := rfl
theorem bupN_os (t : Nat) (w e : Bool) (F : Nat) : ∀ k, (bupN n vm x t w e F k).os = x.os
  | 0 => rfl
  | k + 1 => by rw [bupN, Pl.chg_os, bupN_os]
theorem bupN_next (t : Nat) (w e : Bool) (F : Nat) : ∀ k, (bupN n vm x t w e F k).next = x.next
  | 0 => rfl
  | k + 1 => by rw [bupN, Pl.chg_next, bupN_next]
theorem bupN_rep (hR : Rep n x A) {t : Nat} (ht : t < n) (hr : t ≠ x.root) (hn : NoTab A t) (h0 : ∀ j, j < 64 → wd n x.z t j = 0) {w e : Bool} {F : Nat} {z0 : Nat → Int} {ps0 : List (Option Tl.SlotT)} (hF : From n vm z0 ps0 x) :
    ∀ k, k ≤ 64 → Rep n (bupN n vm x t w e F k) A ∧ From n vm z0 ps0 (bupN n vm x t w e F k) ∧ ∀ j, j < 64 → wd n (bupN n vm x t w e F k).z t j = if j < k then pgW (some (w, e, F + j)) else 0
  | 0, _ => ⟨hR, hF, fun j hj => by rw [if_neg (by omega)]; exact h0 j hj⟩
  | k + 1, hk => by
    obtain ⟨a, b, c⟩ := bupN_rep hR ht hr hn h0 (w := w) (e := e) (F := F) hF k (by omega)
    have hk' : k < 64 := by omega
    refine ⟨?_, ?_, fun j hj => ?_⟩
    · exact a.fresh ht (by rw [bupN_root]; exact hr) hn hk' (w32_pg _)
    · exact b.chg ht hk' (w32_pg _)
    · rw [bupN, chg_wd ht hk' ht hj (w32_pg _) (by rw [c k hk', if_neg (by omega)]; exact Or.inl rfl)]
      by_cases ej : j = k
      · subst ej; rw [if_pos ⟨rfl, rfl⟩, if_pos (by omega)]
      · rw [if_neg (fun x => ej x.2), c j hj]
        by_cases hlt : j < k
        · rw [if_pos hlt, if_pos (by omega)]
        · rw [if_neg hlt, if_neg (by omega)]
/-- A block having been broken up. -/
theorem bup_rep (hR : Rep n x A) (hl : x.log = []) {i t : Nat} {w e : Bool} {F : Nat} (hi : i < 64) (hA : A i = .blk w e F) (ht : x.os[t]? = some 0) :
    Rep n (bup n vm x i t w e F) (setA A i (.tab t (blkPg w e F))) ∧ From n vm (fil x.z t) x.ps (bup n vm x i t w e F) ∧ (bup n vm x i t w e F).os = x.os.set t 1 ∧ (bup n vm x i t w e F).next = x.next := by
  obtain ⟨r1, htn, hr, hn, h0⟩ := hR.took ht
  have hF : F + 64 ≤ n := by have := hR.ok i hi; rw [hA] at this; exact this.2
  obtain ⟨a, b, c⟩ := bupN_rep (vm := vm) r1 htn hr hn h0 (w := w) (e := e) (F := F) (From.took hl t) 64 (Nat.le_refl _)
  have er : (bupN n vm (x.took t) t w e F 64).root = x.root := bupN_root n vm (x.took t) t w e F 64
  refine ⟨?_, ?_, ?_, ?_⟩
  · have := a.chgRoot (vm := vm) (f := .tab t (blkPg w e F)) hi ⟨htn, ?_, ?_, fun j hj => ⟨?_, ?_⟩⟩ (fun t' pg' ef k hk hne pg2 => ?_)
    · rw [er] at this; exact this
    · rw [bupN_os]
      show (x.os.set t 1)[t]? = some 1
      exact List.getElem?_set_self (by rw [hR.len]; exact htn)
    · rw [er]; exact hr
    · rw [c j hj, if_pos hj]; rfl
    · exact pgOK_some (by omega)
    · injection ef with e1 e2
      subst e1
      exact hn k hk pg2
  · exact b.chg hR.rt hi (w32_W (.tab t (blkPg w e F)))
  · unfold bup; rw [Pl.chg_os, bupN_os]; rfl
  · unfold bup; rw [Pl.chg_next, bupN_next]; rfl
end

/-! ### What calls answer, and leave -/
/-- An error's number, the state, what the first indexes are. -/
structure Res where
  k : Int
  x : Pl
  A : Nat → Fst
/-- A page's first index with a table: a block is broken up. -/
def ready (n vm : Nat) (x : Pl) (A : Nat → Fst) (i : Nat) : Option (Pl × (Nat → Fst)) := match A i with
  | .blk w e F => match Fr.spot 1 x.os with
    | none => none
    | some t => some (bup n vm x i t w e F, setA A i (.tab t (blkPg w e F)))
  | _ => some (x, A)
/-- A first index with a table: one is taken, where there is nothing. -/
def laid (n vm : Nat) (x : Pl) (A : Nat → Fst) (i : Nat) : Option (Pl × (Nat → Fst)) := match A i with
  | .no => match Fr.spot 1 x.os with
    | none => none
    | some t => some ((x.took t).chg n vm (256 * x.root + 4 * i) (Fst.tab t (fun _ => none)).W, setA A i (.tab t (fun _ => none)))
  | _ => some (x, A)
/-- A page of a table is put. -/
def pgP (n vm : Nat) (x : Pl) (A : Nat → Fst) (i j : Nat) (o : Option (Bool × Bool × Nat)) : Pl × (Nat → Fst) := match A i with
  | .tab t pg => (x.chg n vm (256 * t + 4 * j) (pgW o), setA A i (.tab t (setP pg j o)))
  | _ => (x, A)
/-- Does a first index tell nothing? -/
def bare (f : Fst) : Bool := match f with
  | .tab _ pg => (List.range 64).all fun j => (pg j).isNone
  | _ => false
/-- A first index's table is replaced. -/
def repP (n vm : Nat) (x : Pl) (A : Nat → Fst) (i : Nat) (f : Fst) : Pl × (Nat → Fst) := match A i with
  | .tab t _ => ((x.chg n vm (256 * x.root + 4 * i) f.W).gave t, setA A i f)
  | _ => (x, A)
def tidy (n vm : Nat) (x : Pl) (A : Nat → Fst) (i : Nat) : Pl × (Nat → Fst) := if bare (A i) = true then repP n vm x A i .no else (x, A)
def inR (m : Nat) (p : Int) : Bool := decide (0 ≤ p) && decide (p < m)
def mapP (n vm : Nat) (x : Pl) (A : Nat → Fst) (p f : Int) (w e : Bool) : Res :=
  if inR 4096 p = false ∨ inR n f = false then ⟨11, x, A⟩
  else if (told A p.toNat).isSome = true then ⟨13, x, A⟩
  else match laid n vm x A (p.toNat / 64) with
    | none => ⟨15, x, A⟩
    | some (x1, A1) => ⟨0, (pgP n vm x1 A1 (p.toNat / 64) (p.toNat % 64) (some (w, e, f.toNat))).1, (pgP n vm x1 A1 (p.toNat / 64) (p.toNat % 64) (some (w, e, f.toNat))).2⟩
def isNo : Fst → Bool
  | .no => true
  | _ => false
def isB : Fst → Bool
  | .blk _ _ _ => true
  | _ => false
def runM (n vm : Nat) (x : Pl) (A : Nat → Fst) (i f : Int) (w e : Bool) : Res :=
  if inR 64 i = false ∨ inR n f = false ∨ inR n (f + 63) = false ∨ f % 64 ≠ 0 then ⟨11, x, A⟩
  else if isNo (A i.toNat) = false then ⟨13, x, A⟩
  else ⟨0, x.chg n vm (256 * x.root + 4 * i.toNat) (Fst.blk w e f.toNat).W, setA A i.toNat (.blk w e f.toNat)⟩
def unmP (n vm : Nat) (x : Pl) (A : Nat → Fst) (p : Int) : Res :=
  if inR 4096 p = false then ⟨11, x, A⟩
  else if (told A p.toNat).isSome = false then ⟨12, x, A⟩
  else match ready n vm x A (p.toNat / 64) with
    | none => ⟨15, x, A⟩
    | some (x1, A1) =>
      let y := pgP n vm x1 A1 (p.toNat / 64) (p.toNat % 64) none
      ⟨0, (tidy n vm y.1 y.2 (p.toNat / 64)).1, (tidy n vm y.1 y.2 (p.toNat / 64)).2⟩
def proP (n vm : Nat) (x : Pl) (A : Nat → Fst) (p : Int) (w e : Bool) : Res :=
  if inR 4096 p = false then ⟨11, x, A⟩
  else match told A p.toNat with
    | none => ⟨12, x, A⟩
    | some q => match ready n vm x A (p.toNat / 64) with
      | none => ⟨15, x, A⟩
      | some (x1, A1) => ⟨0, (pgP n vm x1 A1 (p.toNat / 64) (p.toNat % 64) (some (w, e, q.F))).1, (pgP n vm x1 A1 (p.toNat / 64) (p.toNat % 64) (some (w, e, q.F))).2⟩
def splP (n vm : Nat) (x : Pl) (A : Nat → Fst) (i : Int) : Res :=
  if inR 64 i = false then ⟨11, x, A⟩
  else if isB (A i.toNat) = false then ⟨12, x, A⟩
  else match ready n vm x A i.toNat with
    | none => ⟨15, x, A⟩
    | some (x1, A1) => ⟨0, x1, A1⟩
def merP (n vm : Nat) (x : Pl) (A : Nat → Fst) (i : Int) : Res :=
  if inR 64 i = false then ⟨11, x, A⟩
  else match A i.toNat with
    | .tab _ pg => match mrg pg with
      | none => ⟨20, x, A⟩
      | some (w, e, F) => ⟨0, (repP n vm x A i.toNat (.blk w e F)).1, (repP n vm x A i.toNat (.blk w e F)).2⟩
    | _ => ⟨12, x, A⟩
/-- A call. -/
structure Cq where
  what : Int
  page : Int
  frame : Int
  w : Bool
  e : Bool
def opP (n vm : Nat) (x : Pl) (A : Nat → Fst) (c : Cq) : Res :=
  if c.what = 0 then mapP n vm x A c.page c.frame c.w c.e
  else if c.what = 1 then runM n vm x A c.page c.frame c.w c.e
  else if c.what = 2 then unmP n vm x A c.page
  else if c.what = 3 then proP n vm x A c.page c.w c.e
  else if c.what = 4 then splP n vm x A c.page
  else merP n vm x A c.page
def Pl.noLog (x : Pl) : Pl := { x with log := [] }
def stepP (n vm : Nat) (x : Pl) (A : Nat → Fst) (c : Cq) : Res := opP n vm x.noLog A c

/-! ### What a call keeps -/
def setO (l : List Nat) (o : Option Nat) (v : Nat) : List Nat := match o with
  | none => l
  | some t => l.set t v
def filO (z : Nat → Int) (o : Option Nat) : Nat → Int := match o with
  | none => z
  | some t => fil z t
/-- What has been done: a frame was taken, perhaps; words were put, and the TLB dropped, as the log says; a frame was given back, perhaps. -/
structure Did (n vm : Nat) (x x' : Pl) (A A' : Nat → Fst) (tk gv : Option Nat) : Prop where
  free : ∀ t, tk = some t → x.os[t]? = some 0
  mine : ∀ g, gv = some g → ∃ i pg, i < 64 ∧ A i = .tab g pg
  frm : From n vm (filO x.z tk) x.ps x'
  os : x'.os = setO (setO x.os tk 1) gv 0
  far : ∀ j, j / 256 ≠ x.root → (∀ i t pg, i < 64 → A i = .tab t pg → j / 256 ≠ t) → tk ≠ some (j / 256) → x'.z j = x.z j
  tabs : ∀ i t pg, i < 64 → A' i = .tab t pg → (tk = some t ∨ ∃ i' pg', i' < 64 ∧ A i' = .tab t pg') ∧ gv ≠ some t
  next : x'.next = x.next
  root : x'.root = x.root
end St
end Go.Proofs.YtiiggmfindfkfaaGreat
