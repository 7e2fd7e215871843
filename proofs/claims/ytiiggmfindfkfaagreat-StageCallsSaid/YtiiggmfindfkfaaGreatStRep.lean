/-
  Plain: what a space tells, first index by first index, and how its tables' words tell it; what a change of an entry, a frame taken, a frame given back do to that. Conditions: none.
-/
import Derived.Test.YtiiggmfindfkfaaGreatStWords
namespace Go.Proofs.YtiiggmfindfkfaaGreat
namespace St
open Ph En Wk

/-- What a table's entries tell: may be written, executed, the frame. -/
abbrev Pgs := Nat → Option (Bool × Bool × Nat)
/-- What a first index is. -/
inductive Fst where
  | no
  | blk (w e : Bool) (F : Nat)
  | tab (t : Nat) (pg : Pgs)
def pgW : Option (Bool × Bool × Nat) → Int
  | none => 0
  | some (w, e, F) => lw true w e false F
def Fst.W : Fst → Int
  | .no => 0
  | .blk w e F => lw true w e true F
  | .tab t _ => lw true false false false t
def PgOK (n : Nat) (o : Option (Bool × Bool × Nat)) : Prop := ∀ w e F, o = some (w, e, F) → F < n
theorem pgOK_none (n : Nat) : PgOK n none := fun _ _ _ h => by cases h
theorem pgOK_some {n : Nat} {w e : Bool} {F : Nat} (h : F < n) : PgOK n (some (w, e, F)) := fun _ _ _ he => by injection he with he; injection he with _ he; injection he with _ he; omega
theorem w32_pg (o : Option (Bool × Bool × Nat)) : W32 (pgW o) := by
  unfold pgW
  split
  · exact w32_0
  · exact w32_lw _ _ _ _ _
theorem w32_W (f : Fst) : W32 f.W := by
  unfold Fst.W
  split
  · exact w32_0
  · exact w32_lw _ _ _ _ _
  · exact w32_lw _ _ _ _ _
theorem wok_lw (W X B : Bool) (F : Int) : Wok (lw true W X B F) := Or.inr (lw_dec true W X B F).1
theorem wok_pg (o : Option (Bool × Bool × Nat)) : Wok (pgW o) := by
  unfold pgW
  split
  · exact Or.inl rfl
  · exact wok_lw _ _ _ _
theorem wok_W (f : Fst) : Wok f.W := by
  unfold Fst.W
  split
  · exact Or.inl rfl
  · exact wok_lw _ _ _ _
  · exact wok_lw _ _ _ _
theorem entOf_lw (W X B : Bool) {F : Int} (h0 : 0 ≤ F) (h1 : F < 65536) : entOf (lw true W X B F) = ⟨true, W, X, B, F⟩ := by
  obtain ⟨a, b, c, d, e⟩ := lw_dec true W X B F
  unfold entOf
  rw [a, b, c, d, e, if_pos rfl, Int.emod_eq_of_lt h0 h1]
  simp
theorem entOf_0 : entOf 0 = e0 := by
  unfold entOf e0 dV dW dX dB dF
  simp
theorem encN_lw (W X B : Bool) {F : Int} (h0 : 0 ≤ F) (h1 : F < 65536) : encN true W X B F = lw true W X B F := by
  unfold encN gd
  rw [if_pos (by simp; omega)]
theorem encN_0 : encN false false false false 0 = 0 := by decide

def setA (A : Nat → Fst) (i : Nat) (f : Fst) (k : Nat) : Fst := if k = i then f else A k
def setP (pg : Pgs) (j : Nat) (o : Option (Bool × Bool × Nat)) (k : Nat) : Option (Bool × Bool × Nat) := if k = j then o else pg k
theorem setA_at (A : Nat → Fst) (i : Nat) (f : Fst) : setA A i f i = f := by unfold setA; rw [if_pos rfl]
theorem setA_ne (A : Nat → Fst) {i k : Nat} (f : Fst) (h : k ≠ i) : setA A i f k = A k := by unfold setA; rw [if_neg h]
theorem setP_at (pg : Pgs) (j : Nat) (o : Option (Bool × Bool × Nat)) : setP pg j o j = o := by unfold setP; rw [if_pos rfl]
theorem setP_ne (pg : Pgs) {j k : Nat} (o : Option (Bool × Bool × Nat)) (h : k ≠ j) : setP pg j o k = pg k := by unfold setP; rw [if_neg h]

/-- A first index is told by words so. -/
def FstOK (n : Nat) (x : Pl) (f : Fst) : Prop := match f with
  | .no => True
  | .blk _ _ F => F % 64 = 0 ∧ F + 64 ≤ n
  | .tab t pg => t < n ∧ x.os[t]? = some 1 ∧ t ≠ x.root ∧ ∀ j, j < 64 → wd n x.z t j = pgW (pg j) ∧ PgOK n (pg j)
/-- A frame is no table's. -/
def NoTab (A : Nat → Fst) (t : Nat) : Prop := ∀ i, i < 64 → ∀ pg, A i ≠ .tab t pg
structure Rep (n : Nat) (x : Pl) (A : Nat → Fst) : Prop where
  by8 : By n x.z
  few : n ≤ 1024
  len : x.os.length = n
  rt : x.root < n
  own : x.os[x.root]? = some 1
  live : x.gone = false
  wrd : ∀ i, i < 64 → wd n x.z x.root i = (A i).W
  ok : ∀ i, i < 64 → FstOK n x (A i)
  one : ∀ i j t pg pg', i < 64 → j < 64 → A i = .tab t pg → A j = .tab t pg' → i = j
section
variable {n vm : Nat} {x x' : Pl} {A : Nat → Fst}
/-- The words that tell it are as they were. -/
theorem Rep.same (h : Rep n x A) (hb : By n x'.z) (ho : x'.os.length = n) (hr : x'.root = x.root) (hg : x'.gone = x.gone) (h1 : ∀ t, (t = x.root ∨ ∃ i pg, i < 64 ∧ A i = .tab t pg) → x'.os[t]? = some 1 ∧ ∀ j, j < 64 → wd n x'.z t j = wd n x.z t j) : Rep n x' A := by
  refine ⟨hb, h.few, ho, by rw [hr]; exact h.rt, by rw [hr]; exact (h1 _ (Or.inl rfl)).1, by rw [hg]; exact h.live, fun i hi => ?_, fun i hi => ?_, h.one⟩
  · rw [hr, (h1 _ (Or.inl rfl)).2 i hi]; exact h.wrd i hi
  · have := h.ok i hi
    cases e : A i with
    | no => trivial
    | blk w e F => rw [e] at this; exact this
    | tab t pg =>
      rw [e] at this
      obtain ⟨a, _, c, d⟩ := this
      have k := h1 t (Or.inr ⟨i, pg, hi, e⟩)
      exact ⟨a, k.1, by rw [hr]; exact c, fun j hj => ⟨(k.2 j hj).trans (d j hj).1, (d j hj).2⟩⟩
theorem Rep.tabAt (h : Rep n x A) {i t : Nat} {pg : Pgs} (hi : i < 64) (e : A i = .tab t pg) : t < n ∧ x.os[t]? = some 1 ∧ t ≠ x.root ∧ ∀ j, j < 64 → wd n x.z t j = pgW (pg j) ∧ PgOK n (pg j) := by
  have := h.ok i hi
  rw [e] at this
  exact this
/-- No log, and what the log says, tell nothing of it. -/
theorem Rep.log (h : Rep n x A) (l : List Deed) : Rep n { x with log := l } A := ⟨h.by8, h.few, h.len, h.rt, h.own, h.live, h.wrd, h.ok, h.one⟩
/-- A frame of no table is changed. -/
theorem Rep.fresh (h : Rep n x A) {t j : Nat} {v : Int} (ht : t < n) (hr : t ≠ x.root) (hn : NoTab A t) (hj : j < 64) (hv : W32 v) : Rep n (x.chg n vm (256 * t + 4 * j) v) A := by
  refine h.same (chg_by h.by8 _ hv) (by rw [Pl.chg_os]; exact h.len) (Pl.chg_root _ _ _ _ _) (Pl.chg_gone _ _ _ _ _) ?_
  intro t' h'
  have ne : t' ≠ t := by
    rintro rfl
    rcases h' with e | ⟨i, pg, hi, e⟩
    · exact hr e
    · exact hn i hi pg e
  refine ⟨?_, fun j' hj' => wd_congr hj' (fun k hk => chg_off v hj (by omega))⟩
  rw [Pl.chg_os]
  rcases h' with rfl | ⟨i, pg, hi, e⟩
  · exact h.own
  · exact (h.tabAt hi e).2.1
/-- The state, a frame having been taken. -/
def Pl.took (x : Pl) (t : Nat) : Pl := { x with os := x.os.set t 1, z := fil x.z t }
theorem Rep.took (h : Rep n x A) {t : Nat} (ht : x.os[t]? = some 0) : Rep n (x.took t) A ∧ t < n ∧ t ≠ x.root ∧ NoTab A t ∧ ∀ j, j < 64 → wd n (x.took t).z t j = 0 := by
  have hl : t < n := by rw [← h.len]; exact (List.getElem?_eq_some_iff.1 ht).1
  have hr : t ≠ x.root := by
    rintro rfl
    rw [h.own] at ht
    cases ht
  have hn : NoTab A t := fun i hi pg e => by
    have := (h.tabAt hi e).2.1
    rw [this] at ht
    cases ht
  refine ⟨h.same (h.by8.fil t) (by show (x.os.set t 1).length = n; rw [List.length_set]; exact h.len) rfl rfl ?_, hl, hr, hn, fun j hj => by show wd n (fil x.z t) t j = 0; rw [wd_fil hj, if_pos rfl]⟩
  intro t' h'
  have ne : t' ≠ t := by
    rintro rfl
    rcases h' with e | ⟨i, pg, hi, e⟩
    · exact hr e
    · exact hn i hi pg e
  refine ⟨?_, fun j' hj' => by show wd n (fil x.z t) t' j' = _; rw [wd_fil hj', if_neg ne]⟩
  show (x.os.set t 1)[t']? = some 1
  rw [List.getElem?_set_ne (Ne.symm ne)]
  rcases h' with rfl | ⟨i, pg, hi, e⟩
  · exact h.own
  · exact (h.tabAt hi e).2.1
/-- The state, a frame having been given back. -/
def Pl.gave (x : Pl) (t : Nat) : Pl := { x with os := x.os.set t 0 }
theorem Rep.gave (h : Rep n x A) {t : Nat} (hr : t ≠ x.root) (hn : NoTab A t) : Rep n (x.gave t) A := by
  refine h.same h.by8 (by show (x.os.set t 0).length = n; rw [List.length_set]; exact h.len) rfl rfl ?_
  intro t' h'
  have ne : t' ≠ t := by
    rintro rfl
    rcases h' with e | ⟨i, pg, hi, e⟩
    · exact hr e
    · exact hn i hi pg e
  refine ⟨?_, fun j' hj' => rfl⟩
  show (x.os.set t 0)[t']? = some 1
  rw [List.getElem?_set_ne (Ne.symm ne)]
  rcases h' with rfl | ⟨i, pg, hi, e⟩
  · exact h.own
  · exact (h.tabAt hi e).2.1
/-- A page's own entry is changed. -/
theorem Rep.chgPg (h : Rep n x A) {i t j : Nat} {pg : Pgs} {o : Option (Bool × Bool × Nat)} (hi : i < 64) (e : A i = .tab t pg) (hj : j < 64) (ho : PgOK n o) : Rep n (x.chg n vm (256 * t + 4 * j) (pgW o)) (setA A i (.tab t (setP pg j o))) := by
  obtain ⟨ht, h1, hr, hw⟩ := h.tabAt hi e
  have hw0 : Wok (wd n x.z t j) := by rw [(hw j hj).1]; exact wok_pg _
  have W := fun {t' j' : Nat} (a : t' < n) (b : j' < 64) => chg_wd (n := n) (vm := vm) (x := x) (v := pgW o) ht hj a b (w32_pg o) hw0
  refine ⟨chg_by h.by8 _ (w32_pg o), h.few, by rw [Pl.chg_os]; exact h.len, by rw [Pl.chg_root]; exact h.rt, by rw [Pl.chg_os, Pl.chg_root]; exact h.own, by rw [Pl.chg_gone]; exact h.live, fun k hk => ?_, fun k hk => ?_, ?_⟩
  · rw [Pl.chg_root, W h.rt hk, if_neg (fun x => hr x.1.symm)]
    unfold setA
    split
    · rename_i ek
      subst ek
      rw [h.wrd k hk, e]; rfl
    · exact h.wrd k hk
  · unfold setA
    split
    · refine ⟨ht, by rw [Pl.chg_os]; exact h1, by rw [Pl.chg_root]; exact hr, fun j' hj' => ?_⟩
      rw [W ht hj']
      unfold setP
      by_cases ej : j' = j
      · rw [if_pos ⟨rfl, ej⟩, if_pos ej]; exact ⟨rfl, ho⟩
      · rw [if_neg (fun x => ej x.2), if_neg ej]; exact hw j' hj'
    · rename_i ek
      have := h.ok k hk
      cases e' : A k with
      | no => trivial
      | blk w e F => rw [e'] at this; exact this
      | tab t' pg' =>
        obtain ⟨a, b, c, d⟩ := h.tabAt hk e'
        have ne : t' ≠ t := by
          rintro rfl
          exact ek (h.one k i _ _ _ hk hi e' e)
        refine ⟨a, by rw [Pl.chg_os]; exact b, by rw [Pl.chg_root]; exact c, fun j' hj' => ?_⟩
        rw [W a hj', if_neg (fun x => ne x.1)]
        exact d j' hj'
  · have fix : ∀ k t' p, setA A i (.tab t (setP pg j o)) k = .tab t' p → ∃ p', A k = .tab t' p' := by
      intro k t' p ek
      unfold setA at ek
      split at ek
      · rename_i x; subst x; injection ek with ek; subst ek; exact ⟨_, e⟩
      · exact ⟨_, ek⟩
    intro k l t' p p' hk hl e1 e2
    obtain ⟨_, f1⟩ := fix k t' p e1
    obtain ⟨_, f2⟩ := fix l t' p' e2
    exact h.one k l t' _ _ hk hl f1 f2
/-- A first index's entry is changed. -/
theorem Rep.chgRoot (h : Rep n x A) {i : Nat} {f : Fst} (hi : i < 64) (hf : FstOK n x f) (hn : ∀ t pg, f = .tab t pg → ∀ k, k < 64 → k ≠ i → ∀ pg', A k ≠ .tab t pg') : Rep n (x.chg n vm (256 * x.root + 4 * i) f.W) (setA A i f) := by
  have hw0 : Wok (wd n x.z x.root i) := by rw [h.wrd i hi]; exact wok_W _
  have W := fun {t' j' : Nat} (a : t' < n) (b : j' < 64) => chg_wd (n := n) (vm := vm) (x := x) (v := f.W) h.rt hi a b (w32_W f) hw0
  have ok' : ∀ g, FstOK n x g → FstOK n (x.chg n vm (256 * x.root + 4 * i) f.W) g := by
    intro g hg
    cases g with
    | no => trivial
    | blk w e F => exact hg
    | tab t pg =>
      obtain ⟨a, b, c, d⟩ := hg
      refine ⟨a, by rw [Pl.chg_os]; exact b, by rw [Pl.chg_root]; exact c, fun j hj => ?_⟩
      rw [W a hj, if_neg (fun x => c x.1)]
      exact d j hj
  refine ⟨chg_by h.by8 _ (w32_W f), h.few, by rw [Pl.chg_os]; exact h.len, by rw [Pl.chg_root]; exact h.rt, by rw [Pl.chg_os, Pl.chg_root]; exact h.own, by rw [Pl.chg_gone]; exact h.live, fun k hk => ?_, fun k hk => ?_, ?_⟩
  · rw [Pl.chg_root, W h.rt hk]
    unfold setA
    by_cases ek : k = i
    · rw [if_pos ⟨rfl, ek⟩, if_pos ek]
    · rw [if_neg (fun x => ek x.2), if_neg ek]; exact h.wrd k hk
  · unfold setA
    split
    · exact ok' f hf
    · exact ok' _ (h.ok k hk)
  · intro k l t p p' hk hl e1 e2
    unfold setA at e1 e2
    by_cases a : k = i
    · by_cases b : l = i
      · rw [a, b]
      · rw [if_pos a] at e1
        rw [if_neg b] at e2
        exact absurd e2 (hn t p e1 l hl b p')
    · by_cases b : l = i
      · rw [if_neg a] at e1
        rw [if_pos b] at e2
        exact absurd e1 (hn t p' e2 k hk a p)
      · rw [if_neg a] at e1
        rw [if_neg b] at e2
        exact h.one k l t p p' hk hl e1 e2
end

/-! ### How many tables -/
def isT : Fst → Bool
  | .tab _ _ => true
  | _ => false
def cntN (P : Nat → Bool) (m : Nat) : Nat := ((List.range m).filter P).length
theorem cntN_succ (P : Nat → Bool) (m : Nat) : cntN P (m + 1) = cntN P m + (if P m = true then 1 else 0) := by
  unfold cntN
  rw [List.range_succ, List.filter_append, List.length_append]
  cases h : P m <;> simp [h]
theorem cntN_congr {P Q : Nat → Bool} : ∀ {m : Nat}, (∀ k, k < m → P k = Q k) → cntN P m = cntN Q m
  | 0, _ => rfl
  | m + 1, h => by rw [cntN_succ, cntN_succ, cntN_congr (fun k hk => h k (by omega)), h m (by omega)]
theorem cntN_one {P Q : Nat → Bool} {i : Nat} (h : ∀ k, k ≠ i → P k = Q k) : ∀ {m : Nat}, i < m → cntN P m + (if Q i = true then 1 else 0) = cntN Q m + (if P i = true then 1 else 0)
  | 0, hi => by omega
  | m + 1, hi => by
    rw [cntN_succ, cntN_succ]
    by_cases e : i = m
    · subst e
      rw [cntN_congr (P := P) (Q := Q) (fun k hk => h k (by omega))]
      omega
    · have := cntN_one h (m := m) (by omega)
      rw [h m (fun x => e x.symm)]
      omega
def tabs (A : Nat → Fst) : Nat := cntN (fun i => isT (A i)) 64
theorem tabs_set (A : Nat → Fst) {i : Nat} (f : Fst) (hi : i < 64) : tabs (setA A i f) + (if isT (A i) = true then 1 else 0) = tabs A + (if isT f = true then 1 else 0) := by
  have := cntN_one (P := fun k => isT (setA A i f k)) (Q := fun k => isT (A k)) (i := i) (fun k hk => by show isT (setA A i f k) = _; rw [setA_ne A f hk]) hi
  simp only [setA_at] at this
  exact this

/-! ### What is told -/
/-- A page: may be written, executed, its frame, is it a block's. -/
structure Tp where
  W : Bool
  X : Bool
  F : Nat
  B : Bool
def Fst.told (f : Fst) (j : Nat) : Option Tp := match f with
  | .no => none
  | .blk w e F => some ⟨w, e, F + j, true⟩
  | .tab _ pg => match pg j with
    | none => none
    | some (w, e, F) => some ⟨w, e, F, false⟩
def told (A : Nat → Fst) (p : Nat) : Option Tp := (A (p / 64)).told (p % 64)
def seenT : Option Tp → Seen
  | none => ⟨e0, false⟩
  | some t => ⟨⟨true, t.W, t.X, t.B, t.F⟩, true⟩
theorem alw_0 (W X : Bool) : alw true W X 0 = true := by cases W <;> cases X <;> rfl
/-- How a page is walked to. -/
def hitT (f : Int) (r : Int) : Option Tp → Hit
  | none => ⟨f, r, 0, false, false, false⟩
  | some t => ⟨0, r, t.F, t.W, t.X, t.B⟩
theorem walk_rep {n : Nat} {x : Pl} {A : Nat → Fst} (h : Rep n x A) (p : Nat) (hp : p < 4096) : ∃ f r, f ≠ 0 ∧ walkS n x.z x.root (p * 256) 0 = hitT f r (told A p) := by
  have h1 : ¬ (1048576 ≤ (p : Int) * 256) := by omega
  have e1 : (p : Int) * 256 / 16384 % 64 = ((p / 64 : Nat) : Int) := by omega
  have e2 : (p : Int) * 256 / 256 % 64 = ((p % 64 : Nat) : Int) := by omega
  have hi : p / 64 < 64 := by omega
  have hj : p % 64 < 64 := by omega
  have hr : inM n (x.root : Int) = true := inM_yes ⟨by omega, by have := h.rt; omega⟩
  have hs : slotE n x.z x.root ((p / 64 : Nat) : Int) = entOf (A (p / 64)).W := by unfold slotE; rw [wAt_wd, h.wrd _ hi]
  have hf := h.few
  unfold walkS tellS told
  rw [if_neg h1, e1, e2, hs, hr, if_neg (by simp)]
  have ok := h.ok _ hi
  generalize hA : A (p / 64) = f at ok
  cases f with
  | no =>
    refine ⟨2, 1, by decide, ?_⟩
    rw [show Fst.no.W = 0 from rfl, entOf_0, if_pos (show e0.V = false from rfl)]
    rfl
  | blk w e F =>
    obtain ⟨_, hF⟩ := ok
    refine ⟨1, 1, by decide, ?_⟩
    rw [show (Fst.blk w e F).W = lw true w e true F from rfl, entOf_lw _ _ _ (by omega) (by omega), if_neg (by simp), if_pos rfl]
    have hm : inM n ((F : Int) + ((p % 64 : Nat) : Int)) = true := inM_yes ⟨by omega, by omega⟩
    unfold hitOf checkS
    simp only [alw_0, hm]
    show (⟨0, 1, (F : Int) + ((p % 64 : Nat) : Int), w, e, true⟩ : Hit) = ⟨0, 1, ((F + p % 64 : Nat) : Int), w, e, true⟩
    rw [Int.natCast_add]
  | tab t pg =>
    obtain ⟨ht, _, _, hw⟩ := ok
    obtain ⟨hw, hg⟩ := hw _ hj
    have hm : inM n (t : Int) = true := inM_yes ⟨by omega, by omega⟩
    have hs2 : slotE n x.z t ((p % 64 : Nat) : Int) = entOf (pgW (pg (p % 64))) := by unfold slotE; rw [wAt_wd, hw]
    rw [show (Fst.tab t pg).W = lw true false false false t from rfl, entOf_lw _ _ _ (by omega) (by omega), if_neg (by simp), if_neg (by simp)]
    simp only [hm]
    rw [if_neg (by simp), hs2]
    unfold Fst.told
    cases ho : pg (p % 64) with
    | none =>
      refine ⟨3, 2, by decide, ?_⟩
      rw [show pgW none = 0 from rfl, entOf_0, if_pos (show e0.V = false from rfl)]
      simp only [ho]
      rfl
    | some q =>
      obtain ⟨w, e, F⟩ := q
      have hF := hg w e F ho
      refine ⟨1, 2, by decide, ?_⟩
      have hm2 : inM n (F : Int) = true := inM_yes ⟨by omega, by omega⟩
      rw [show pgW (some (w, e, F)) = lw true w e false F from rfl, entOf_lw _ _ _ (by omega) (by omega), if_neg (by simp)]
      unfold hitOf checkS
      simp only [alw_0, hm2, ho]
      rfl
theorem look_rep {n : Nat} {x : Pl} {A : Nat → Fst} (h : Rep n x A) (p : Nat) (hp : p < 4096) : lookS n x.z x.root p = seenT (told A p) := by
  obtain ⟨f, r, hf, hw⟩ := walk_rep h p hp
  unfold lookS
  rw [if_pos ⟨by omega, by omega⟩, hw]
  cases told A p with
  | none => unfold seenOf hitT seenT; rw [if_neg hf]
  | some t => unfold seenOf hitT seenT; rw [if_pos rfl]
end St
end Go.Proofs.YtiiggmfindfkfaaGreat
