/-
  Four heaps in a law's world; plain: rows in order with the same items are one. Conditions: none.
-/
import Derived.Test.YtmeadkllbjkjbaaHqSortsM
namespace Go.Proofs.Ytmeadkllbjkjbaa
open Go.RowKit
namespace Hq
open Ph (Only)
open Wh (Srt Uni ins del has mem_ins has_iff len_ins)
open Hp (lt lt_irr lt_asym le_trans lt_total)
/-- Two rows of blocks have nothing in common. -/
def Sep (F G : List Nat) : Prop := ∀ x ∈ F, x ∉ G
theorem Sep.symm {F G : List Nat} (h : Sep F G) : Sep G F := fun x hx hf => h x hf hx
structure Quad (K : Hk) (B : Nat) (w0 : World) (pa : Nat) (Fa : List Nat) (la : List ItT) (pb : Nat) (Fb : List Nat) (lb : List ItT) (pc : Nat) (Fc : List Nat) (lc : List ItT) (pd : Nat) (Fd : List Nat) (ld : List ItT) (w : World) : Prop where
  a : On K B w0 pa Fa la w
  b : On K B w0 pb Fb lb w
  c : On K B w0 pc Fc lc w
  d : On K B w0 pd Fd ld w
  ab : Sep Fa Fb
  ac : Sep Fa Fc
  ad : Sep Fa Fd
  bc : Sep Fb Fc
  bd : Sep Fb Fd
  cd : Sep Fc Fd
section
variable {K : Hk} {B : Nat} {w0 w w' : World} {pa pb pc pd : Nat} {Fa Fb Fc Fd : List Nat} {la lb lc ld : List ItT}
theorem Quad.quiet (h : Quad K B w0 pa Fa la pb Fb lb pc Fc lc pd Fd ld w) (ho : Only [] w w') (hB : B ≤ w0.heap.size) : Quad K B w0 pa Fa la pb Fb lb pc Fc lc pd Fd ld w' :=
  { h with a := h.a.quiet ho hB, b := h.b.quiet ho hB, c := h.c.quiet ho hB, d := h.d.quiet ho hB }
theorem Quad.swapB (h : Quad K B w0 pa Fa la pb Fb lb pc Fc lc pd Fd ld w) : Quad K B w0 pb Fb lb pa Fa la pc Fc lc pd Fd ld w := ⟨h.b, h.a, h.c, h.d, h.ab.symm, h.bc, h.bd, h.ac, h.ad, h.cd⟩
theorem Quad.swapC (h : Quad K B w0 pa Fa la pb Fb lb pc Fc lc pd Fd ld w) : Quad K B w0 pc Fc lc pb Fb lb pa Fa la pd Fd ld w := ⟨h.c, h.b, h.a, h.d, h.bc.symm, h.ac.symm, h.cd, h.ab.symm, h.bd, h.ad⟩
theorem Quad.swapD (h : Quad K B w0 pa Fa la pb Fb lb pc Fc lc pd Fd ld w) : Quad K B w0 pd Fd ld pb Fb lb pc Fc lc pa Fa la w := ⟨h.d, h.b, h.c, h.a, h.bd.symm, h.cd.symm, h.ad.symm, h.bc, h.ab.symm, h.ac.symm⟩
theorem On.aside {F : List Nat} {p : Nat} {l : List ItT} (h : On K B w0 p F l w) {G : List Nat} (ho : Only G w w') (hs : Sep F G) (hG : ∀ x ∈ G, B ≤ x) (hB : B ≤ w0.heap.size) : On K B w0 p F l w' :=
  ⟨K.kept h.hp ho hs, h.low, h.below.trans (ho.below (h.size hB) hG)⟩
theorem sep_grown {F F' G : List Nat} {p : Nat} {l : List ItT} (h : On K B w0 p G l w) (hs : Sep F G) (hf : ∀ x ∈ F', x ∈ F ∨ w.heap.size ≤ x) : Sep F' G := fun x hx hg => by
  rcases hf x hx with e | e
  · exact hs x e hg
  · have := K.lt h.hp x hg; omega
theorem Quad.stepA {l' : List ItT} (h : Quad K B w0 pa Fa la pb Fb lb pc Fc lc pd Fd ld w) (hg : Grown Fa w w' fun F' => K.Hp w' pa F' l') (hB : B ≤ w0.heap.size) : ∃ Fa', Quad K B w0 pa Fa' l' pb Fb lb pc Fc lc pd Fd ld w' := by
  obtain ⟨F', h1, ho, hf⟩ := h.a.grown hg hB
  exact ⟨F', h1, h.b.aside ho h.ab.symm h.a.low hB, h.c.aside ho h.ac.symm h.a.low hB, h.d.aside ho h.ad.symm h.a.low hB, sep_grown h.b h.ab hf, sep_grown h.c h.ac hf, sep_grown h.d h.ad hf, h.bc, h.bd, h.cd⟩
theorem Quad.stepB {l' : List ItT} (h : Quad K B w0 pa Fa la pb Fb lb pc Fc lc pd Fd ld w) (hg : Grown Fb w w' fun F' => K.Hp w' pb F' l') (hB : B ≤ w0.heap.size) : ∃ Fb', Quad K B w0 pa Fa la pb Fb' l' pc Fc lc pd Fd ld w' := by
  obtain ⟨F', h1⟩ := h.swapB.stepA hg hB
  exact ⟨F', h1.swapB⟩
theorem Quad.stepC {l' : List ItT} (h : Quad K B w0 pa Fa la pb Fb lb pc Fc lc pd Fd ld w) (hg : Grown Fc w w' fun F' => K.Hp w' pc F' l') (hB : B ≤ w0.heap.size) : ∃ Fc', Quad K B w0 pa Fa la pb Fb lb pc Fc' l' pd Fd ld w' := by
  obtain ⟨F', h1⟩ := h.swapC.stepA hg hB
  exact ⟨F', h1.swapC⟩
theorem Quad.stepD {l' : List ItT} (h : Quad K B w0 pa Fa la pb Fb lb pc Fc lc pd Fd ld w) (hg : Grown Fd w w' fun F' => K.Hp w' pd F' l') (hB : B ≤ w0.heap.size) : ∃ Fd', Quad K B w0 pa Fa la pb Fb lb pc Fc lc pd Fd' l' w' := by
  obtain ⟨F', h1⟩ := h.swapD.stepA hg hB
  exact ⟨F', h1.swapD⟩
end
/-! ### Plain -/
theorem sorted_ext {l m : List ItT} (h1 : Srt l) (h2 : Srt m) (h : ∀ x, x ∈ l ↔ x ∈ m) : l = m := by
  have nd : ∀ {l : List ItT}, Srt l → l.Nodup := fun h => h.imp (fun {a b} hab e => by subst e; exact lt_irr _ hab)
  have hp : l.Perm m := (List.perm_ext_iff_of_nodup (nd h1) (nd h2)).2 h
  exact List.Perm.eq_of_pairwise (le := lt) (fun a b _ _ h1 h2 => absurd h2 (lt_asym h1)) h1 h2 hp
/-- The items are those of the first numbers, but of some, each with its key. -/
def Is (y : Nat → Int) (ok : Nat → Prop) (i : Nat) (l : List ItT) : Prop := ∀ x : ItT, x ∈ l ↔ (x.1 < i ∧ ok x.1 ∧ y x.1 = (x.2 : Nat))
theorem Is.none (y : Nat → Int) (ok : Nat → Prop) : Is y ok 0 [] := fun x => by simp
theorem Is.push {y : Nat → Int} {ok : Nat → Prop} {i z : Nat} {l : List ItT} (h : Is y ok i l) (hi : i < 64) (hok : ok i) (hz : y i = (z : Nat)) : pshE (i : Nat) l = 0 ∧ Is y ok (i + 1) (pshL (i : Nat) z l) := by
  have hn : has i l = false := by
    cases e : has i l with
    | false => rfl
    | true =>
      obtain ⟨x, hx, e⟩ := has_iff.1 e
      have := ((h x).1 hx).1
      omega
  have he : pshE (i : Nat) l = 0 := by
    unfold pshE
    rw [if_neg (by omega), Int.toNat_natCast, hn]
    rfl
  refine ⟨he, fun x => ?_⟩
  unfold pshL
  rw [if_pos he, Int.toNat_natCast, mem_ins, h x]
  obtain ⟨a, b⟩ := x
  simp only [Prod.mk.injEq]
  constructor
  · rintro (⟨rfl, rfl⟩ | ⟨h1, h2, h3⟩)
    · exact ⟨by omega, hok, hz⟩
    · exact ⟨by omega, h2, h3⟩
  · rintro ⟨h1, h2, h3⟩
    by_cases e : a = i
    · subst e
      rw [hz] at h3
      exact Or.inl ⟨rfl, by omega⟩
    · exact Or.inr ⟨by omega, h2, h3⟩
theorem Is.skip {y : Nat → Int} {ok : Nat → Prop} {i : Nat} {l : List ItT} (h : Is y ok i l) (hok : ¬ ok i) : Is y ok (i + 1) l := fun x => by
  rw [h x]
  constructor
  · rintro ⟨h1, h2⟩; exact ⟨by omega, h2⟩
  · rintro ⟨h1, h2, h3⟩
    refine ⟨?_, h2, h3⟩
    have : x.1 ≠ i := fun e => hok (e ▸ h2)
    omega
def put1 (y : Nat → Int) (a : Nat) (k : Int) (j : Nat) : Int := if j = a then k else y j
theorem put1_at (y : Nat → Int) (a : Nat) (k : Int) : put1 y a k a = k := if_pos rfl
theorem put1_of {y : Nat → Int} {a j : Nat} (k : Int) (h : j ≠ a) : put1 y a k j = y j := if_neg h
theorem change_is {y : Nat → Int} {n a k z : Nat} {l m : List ItT} (hl : Is y (fun _ => True) n l) (hm : Is (put1 y a k) (fun _ => True) n m) (fl : Fine l) (fm : Fine m) (ha : a < n) (hn : n ≤ 64) (hz : y a = (z : Nat)) (hk : k < 18446744073709551616) : chE (a : Nat) l = 0 ∧ chL (a : Nat) k l = m := by
  have hh : has a l = true := has_iff.2 ⟨(a, z), (hl (a, z)).2 ⟨ha, trivial, hz⟩, rfl⟩
  have he : chE (a : Nat) l = 0 := by
    unfold chE
    rw [if_neg (by omega), Int.toNat_natCast, if_pos hh]
  refine ⟨he, sorted_ext (fl.change _ hk).srt fm.srt (fun x => ?_)⟩
  unfold chL
  rw [if_pos he, Int.toNat_natCast, mem_ins, hm x]
  unfold del
  rw [List.mem_filter, hl x]
  obtain ⟨p, q⟩ := x
  simp only [Prod.mk.injEq]
  constructor
  · rintro (⟨rfl, rfl⟩ | ⟨⟨h1, h2, h3⟩, h4⟩)
    · exact ⟨ha, trivial, put1_at _ _ _⟩
    · have : p ≠ a := by simpa using h4
      exact ⟨h1, trivial, by rw [put1_of _ this]; exact h3⟩
  · rintro ⟨h1, _, h3⟩
    by_cases e : p = a
    · subst e
      rw [put1_at] at h3
      exact Or.inl ⟨rfl, by omega⟩
    · rw [put1_of _ e] at h3
      exact Or.inr ⟨⟨h1, trivial, h3⟩, by simpa using e⟩
theorem remove_is {y : Nat → Int} {n a z : Nat} {l m : List ItT} (hl : Is y (fun _ => True) n l) (hm : Is y (fun j => j ≠ a) n m) (fl : Fine l) (fm : Fine m) (ha : a < n) (hz : y a = (z : Nat)) : rmB (a : Nat) l = true ∧ rmL (a : Nat) l = m := by
  have hh : has a l = true := has_iff.2 ⟨(a, z), (hl (a, z)).2 ⟨ha, trivial, hz⟩, rfl⟩
  have he : rmB (a : Nat) l = true := by
    unfold rmB
    rw [Int.toNat_natCast, hh]
    simp
  refine ⟨he, sorted_ext (fl.remove _).srt fm.srt (fun x => ?_)⟩
  unfold rmL
  rw [if_pos he, Int.toNat_natCast, hm x]
  unfold del
  rw [List.mem_filter, hl x]
  constructor
  · rintro ⟨⟨h1, h2, h3⟩, h4⟩
    exact ⟨h1, by simpa using h4, h3⟩
  · rintro ⟨h1, h2, h3⟩
    exact ⟨⟨h1, trivial, h3⟩, by simpa using h2⟩
end Hq
end Go.Proofs.Ytmeadkllbjkjbaa
