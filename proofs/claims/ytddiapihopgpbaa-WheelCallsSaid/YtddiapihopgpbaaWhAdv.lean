/-
  What a wheel's Advance answers, and leaves. Conditions: that a wheel lies there.
-/
import Derived.Test.YtddiapihopgpbaaWhRows
import Derived.BigRegionIn
namespace Go.Proofs.Ytddiapihopgpbaa
open Go.RowKit Go.Maps Go.Shelf
attribute [local go_sem] Oper.semAt_some
namespace Wh
open Ph (Only)

/-- What lies while an advance goes through the slots. -/
structure Dg (n₀ p A t u : Nat) (w : World) (ds ls la : List DuT) (m : Nat → Option Nat) (L : Nat → List DuT) (W : World) : Prop where
  bp : Boxed W n₀ 25 (.pointer (some ⟨p, 0, none⟩))
  bu : Boxed W (n₀ + 1) 22 (.int .u64 (u : Nat))
  ip : Boxed W (n₀ + 4) 25 (.pointer (some ⟨p, 0, none⟩))
  iu : Boxed W (n₀ + 5) 22 (.int .u64 (u : Nat))
  two : Two n₀ (n₀ + 2) (n₀ + 3) ds ls W
  wh : Wx W p A t la m L
  low : ∀ x ∈ blks p A m, x < n₀
  only : Only [p, A] w W
theorem Dg.own {β : Type} (n₀ p A t u : Nat) (w : World) (ds ls la : β → List DuT) (m : β → Nat → Option Nat) (L : β → Nat → List DuT) (g : β → Prop) (hn : n₀ = w.heap.size) (n : Nat) (h4 : n₀ + 6 ≤ n) :
    OwnFrom n (fun (s : β) W => g s ∧ Dg n₀ p A t u w (ds s) (ls s) (la s) (m s) (L s) W) := by
  intro s X X' row h hg hr
  have ho := turn_only hg
  have nt : ∀ {b : Nat}, b < n₀ + 6 → b ∉ row.toList := fun hb => turn_not hr (by omega)
  have kb : ∀ {b : Nat} {t : TypeId} {v : Value}, b < n₀ + 6 → Boxed X b t v → Boxed X' b t v := fun hb hx => (ho.block _ hx.lt (nt hb)).trans hx
  refine ⟨h.1, kb (by omega) h.2.bp, kb (by omega) h.2.bu, kb (by omega) h.2.ip, kb (by omega) h.2.iu, h.2.two.turn hg (fun r e => (hr r e).2), h.2.wh.kept ho (fun x hx => nt (by have := h.2.low x hx; omega)), h.2.low, ?_⟩
  exact ((h.2.only.mono (S' := p :: A :: row.toList) (by simp)).trans (ho.mono (fun x hx => by simp [hx]))).back (S' := [p, A]) (n := n₀) (fun x hx => by
    rcases List.mem_cons.1 hx with rfl | hx
    · exact Or.inl (by simp)
    · rcases List.mem_cons.1 hx with rfl | hx
      · exact Or.inl (by simp)
      · exact Or.inr (by have := (hr x (by simpa using hx)).1; omega)) (by omega)
theorem Dg.own1 {β : Type} (n₀ p A t u : Nat) (w : World) (ds ls la : β → List DuT) (m : β → Nat → Option Nat) (L : β → Nat → List DuT) (hn : n₀ = w.heap.size) (n : Nat) (h4 : n₀ + 6 ≤ n) :
    OwnFrom n (fun (s : β) W => Dg n₀ p A t u w (ds s) (ls s) (la s) (m s) (L s) W) := fun s X X' row h hg hr => (Dg.own n₀ p A t u w ds ls la m L (fun _ => True) hn n h4 s X X' row ⟨trivial, h⟩ hg hr).2
theorem filt_yes {c : DuT → Bool} {X : List DuT} {x : DuT} (h : c x = true) : (X ++ [x]).filter c = X.filter c ++ [x] := by rw [List.filter_append, List.filter_cons_of_pos h]; rfl
theorem filt_no {c : DuT → Bool} {X : List DuT} {x : DuT} (h : c x = false) : (X ++ [x]).filter c = X.filter c := by rw [List.filter_append, List.filter_cons_of_neg (by simp [h])]; simp
theorem only_below {S : List Nat} {w W W' : World} {n₀ : Nat} (h : Only S w W) (hb : Below n₀ W W') (hn : n₀ = w.heap.size) : Only S w W' :=
  ⟨hb.os.trans h.os, hb.tape.trans h.tape, hb.output.trans h.output, Nat.le_trans h.size hb.size, fun k hk hs => (hb.block k (by omega)).trans (h.block k hk hs)⟩
/-- A timer more in one of the rows. -/
theorem Dg.step {n₀ p A t u : Nat} {w : World} {ds ls la ds' ls' : List DuT} {m : Nat → Option Nat} {L : Nat → List DuT} {W W' : World} (h : Dg n₀ p A t u w ds ls la m L W) (hn : n₀ = w.heap.size) (ht : Two n₀ (n₀ + 2) (n₀ + 3) ds' ls' W') (hb : Below n₀ W W')
    (hk : ∀ (b : Nat) (t : TypeId) (u : Value), t ≠ 42 → b ≠ n₀ + 2 → b ≠ n₀ + 3 → Boxed W b t u → Boxed W' b t u) : Dg n₀ p A t u w ds' ls' la m L W' :=
  ⟨hk _ _ _ (by decide) (by omega) (by omega) h.bp, hk _ _ _ (by decide) (by omega) (by omega) h.bu, hk _ _ _ (by decide) (by omega) (by omega) h.ip, hk _ _ _ (by decide) (by omega) (by omega) h.iu, ht,
    h.wh.kept (below_only hb) (fun x hx => past_not (h.low x hx)), h.low, only_below h.only hb hn⟩
/-- All timers' map is turned. -/
theorem Dg.cut {n₀ p A t u : Nat} {w : World} {ds ls la la' : List DuT} {m : Nat → Option Nat} {L : Nat → List DuT} {W W' : World} (h : Dg n₀ p A t u w ds ls la m L W) (hg : W.grownBy W' (some A)) (hm : Mp W' A la') : Dg n₀ p A t u w ds ls la' m L W' := by
  have hA := h.low A (mem_blks.2 (Or.inr (Or.inl rfl)))
  have ho := only_grown hg
  have kb : ∀ {b : Nat} {t : TypeId} {v : Value}, n₀ ≤ b → Boxed W b t v → Boxed W' b t v := fun hb hx => (ho.block _ hx.lt (by simp; omega)).trans hx
  obtain ⟨v, z, ht⟩ := h.two
  exact ⟨kb (by omega) h.bp, kb (by omega) h.bu, kb (by omega) h.ip, kb (by omega) h.iu, ⟨v, z, ht.low ho (by simp; exact hA) (by omega) (by omega)⟩, h.wh.turnA hg hm, h.low, h.only.trans (ho.mono (by simp))⟩
theorem Dg.drew {n₀ p A t u : Nat} {w : World} {ds ls la : List DuT} {m : Nat → Option Nat} {L : Nat → List DuT} {W : World} (h : Dg n₀ p A t u w ds ls la m L W) : Dg n₀ p A t u w ds ls la m L W.drew :=
  ⟨h.bp, h.bu, h.ip, h.iu, h.two.turn (row := none) ⟨rfl, rfl, rfl, Nat.le_refl _, fun _ _ _ => rfl⟩ (fun r e => by cases e), h.wh.quiet (Only.drewN [] W 1), h.low, h.only.trans (Only.drewN _ W 1)⟩
theorem keeps_A {B A : Nat} {W W' : World} (hg : W.drew.grownBy W' (some A)) (hA : A < B) : KeepsFrom B W W' := ⟨hg.size, fun k o hB hk _ => (hg.block k (Array.getElem?_eq_some_iff.1 hk).1 (fun e => by injection e with e; omega)).trans hk⟩
theorem kw_A {B b A : Nat} {W W' : World} (hg : W.drew.grownBy W' (some A)) (hA : A < B) (hb : b ≠ A) : Kw B b W W' :=
  ⟨hg.size, fun k o hk ho _ => (hg.block k (Array.getElem?_eq_some_iff.1 ho).1 (fun e => by injection e with e; rcases hk with hk | hk <;> omega)).trans ho⟩
/-- A slot is emptied. -/
theorem Dg.clear {n₀ p A t u k : Nat} {w : World} {ds ls la : List DuT} {m : Nat → Option Nat} {L : Nat → List DuT} {W : World} (h : Dg n₀ p A t u w ds ls la m L W) (hk : k < 168) : Dg n₀ p A t u w ds ls la (updM m k none) (updL L k []) (W.setCell ⟨p, 2 + k, none⟩ (.map none)) := by
  have hp := h.low p (mem_blks.2 (Or.inl rfl))
  have ho : Only [p] W (W.setCell ⟨p, 2 + k, none⟩ (.map none)) := Only.setCell W (by simp) _ _
  have kb : ∀ {b : Nat} {t : TypeId} {v : Value}, n₀ ≤ b → Boxed W b t v → Boxed (W.setCell ⟨p, 2 + k, none⟩ (.map none)) b t v := fun hb hx => (ho.block _ hx.lt (by simp; omega)).trans hx
  obtain ⟨v, z, ht⟩ := h.two
  exact ⟨kb (by omega) h.bp, kb (by omega) h.bu, kb (by omega) h.ip, kb (by omega) h.iu, ⟨v, z, ht.low ho (by simp; exact hp) (by omega) (by omega)⟩, h.wh.setK hk, fun x hx => by
    (rcases blks_upd hx with hx | hx
     · exact h.low x hx
     · cases hx), h.only.trans (ho.mono (by simp))⟩
theorem Dg.later {n₀ p A t u : Nat} {w : World} {ds ls la : List DuT} {m : Nat → Option Nat} {L : Nat → List DuT} {W : World} (h : Dg n₀ p A t u w ds ls la m L W) (hn : n₀ = w.heap.size) (o : Obj) : Dg n₀ p A t u w ds ls la m L (W.alloc o) :=
  (Dg.own (β := Unit) n₀ p A t u w (fun _ => ds) (fun _ => ls) (fun _ => la) (fun _ => m) (fun _ => L) (fun _ => True) hn (n₀ + 6) (Nat.le_refl _) () W _ none ⟨trivial, h⟩ (World.grownBy_alloc W o none) (fun r e => by cases e)).2
/-- Blocks turn that are none of these. -/
theorem TwoV.sep {n₀ b1 b2 M : Nat} {v z : Value} {ds ls : List DuT} {W W' : World} {S : List Nat} (h : TwoV n₀ b1 b2 v z ds ls W) (ho : Only S W W') (hs : ∀ x ∈ S, x < n₀ ∨ M ≤ x) (h1 : n₀ ≤ b1 ∧ b1 < M) (h2 : n₀ ≤ b2 ∧ b2 < M)
    (hv : ∀ g, v.ownBlock = some g → g < M) (hz : ∀ g, z.ownBlock = some g → g < M) : TwoV n₀ b1 b2 v z ds ls W' := by
  have nb : ∀ {b : Nat} {t : TypeId} {u : Value}, n₀ ≤ b ∧ b < M → Boxed W b t u → Boxed W' b t u := fun hb hx => (ho.block _ hx.lt (fun e => by have := hs _ e; omega)).trans hx
  have nr : ∀ {n : Nat} {u : Value} {xs : List Value}, (∀ g, u.ownBlock = some g → g < M) → W.ownsRow n₀ 42 2 u n xs → W'.ownsRow n₀ 42 2 u n xs := fun {n u xs} hq hu => by
    refine ⟨hu.1, ?_⟩
    rcases hu.2 with h | ⟨g, cap, cur, e, hg, hb, r⟩
    · exact Or.inl h
    · exact Or.inr ⟨g, cap, cur, e, hg, (ho.block g (Array.getElem?_eq_some_iff.1 hb).1 (fun x => by
        have h1 := hs g x
        have h2 := hq g (by rw [e]; rfl)
        omega)).trans hb, r⟩
  exact ⟨nb h1 h.x1, nb h2 h.x2, nr hv h.r1, nr hz h.r2, h.ap, h.n1, h.n2⟩
/-- What lies while what is later is put back: M is where the heap ended when that began. -/
structure Pu (n₀ p A t u M D : Nat) (w : World) (m : Nat → Option Nat) (v z : Value) (ds ls l : List DuT) (i : Nat) (W : World) : Prop where
  bp : Boxed W n₀ 25 (.pointer (some ⟨p, 0, none⟩))
  two : TwoV n₀ (n₀ + 2) (n₀ + 3) v z ds ls W
  wh : ∃ m' L, Wx W p A u (rst u l) m' L ∧ (∀ k, k < 168 → (L k).Perm (putL t u l (ls.take i) k)) ∧ ∀ x ∈ blks p A m', x ∈ blks p A m ∨ M ≤ x
  only : Only (blks p A m) w W
  df : W.heap[D]? = some (.deferred (some []))
  sz : M ≤ W.heap.size
theorem Pu.alloc {n₀ p A t u M D : Nat} {w : World} {m : Nat → Option Nat} {v z : Value} {ds ls l : List DuT} {i : Nat} {W : World} (h : Pu n₀ p A t u M D w m v z ds ls l i W) (o : Obj) : Pu n₀ p A t u M D w m v z ds ls l i (W.alloc o) := by
  obtain ⟨m', L, h1, h2, h3⟩ := h.wh
  exact ⟨h.bp.alloc o, h.two.turn (World.grownBy_alloc W o none) (fun r e => by cases e), ⟨m', L, h1.quiet (Only.alloc [] W o), h2, h3⟩, h.only.trans (Only.alloc _ W o), (Below.heap_alloc W o D (Array.getElem?_eq_some_iff.1 h.df).1).trans h.df, Nat.le_trans h.sz (by simp)⟩
theorem adv_no (w : World) (p a : Nat) (h : 4611686018427387904 < a) : Calls Try.prog 15 #[.pointer (some ⟨p, 0, none⟩), .int .u64 (a : Nat)] w fun e w' => e = .returned (.slice none 0 0) ∧ Only [] w w' := by
  go_enter Try.func15, Try.ntmps15
  go_wp2
  go_ret
  exact ⟨rfl, (Only.alloc _ _ _).trans (Only.alloc _ _ _)⟩


set_option maxRecDepth 100000 in
set_option maxHeartbeats 4000000 in
theorem adv_any (w : World) (p A t a : Nat) (l : List DuT) (m : Nat → Option Nat) (hW : Wx w p A t l m (inK t l)) (hf : Fine t l) (ha : a ≤ 4611686018427387904) :
    Calls Try.prog 15 #[.pointer (some ⟨p, 0, none⟩), .int .u64 (a : Nat)] w fun e w' => ∃ v, e = .returned v ∧ Grown (blks p A m) w w' fun F' => WhT w' p F' (max t a) (rst (max t a) l) ∧ Seen w.heap.size F' w' v (out (max t a) l) := by
  have HW := Lib.hid hW
  have HF := Lib.hid hf
  have ht : t < 2 ^ 63 := by have := hf.time; omega
  have htl := hf.time
  have hpl := hW.lt
  have c0 := hW.c0
  have hm1 : (if (a : Int) < (t : Int) then (t : Int) else (a : Int)) = ((max t a : Nat) : Int) := by split <;> omega
  have hm2 : (if a < t then (t : Int) else (a : Int)) = ((max t a : Nat) : Int) := by split <;> omega
  have hm3 : max (a : Int) (t : Int) = ((max t a : Nat) : Int) := by omega
  have hu : max t a ≤ 4611686018427387904 := by omega
  have htu : t ≤ max t a := by omega
  generalize max t a = u at *
  clear hW hf
  refine (callsIn_wide (n := 7)).1 ?_
  refine callsIn_of_wp_marks Try.func15 rfl trivial ?_ rfl
  simp only [Try.ntmps15, List.size_toArray, List.length_cons, List.length_nil, Nat.reduceAdd, Nat.reduceSub, Array.replicate_succ, Array.replicate_zero, List.push_toArray, List.append_toArray, List.nil_append, List.cons_append]
  gi_wp2
  gi_region
  have hsz1 : ((w.alloc (.cells #[.pointer (some ⟨p, 0, none⟩)] 25)).alloc (.cells #[.int .u64 (u : Nat)] 22)).drew.heap.size = w.heap.size + 2 := by show ((w.alloc (.cells #[.pointer (some ⟨p, 0, none⟩)] 25)).alloc (.cells #[.int .u64 (u : Nat)] 22)).heap.size = _; simp
  have o1 : Only [] w ((w.alloc (.cells #[.pointer (some ⟨p, 0, none⟩)] 25)).alloc (.cells #[.int .u64 (u : Nat)] 22)).drew := ((Only.alloc [] w _).trans (Only.alloc _ _ _)).trans (Only.drewN _ _ 1)
  have bp : Boxed ((w.alloc (.cells #[.pointer (some ⟨p, 0, none⟩)] 25)).alloc (.cells #[.int .u64 (u : Nat)] 22)).drew w.heap.size 25 (.pointer (some ⟨p, 0, none⟩)) := (Boxed.new w _ _).alloc _
  have bu : Boxed ((w.alloc (.cells #[.pointer (some ⟨p, 0, none⟩)] 25)).alloc (.cells #[.int .u64 (u : Nat)] 22)).drew (w.heap.size + 1) 22 (.int .u64 (u : Nat)) := by
    have := Boxed.new (w.alloc (.cells #[.pointer (some ⟨p, 0, none⟩)] 25)) 22 (.int .u64 (u : Nat))
    rw [World.size_alloc] at this
    exact this
  generalize ((w.alloc (.cells #[.pointer (some ⟨p, 0, none⟩)] 25)).alloc (.cells #[.int .u64 (u : Nat)] 22)).drew = w1 at *
  have k0 := bp.cell
  have k1 := bu.cell
  clear hm1 hm2 hm3 c0
  gi_wp2
  refine ⟨trivial, (callsIn_wide.2 (until_any p u _)).mono ?_⟩
  rintro e w' ⟨rfl, rfl⟩
  gi_wp2
  have HI : Hid (Dg w.heap.size p A t u w [] [] l m (inK t l) ((((w1.alloc (.cells #[.slice none 0 0] 38)).alloc (.cells #[.slice none 0 0] 38)).alloc (.cells #[.pointer (some ⟨p, 0, none⟩)] 25)).alloc (.cells #[.int .u64 (u : Nat)] 22))) := Lib.hid (by
    have x1 := Boxed.new w1 38 (.slice none 0 0)
    have q1 := Only.alloc [] w1 (.cells #[.slice none 0 0] 38)
    have z1 : (w1.alloc (.cells #[.slice none 0 0] 38)).heap.size = w.heap.size + 3 := by rw [World.size_alloc, hsz1]
    rw [hsz1] at x1
    generalize w1.alloc (.cells #[.slice none 0 0] 38) = w2 at *
    have x2 := Boxed.new w2 38 (.slice none 0 0)
    have x1' := x1.alloc (.cells #[.slice none 0 0] 38)
    have q2 := Only.alloc [] w2 (.cells #[.slice none 0 0] 38)
    have z2 : (w2.alloc (.cells #[.slice none 0 0] 38)).heap.size = w.heap.size + 4 := by rw [World.size_alloc, z1]
    rw [z1] at x2
    generalize w2.alloc (.cells #[.slice none 0 0] 38) = w3 at *
    have b4 := Boxed.new w3 25 (.pointer (some ⟨p, 0, none⟩))
    rw [z2] at b4
    have q3 := Only.alloc [] w3 (.cells #[.pointer (some ⟨p, 0, none⟩)] 25)
    have z3 : (w3.alloc (.cells #[.pointer (some ⟨p, 0, none⟩)] 25)).heap.size = w.heap.size + 5 := by rw [World.size_alloc, z2]
    have x13 := x1'.alloc (.cells #[.pointer (some ⟨p, 0, none⟩)] 25)
    have x23 := x2.alloc (.cells #[.pointer (some ⟨p, 0, none⟩)] 25)
    generalize w3.alloc (.cells #[.pointer (some ⟨p, 0, none⟩)] 25) = w4 at *
    have b5 := Boxed.new w4 22 (.int .u64 (u : Nat))
    rw [z3] at b5
    have q4 := Only.alloc [] w4 (.cells #[.int .u64 (u : Nat)] 22)
    have qq := ((q1.trans q2).trans q3).trans q4
    exact ⟨(qq.block _ bp.lt (by simp)).trans bp, (qq.block _ bu.lt (by simp)).trans bu, b4.alloc _, b5, ⟨_, _, x13.alloc _, x23.alloc _, World.ownsRow_nil _ _ _ _, World.ownsRow_nil _ _ _ _, fun k hk => by simp [Value.ownBlock] at hk, by simp, by simp⟩, HW.out.quiet (o1.trans qq), fun x hx => HW.out.blk_lt hx, (o1.trans qq).mono (by simp)⟩)
  have hsz : ((((w1.alloc (.cells #[.slice none 0 0] 38)).alloc (.cells #[.slice none 0 0] 38)).alloc (.cells #[.pointer (some ⟨p, 0, none⟩)] 25)).alloc (.cells #[.int .u64 (u : Nat)] 22)).heap.size = w.heap.size + 6 := by simp [hsz1]
  clear k0 k1 bp bu o1
  generalize ((((w1.alloc (.cells #[.slice none 0 0] 38)).alloc (.cells #[.slice none 0 0] 38)).alloc (.cells #[.pointer (some ⟨p, 0, none⟩)] 25)).alloc (.cells #[.int .u64 (u : Nat)] 22)) = W0 at *
  have HSZ := Lib.hid hsz
  clear hsz
  have hu63 : u < 2 ^ 63 := by omega
  have hK168 : pl t u < 168 := pl_lt ht hu63
  refine range_told (α := Nat) (encs := encK p) (F := Fence.wide) (n := 7) rfl (by decide) (gf := 32) (lb := #[.pointer (some ⟨w.heap.size + 4, 0, none⟩), .pointer (some ⟨w.heap.size + 5, 0, none⟩)]) rfl trivial ?h2 (fun _ => rfl)
    (I := fun pre W => ∃ s : List DuT × List DuT, (s.1.Perm (dueV t u pre l) ∧ s.2.Perm (latV t u pre l)) ∧ Dg w.heap.size p A t u w s.1 s.2 (allV t u pre l) (mV m pre) (LV t l pre) W) (Ix := fun _ _ => False) ?own (fun _ _ _ _ h _ _ => h)
    ⟨([], []), ⟨by rw [dueV_nil], by rw [latV_nil]⟩, by rw [allV_nil]; exact HI.out⟩
    (until_tells 6 (by omega) _ _ p t u ht hu63 (fullOf (inK t l)) _ _ ?shows)
    (fun x => { tmps := #[.pointer (some ⟨p, 0, none⟩), .int .u64 (a : Nat), .pointer (some ⟨w.heap.size, 0, none⟩), .pointer (some ⟨w.heap.size + 1, 0, none⟩), .slice none 0 0, .pointer (some ⟨w.heap.size + 2, 0, none⟩), .pointer (some ⟨w.heap.size + 3, 0, none⟩), .pointer (some ⟨p, 2 + x, none⟩), undef, undef, undef, .int .u64 (a : Nat), .bool (decide ((4611686018427387904 : Int) < (a : Int))), .int .u64 (a : Nat), .pointer (some ⟨p, 0, none⟩), .pointer (some ⟨p, 0, none⟩), .pointer (some ⟨p, 0, none⟩), .int .u64 (t : Nat), .int .u64 (u : Nat), .pointer (some ⟨p, 0, none⟩), .int .u64 (u : Nat), .func (.func 32) #[] #[.pointer (some ⟨w.heap.size + 4, 0, none⟩), .pointer (some ⟨w.heap.size + 5, 0, none⟩)], .pointer (some ⟨p, 2 + x, none⟩), undef, undef, undef, undef, undef, undef, undef, undef, undef, undef, undef, undef, undef, undef, undef, undef, undef, undef, undef, undef, undef, undef, undef, undef, undef, undef, undef, undef, undef, undef, undef, undef, undef, undef, undef, undef, undef, undef, undef, undef, undef, undef], defers := [] }) ?assign ?body ?done ?stop
  case h2 => exact enters_of Try.func32 (by kernel_rfl) rfl
  case own =>
    intro pre X X' row hs hg hr
    obtain ⟨s, h⟩ := hs
    exact ⟨s, Dg.own (β := Unit) w.heap.size p A t u w (fun _ => s.1) (fun _ => s.2) (fun _ => allV t u pre l) (fun _ => mV m pre) (fun _ => LV t l pre) (fun _ => s.1.Perm (dueV t u pre l) ∧ s.2.Perm (latV t u pre l)) rfl W0.heap.size (by have := HSZ.out; omega) () X X' row h hg hr⟩
  case shows =>
    rintro k X hk ⟨s, _, hD⟩
    refine ⟨⟨hD.ip.lt, hD.ip.cell⟩, ⟨hD.iu.lt, hD.iu.cell⟩, hD.wh.shows (by omega) ?_⟩
    unfold fullOf LV
    rw [if_neg (fun hx => by have := (fulls_mem.1 hx).1; omega)]
  case assign =>
    intro lb x W K hK
    dsimp only [encK]
    gi_wp2
    exact hK
  case stop => exact fun _ _ _ _ _ h _ => h.elim
  case done =>
    rintro D xs W hD hxs ⟨⟨ds, ls⟩, ⟨hds, hls⟩, hDg⟩ hK
    subst hxs
    rw [due_all HF.out hu63] at hds
    rw [lat_all] at hls
    rw [all_all HF.out hu63] at hDg
    simp only at hds hls hDg
    obtain ⟨v, z, hT⟩ := hDg.two
    have hD6 : w.heap.size + 6 ≤ D := by have := HSZ.out; omega
    obtain ⟨aa, cz, rfl⟩ : ∃ aa cz, z = .slice aa ls.length cz := by
      rcases hT.r2.2 with ⟨e, e2⟩ | ⟨g, cap, cur, e, _⟩
      · rw [e2]; exact ⟨_, _, e⟩
      · exact ⟨_, _, e⟩
    have hWs := hDg.only.size
    have hW6 := hDg.iu.lt
    have hDW := (Array.getElem?_eq_some_iff.1 hK).1
    have hlsl : ls.length ≤ 1000 := by rw [hls.length_eq]; exact (HF.out.fit.filter _).len
    have bpc := hDg.bp.cell
    have buc := hDg.bu.cell
    have zc := hT.x2.cell
    have q0 := hDg.wh.c0
    have qf := hDg.wh.fz 0
    have hpl4 := hDg.wh.lt
    have hp0 := hDg.low p (mem_blks.2 (Or.inl rfl))
    have HDG := Lib.hid hDg
    have HT := Lib.hid hT
    have HPP := Lib.hid (And.intro hds hls)
    have HK := Lib.hid hK
    clear hDg hT hds hls hK
    gi_wp2
    have oT : Only [p] W (W.setCell ⟨p, 0, none⟩ (.int .u64 (u : Nat))) := Only.setCell W (by simp) _ _
    have hvM : ∀ g, v.ownBlock = some g → g < W.heap.size := fun g e => (HT.out.r1.lt g e).2
    have hzM : ∀ g, (Value.slice aa ls.length cz).ownBlock = some g → g < W.heap.size := fun g e => (HT.out.r2.lt g e).2
    have HPU : Hid (Pu w.heap.size p A t u W.heap.size D w m v (.slice aa ls.length cz) ds ls l 0 (W.setCell ⟨p, 0, none⟩ (.int .u64 (u : Nat)))) := Lib.hid ⟨(oT.block _ HDG.out.bp.lt (by simp; omega)).trans HDG.out.bp, HT.out.sep oT (M := W.heap.size) (by simp; omega) (by omega) (by omega) hvM hzM,
      ⟨_, _, HDG.out.wh.setT u, fun k hk => by rw [List.take_zero, ← put_zero HF.out hu63 htu], fun x hx => Or.inl (by
        rcases mem_blks.1 hx with e | e | ⟨k, hk, e⟩
        · exact mem_blks.2 (Or.inl e)
        · exact mem_blks.2 (Or.inr (Or.inl e))
        · refine mem_blks.2 (Or.inr (Or.inr ⟨k, hk, ?_⟩))
          unfold mV at e
          split at e
          · cases e
          · exact e)⟩,
      (HDG.out.only.mono (fun x hx => by
        simp at hx
        rcases hx with rfl | rfl
        · exact mem_blks.2 (Or.inl rfl)
        · exact mem_blks.2 (Or.inr (Or.inl rfl)))).trans (oT.mono (by simp; exact mem_blks.2 (Or.inl rfl))),
      (oT.block _ (Array.getElem?_eq_some_iff.1 HK.out).1 (by simp; omega)).trans HK.out, oT.size⟩
    clear oT zc q0 qf bpc buc hpl4
    generalize W.setCell ⟨p, 0, none⟩ (.int .u64 (u : Nat)) = W1 at *
    gi_loopw [54] (fun c wr => ∃ i : Nat, c = .int .i64 i ∧ i ≤ ls.length ∧ Hid (Pu w.heap.size p A t u W.heap.size D w m v (.slice aa ls.length cz) ds ls l i wr)) (fun c _ => ls.length - (intOf c).toNat)
    case atStart => exact ⟨0, rfl, Nat.zero_le _, HPU⟩
    case round =>
      obtain ⟨i, rfl, hi, hpu⟩ := hrel
      clear HPU
      by_cases hil : i < ls.length
      · obtain ⟨x, hx⟩ : ∃ x, ls[i]? = some x := ⟨ls[i], List.getElem?_eq_getElem hil⟩
        have hpo := hpu.out
        obtain ⟨g, rfl⟩ : ∃ g, aa = some ⟨g, 0, none⟩ := by
          rcases hpo.two.r2.2 with ⟨_, e⟩ | ⟨g, cap, cur, e, _⟩
          · omega
          · injection e with e; exact ⟨g, e⟩
        obtain ⟨hR, _, _⟩ := owned_row hpo.two.r2
        obtain ⟨e0, e1⟩ := hR.cell i x hx
        have hgl := hR.lt
        have hbp := hpo.bp.cell
        have hbl := hpo.bp.lt
        have hws := hpo.sz
        have HX := Lib.hid hx
        clear hpo hR hx
        gi_wp2
        have hpa := hpu.out.alloc (.cells #[.int .i64 (x.1 : Nat), .int .u64 (x.2 : Nat)] 42)
        clear hpu e0 e1 hbp
        generalize wr.alloc (.cells #[.int .i64 (x.1 : Nat), .int .u64 (x.2 : Nat)] 42) = w5 at *
        obtain ⟨m', L, h1, h2, h3⟩ := hpa.wh
        have hFL := fit_later HF.out hu63 HPP.out.2
        obtain ⟨pn, pf, ph⟩ := (fun k => put_next hFL HX.out k) (pl u x.2)
        have hxl := (HPP.out.2.mem_iff.1 (List.mem_of_getElem? HX.out))
        have hxl2 := (List.mem_filter.1 hxl).1
        have hx9 := HF.out.ids x hxl2
        have hx6 := HF.out.ats x hxl2
        have hk8 : pl u x.2 < 168 := pl_lt hu63 (by omega)
        have pL := h2 _ hk8
        have hfL : Fit (L (pl u x.2)) := pf.perm pL.symm
        have hnL : has x.1 (L (pl u x.2)) = false := by
          cases e : has x.1 (L (pl u x.2)) with
          | false => rfl
          | true =>
            obtain ⟨y, hy, e2⟩ := has_iff.1 e
            have := has_iff.2 ⟨y, pL.mem_iff.1 hy, e2⟩
            rw [ph] at this; cases this
        refine ⟨trivial, (callsIn_wide.2 (put_any w5 p A u _ m' L x h1 hu63 (by omega) hx9 hfL hnL (room hfL hx9 hnL))).mono ?_⟩
        rintro e w6 ⟨rfl, m2, h4, h5, h6⟩
        gi_wp2
        have hsep : ∀ y ∈ blks p A m', y < w.heap.size ∨ W.heap.size ≤ y := fun y hy => (h3 y hy).imp (fun e => HW.out.blk_lt e) id
        go_roundw
        case rel =>
          refine ⟨i + 1, by push_cast; rfl, by omega, Lib.hid ⟨(h5.block _ hpa.bp.lt (fun e => by have := hsep _ e; omega)).trans hpa.bp, hpa.two.sep h5 hsep (by omega) (by omega) hvM hzM, ⟨m2, _, h4, fun k hk => ?_, fun y hy => ?_⟩, ?_, ?_, Nat.le_trans hpa.sz h5.size⟩⟩
          · refine List.Perm.trans ?_ (put_next hFL HX.out k).1
            by_cases e : k = pl u x.2
            · subst e; rw [updL_at, updL_at]; exact pL.cons x
            · rw [updL_of _ e, updL_of _ e]; exact h2 k hk
          · rcases h6 y hy with h | h
            · exact h3 y h
            · exact Or.inr (Nat.le_trans hpa.sz h)
          · refine ⟨h5.os.trans hpa.only.os, h5.tape.trans hpa.only.tape, h5.output.trans hpa.only.output, Nat.le_trans hpa.only.size h5.size, fun k hk hn => ?_⟩
            refine (h5.block k (Nat.lt_of_lt_of_le hk hpa.only.size) (fun e => ?_)).trans (hpa.only.block k hk hn)
            rcases h3 k e with h | h
            · exact hn h
            · omega
          · refine (h5.block D (Array.getElem?_eq_some_iff.1 hpa.df).1 (fun e => ?_)).trans hpa.df
            have := hsep D e
            omega
        case measure => simp only [intOf]; omega
      · obtain rfl : i = ls.length := by omega
        have hpo := hpu.out
        have hvc := hpo.two.x1.cell
        have HS := Lib.hid (sort_row w.heap.size v ds wr hpo.two.r1 (by rw [HPP.out.1.length_eq]; exact (HF.out.fit.filter _).len) hpo.two.n1)
        clear hpo
        gi_wp2
        refine ⟨trivial, (callsIn_wide.2 HS.out).mono ?_⟩
        rintro e w6 ⟨rfl, ys, hp, hs, hR, hO⟩
        have hpo := hpu.out
        have hvo : ∀ y ∈ v.ownBlock.toList, w.heap.size ≤ y ∧ y < W.heap.size := fun y hy => by
          have e : v.ownBlock = some y := by simpa using hy
          exact ⟨(hpo.two.r1.lt y e).1, hvM y e⟩
        have hx6 : Boxed w6 (w.heap.size + 2) 38 v := (hO.block _ hpo.two.x1.lt (fun e => hpo.two.x1.not_row (by decide) hpo.two.r1 (by simpa using (Option.mem_toList.1 e).symm))).trans hpo.two.x1
        have hvc6 := hx6.cell
        have hyo : ys = out u l := sorted_one (hp.trans HPP.out.1) hs (srt_filter HF.out.srt _)
        subst hyo
        have HR := Lib.hid hR
        have HO := Lib.hid hO
        have HVO := Lib.hid hvo
        have hdf := (hO.block D (Array.getElem?_eq_some_iff.1 hpo.df).1 (fun e => by
          obtain ⟨o, ho, hc⟩ := row_cells hpo.two.r1 (Option.mem_toList.1 e)
          rw [hpo.df] at ho
          cases ho
          cases hc)).trans hpo.df
        clear hpo hp hs hR hO hvo hvc
        gi_wp2
        refine ⟨by simp, .inl ⟨_, _, rfl, run_takeDeferred hdf, ?_⟩⟩
        have oD := turn_only (grownBy_putObj' w6 D (.deferred none))
        have hpo := hpu.out
        obtain ⟨m', L, h1, h2, h3⟩ := hpo.wh
        have nD : ∀ y, y < w.heap.size ∨ W.heap.size ≤ y → y ∉ (some D).toList := fun y hy e => by
          have : y = D := by simpa using e
          omega
        have nV : ∀ y, y < w.heap.size ∨ W.heap.size ≤ y → y ∉ v.ownBlock.toList := fun y hy e => by
          have := HVO.out y e
          omega
        have hsep : ∀ y ∈ blks p A m', y < w.heap.size ∨ W.heap.size ≤ y := fun y hy => (h3 y hy).imp (fun e => HW.out.blk_lt e) id
        have hfin := HF.out.adv u
        rw [show advT t u = u by unfold advT; rw [if_pos hu]; omega, show advL t u l = rst u l by unfold advL; rw [if_pos hu, show max t u = u by omega]] at hfin
        have hW7 : Wx (w6.putObj D (.deferred none)) p A u (rst u l) m' (inK u (rst u l)) := ((h1.kept HO.out (fun y hy => nV y (hsep y hy))).kept oD (fun y hy => nD y (hsep y hy))).perm (List.Perm.refl _) (fun k hk => by
          have := h2 k hk
          rw [List.take_length] at this
          exact this.trans (put_all HF.out hu63 HPP.out.2 k))
        refine ⟨_, results_tmp rfl _ _ _, v, rfl, blks p A m', ⟨⟨A, m', rfl, hW7, hfin⟩, ?_⟩, ?_, fun y hy => (h3 y hy).imp id (fun e => Nat.le_trans hWs e)⟩
        · rcases HR.out with ⟨rfl, e⟩ | ⟨g, cap, rfl, hg, hgl, hH⟩
          · rw [e]
            exact ⟨none, 0, rfl, fun _ => rfl, fun h => absurd h (by simp)⟩
          · have hgM := (HVO.out g (by simp [Value.ownBlock])).2
            refine ⟨_, cap, rfl, fun h => (by cases h), fun _ => ⟨g, 0, rfl, hg, fun e => by have := hsep g e; omega, by simpa using hgl, fun i x hx => ?_⟩⟩
            have hi := (List.getElem?_eq_some_iff.1 hx).1
            have k0 := (hH.cell (i := i) (c := 0) (by simpa using hi) (by omega)).1
            have k1 := (hH.cell (i := i) (c := 1) (by simpa using hi) (by omega)).1
            have e1 : ((out u l).toArray)[i]! = x := by simp [hi, (List.getElem?_eq_some_iff.1 hx).2]
            rw [e1] at k0 k1
            have nd : g ∉ (some D).toList := fun e => by
              have : g = D := by simpa using e
              subst this
              rw [World.cell?, hdf] at k0
              cases k0
            refine ⟨(oD.cell hgl nd _).trans ?_, (oD.cell hgl nd _).trans ?_⟩
            · exact k0
            · exact k1
        · refine ⟨oD.os.trans (HO.out.os.trans hpo.only.os), oD.tape.trans (HO.out.tape.trans hpo.only.tape), oD.output.trans (HO.out.output.trans hpo.only.output), Nat.le_trans hpo.only.size (Nat.le_trans HO.out.size oD.size), fun k hk hn => ?_⟩
          have z1 := hpo.only.size
          have z2 := HO.out.size
          exact (oD.block k (by omega) (nD k (Or.inl hk))).trans ((HO.out.block k (by omega) (nV k (Or.inl hk))).trans (hpo.only.block k hk hn))
  case body =>
    rintro lb pre k W hlb ⟨rec, hrec⟩ ⟨⟨ds, ls⟩, ⟨hds, hls⟩, hD⟩ ⟨hk, hfk, hpre⟩
    simp only at hds hls hD
    have hknot : k ∉ pre := fun hx => by rw [hpre] at hx; have := (fulls_mem.1 hx).1; omega
    have hfull : fullOf (LV t l pre) k = true := by unfold fullOf LV; rw [if_neg hknot]; exact hfk
    have hk168 : k < 168 := by omega
    obtain ⟨b, hmb, hM⟩ := hD.wh.full_map hk168 hfull
    have hLk : LV t l pre k = inK t l k := by unfold LV; rw [if_neg hknot]
    rw [hLk] at hM
    have hc := hD.wh.ck k hk168
    rw [hmb] at hc
    have hpw := hD.wh.lt
    have HD := Lib.hid hD
    have HP := Lib.hid (And.intro hds hls)
    have HM := Lib.hid (And.intro hmb hM)
    have HPR := Lib.hid hpre
    clear hD hds hls hmb hM hpre
    gi_wp2
    refine ⟨trivial, (callsIn_wide.2 (timers_any _ _)).mono ?_⟩
    rintro e W1 ⟨rfl, rfl⟩
    gi_wp2
    have hHMB := Lay.new W 57 [.map (some b)]
    have HWb := Lib.hid (show (W.alloc (.cells #[.map (some b)] 57)).heap.size = W.heap.size + 1 from World.size_alloc _ _)
    have hrecb : (W.alloc (.cells #[.map (some b)] 57)).heap[lb]? = some (.loop rec) := (Below.heap_alloc W _ lb (Array.getElem?_eq_some_iff.1 hrec).1).trans hrec
    have hDb := HD.out.later rfl (.cells #[.map (some b)] 57)
    have hMb := HM.out.2.kept (Only.alloc [] W (.cells #[.map (some b)] 57)) (by simp)
    have hKb := (KeepsOthers.alloc W (.cells #[.map (some b)] 57)).from W0.heap.size
    have hlenW : W0.heap.size ≤ W.heap.size := by have := (Array.getElem?_eq_some_iff.1 hrec).1; omega
    have hmb2 : b < w.heap.size ∧ b ≠ A := ⟨HD.out.low b (mem_blks.2 (Or.inr (Or.inr ⟨k, hk168, HM.out.1⟩))), HD.out.wh.neAk hk168 HM.out.1⟩
    have hlen : (inK t l k).length ≤ 1000 := (HF.out.fit.filter _).len
    change Lay (W.alloc (.cells #[.map (some b)] 57)) _ _ _ at hHMB
    generalize (W.alloc (.cells #[.map (some b)] 57)) = Wb at *
    refine wpIn_rangeFunc_ownN (α := { x : DuT // x ∈ inK t l k }) (F := Fence.wide.inRound lb) (n := 5) (l₀ := lb) (r₀ := rec) rfl hrecb (by decide) (gf := 33) (lb := #[.pointer (some ⟨W.heap.size, 0, none⟩)]) rfl trivial ?i2
      (timers_subs 4 (by omega) W.heap.size b (inK t l k) Wb hHMB.lt (hHMB.cell 0) hMb) (fun h k => h.trans k) (fun W l o o' _ h _ hw => Kw.putObj W l o o' h hw) (Below.refl _ _) (fun _ => rfl)
      (fun xs W' => KeepsFrom W0.heap.size W W' ∧ Dg w.heap.size p A t u w (ds ++ (xs.map (·.1)).filter (fun x => decide (x.2 ≤ u))) (ls ++ (xs.map (·.1)).filter (fun x => !decide (x.2 ≤ u))) (gone u (xs.map (·.1)) (allV t u pre l)) (mV m pre) (LV t l pre) W') (fun _ _ _ => False) ?iown (fun _ _ _ _ _ h _ _ => h) ?istart
      (fun x a' W' => ∃ Bx, W.heap.size ≤ Bx ∧ Lay W' Bx 42 (encD x.1) ∧ (∀ v, W'.cell? ⟨w.heap.size + 2, 0, none⟩ = some v → v.ownBlock ≠ some Bx) ∧ a' = { tmps := #[.pointer (some ⟨p, 0, none⟩), .int .u64 (a : Nat), .pointer (some ⟨w.heap.size, 0, none⟩), .pointer (some ⟨w.heap.size + 1, 0, none⟩), .slice none 0 0, .pointer (some ⟨w.heap.size + 2, 0, none⟩), .pointer (some ⟨w.heap.size + 3, 0, none⟩), .pointer (some ⟨p, 2 + k, none⟩), .pointer (some ⟨Bx, 0, none⟩), undef, undef, .int .u64 (a : Nat), .bool (decide ((4611686018427387904 : Int) < (a : Int))), .int .u64 (a : Nat), .pointer (some ⟨p, 0, none⟩), .pointer (some ⟨p, 0, none⟩), .pointer (some ⟨p, 0, none⟩), .int .u64 (t : Nat), .int .u64 (u : Nat), .pointer (some ⟨p, 0, none⟩), .int .u64 (u : Nat), .func (.func 32) #[] #[.pointer (some ⟨w.heap.size + 4, 0, none⟩), .pointer (some ⟨w.heap.size + 5, 0, none⟩)], .pointer (some ⟨p, 2 + k, none⟩), .pointer (some ⟨p, 2 + k, none⟩), .pointer (some ⟨p, 2 + k, none⟩), .map (some b), .func (.func 33) #[] #[.pointer (some ⟨W.heap.size, 0, none⟩)], dV x.1, undef, undef, undef, undef, undef, undef, undef, undef, undef, undef, undef, undef, undef, undef, undef, undef, undef, undef, undef, undef, undef, undef, undef, undef, undef, undef, undef, undef, undef, undef, undef, undef, undef, undef, undef, undef, undef], defers := [] }) ?iax ?iassign ?ibody ?idone ?istop
    case i2 => exact enters_of Try.func33 (by kernel_rfl) rfl
    case istop => exact fun _ _ _ _ h => h.elim
    case istart => exact ⟨hKb, by simpa [gone_nil] using hDb⟩
    case iown =>
      exact OwnFrom.and (ownFrom_keepsFrom (by have := HWb.out; omega)) (Dg.own1 w.heap.size p A t u w _ _ _ _ _ rfl _ (by have := HWb.out; have := HSZ.out; omega))
    case iax =>
      rintro x a' s X Y row ⟨Bx, h1, h2, hq, h3⟩ hg hr
      refine ⟨Bx, h1, lay_own (β := Unit) Bx _ _ () X Y row h2 hg (fun r e => (hr r e).2), fun v hv => hq v ?_, h3⟩
      rw [← hv]
      refine ((turn_only hg).cell ?_ (turn_not hr ?_) 0).symm
      · have := h2.lt; have := HSZ.out; omega
      · have := HWb.out; have := HSZ.out; omega
    case iassign =>
      rintro l2 pre2 x W2 K ⟨hk2, hD2⟩ hK
      dsimp only [encV]
      have hfresh : ∀ v, (W2.alloc (.cells #[.int .i64 (x.1.1 : Nat), .int .u64 (x.1.2 : Nat)] 42)).cell? ⟨w.heap.size + 2, 0, none⟩ = some v → v.ownBlock ≠ some W2.heap.size := fun v hv e => by
        obtain ⟨v1, z1, ht⟩ := hD2.two
        rw [(Only.alloc [] W2 _).cell ht.x1.lt (by simp), ht.x1.cell] at hv
        injection hv with hv
        subst hv
        have := (ht.r1.lt _ e).2
        omega
      have HFR := Lib.hid hfresh
      clear hfresh
      gi_wp2
      have hfresh := HFR.out
      exact hK _ _ ((KeepsOthers.alloc _ _).from _) (Kw.of_walks (KeepsOthers.alloc _ _).walks) ⟨hk2.trans ((KeepsOthers.alloc _ _).from _), hD2.later rfl _⟩ ⟨W2.heap.size, hk2.size, Lay.new W2 42 (encD x.1), hfresh, rfl⟩
    case ibody =>
      rintro l2 pre2 x a' W3 hl2 _ ⟨hk3, hD3⟩ ⟨Bx, hBx, hLx, hfx, rfl⟩ hlt2
      obtain ⟨⟨v, z, hT⟩, hD3⟩ : Two w.heap.size (w.heap.size + 2) (w.heap.size + 3) _ _ W3 ∧ _ := ⟨hD3.two, hD3⟩
      obtain ⟨i0, hi, hz0, hz1, hz2⟩ := info_parts infoDueT
      have hle1 : (ls ++ (pre2.map (·.1)).filter (fun x => !decide (x.2 ≤ u))).length ≤ 2000 := by
        have h1 := List.length_filter_le (fun x : DuT => !decide (x.2 ≤ u)) (pre2.map (·.1))
        have h2 : ls.length ≤ 1000 := by rw [HP.out.2.length_eq]; exact (HF.out.fit.filter _).len
        rw [List.length_append]
        simp only [List.length_map] at h1
        omega
      have hle2 : (ds ++ (pre2.map (·.1)).filter (fun x => decide (x.2 ≤ u))).length ≤ 2000 := by
        have h1 := List.length_filter_le (fun x : DuT => decide (x.2 ≤ u)) (pre2.map (·.1))
        have h2 : ds.length ≤ 1000 := by rw [HP.out.1.length_eq]; exact (HF.out.fit.filter _).len
        rw [List.length_append]
        simp only [List.length_map] at h1
        omega
      obtain ⟨LS, hLS⟩ : ∃ LS, ls ++ (pre2.map (·.1)).filter (fun x => !decide (x.2 ≤ u)) = LS := ⟨_, rfl⟩
      obtain ⟨DS, hDS⟩ : ∃ DS, ds ++ (pre2.map (·.1)).filter (fun x => decide (x.2 ≤ u)) = DS := ⟨_, rfl⟩
      rw [hLS] at hle1 hT hD3
      rw [hDS] at hle2 hT hD3
      have HLS := Lib.hid hLS
      have HDS := Lib.hid hDS
      clear hLS hDS
      have x0 := hLx.cell 0
      have x1 := hLx.cell 1
      simp only [encD, List.getElem?_cons_zero, List.getElem?_cons_succ] at x0 x1
      have b1c := hD3.bu.cell
      have bpc := hD3.bp.cell
      have cA := hD3.wh.c1
      have hpl3 := hD3.wh.lt
      have hbl := hLx.lt
      have hw3 : w.heap.size ≤ W3.heap.size := hD3.only.size
      by_cases hxu : x.1.2 ≤ u
      · have hxu2 : ¬ (u : Int) < (x.1.2 : Int) := by omega
        have vc := hT.x1.cell
        have hnb := hfx v vc
        have HFX := Lib.hid (And.intro hLx (And.intro hD3 hk3))
        clear hfx hLx hk3
        gi_wp2_with (gi_at_builtin; refine wpListIn_append_own_at _ rfl _ _ 38 rfl w.heap.size 42 i0 (dV (0, 0)) 2 16 Try.underlying38 hi hz0 hz1 hz2 rfl (by decide) _ _ _ rfl (hT.r1.alloc _) ⟨W3.heap.size, 0, none⟩ 1 1 (encD x.1) rfl rfl (World.news_of_block (cs := (encD x.1).toArray) (t := 42) (fr := (0, 0)) (heap_alloc_new W3 _)) (by simp [encD, Value.oneCell']) (by unfold maxLen; omega) (by omega) (by simp; omega) ?_; intro v' w1 hown' hgrow hnil' hat; obtain ⟨g', cap', rfl⟩ := ownsRow_succ hown'; obtain ⟨y1, y2, y3, y4, y5⟩ := hT.app hw3 (by omega) (by omega) hown' hgrow hat (by simp); have hc1 := y1.cell; have hf1 := y1.frozen)
        have hD4 := HFX.out.2.1.step rfl ⟨_, _, y2⟩ y4 (fun b t u ht h2 _ hx => y5 b t u ht h2 hx)
        have hL4 : Lay (w1.setCell ⟨w.heap.size + 2, 0, none⟩ (.slice (some ⟨g', 0, none⟩) (DS.length + 1) cap')) Bx 42 (encD x.1) := by
          have q1 : Lay (W3.alloc (.cells #[.int .i64 (x.1.1 : Nat), .int .u64 (x.1.2 : Nat)] 42)) Bx 42 (encD x.1) := HFX.out.1.kept (Only.alloc [] W3 _) (by simp)
          have q2 : Lay w1 Bx 42 (encD x.1) := (hgrow.block Bx q1.lt (fun e => hnb e.symm)).trans q1
          exact q2.kept (Only.setCell (S := [w.heap.size + 2]) w1 (by simp) _ _) (by simp; have := HSZ.out; omega)
        have hK4 := Lib.hid y3
        have hk3' := HFX.out.2.2
        clear hown' hgrow hnil' hat y1 y2 y3 y4 y5 hc1 hf1 hD3 hT x0 x1 b1c bpc cA
        generalize (w1.setCell ⟨w.heap.size + 2, 0, none⟩ (.slice (some ⟨g', 0, none⟩) (DS.length + 1) cap')) = W4 at *
        have x0 := hL4.cell 0
        simp only [encD, List.getElem?_cons_zero] at x0
        have bpc := hD4.bp.cell
        have cA := hD4.wh.c1
        have hpl4 := hD4.wh.lt
        have hbl4 := hL4.lt
        have hfit : Fit (gone u (pre2.map (·.1)) (allV t u pre l)) := (HF.out.fit.filter _).filter _
        have hx9 := HF.out.ids x.1 (List.mem_filter.1 x.2).1
        obtain ⟨w5, hrun, hm5, hg5⟩ := (show Mp W4.drew A (gone u (pre2.map (·.1)) (allV t u pre l)) from hD4.wh.all.kept (Only.drewN [] W4 1) (by simp)).cut hfit (wf_nat hx9)
        have HD4 := Lib.hid hD4
        have HG5 := Lib.hid (And.intro hm5 hg5)
        have HK3 := Lib.hid hk3'
        have HXU := Lib.hid hxu
        clear hD4 hL4 hm5 hg5 hk3' hfit hxu hxu2 vc
        have hAlt : A < w.heap.size := HD4.out.low A (mem_blks.2 (Or.inr (Or.inl rfl)))
        gi_region
        all_goals
          gi_wp2
          have hAW : A < W0.heap.size := by have := HSZ.out; omega
          have hAWb : A < Wb.heap.size := by have := HWb.out; omega
          refine ⟨(hK4.out.from _).trans (keeps_A HG5.out.2 hAWb), (Kw.of_walks hK4.out.walks).trans (kw_A HG5.out.2 hAWb hmb2.2), HK3.out.trans ((hK4.out.from _).trans (keeps_A HG5.out.2 hAW)), ?_⟩
          have hyes : decide (x.1.2 ≤ u) = true := decide_eq_true HXU.out
          rw [List.map_append, List.map_singleton, filt_yes (x := x.1) hyes, filt_no (x := x.1) (by simp [hyes]), gone_due (x := x.1) HXU.out, ← List.append_assoc, HLS.out, HDS.out]
          exact HD4.out.drew.cut HG5.out.2 HG5.out.1
      · have hxu2 : (u : Int) < (x.1.2 : Int) := by omega
        have zc := hT.x2.cell
        gi_wp2_with (gi_at_builtin; refine wpListIn_append_own_at _ rfl _ _ 38 rfl w.heap.size 42 i0 (dV (0, 0)) 2 16 Try.underlying38 hi hz0 hz1 hz2 rfl (by decide) _ _ _ rfl (hT.r2.alloc _) ⟨W3.heap.size, 0, none⟩ 1 1 (encD x.1) rfl rfl (World.news_of_block (cs := (encD x.1).toArray) (t := 42) (fr := (0, 0)) (heap_alloc_new W3 _)) (by simp [encD, Value.oneCell']) (by unfold maxLen; omega) (by omega) (by simp; omega) ?_; intro v' w1 hown' hgrow hnil' hat; obtain ⟨g', cap', rfl⟩ := ownsRow_succ hown'; obtain ⟨y1, y2, y3, y4, y5⟩ := hT.swap.app hw3 (by omega) (by omega) hown' hgrow hat (by simp); have hc1 := y1.cell; have hf1 := y1.frozen)
        refine ⟨y3.from _, Kw.of_walks y3.walks, hk3.trans (y3.from _), ?_⟩
        have hno : decide (x.1.2 ≤ u) = false := decide_eq_false hxu
        rw [List.map_append, List.map_singleton, filt_no (x := x.1) hno, filt_yes (x := x.1) (by simp [hno]), gone_later (x := x.1) (by omega), ← List.append_assoc, HLS.out, HDS.out]
        exact hD3.step rfl ⟨_, _, y2.swap⟩ y4 (fun b t u ht _ h3 hx => y5 b t u ht h3 hx)
    case idone =>
      rintro xs W5 hxs ⟨hk5, hD5⟩
      have hfz := hD5.wh.fz (2 + k)
      have hpl5 := hD5.wh.lt
      have hc5 := hD5.wh.ck k hk168
      have HD5 := Lib.hid hD5
      have HK5 := Lib.hid hk5
      have HXS := Lib.hid hxs
      have hW5 := HK5.out.size
      clear hD5 hk5 hxs
      gi_wp2
      have oK : Only [p] W5 (W5.setCell ⟨p, 2 + k, none⟩ (.map none)) := Only.setCell W5 (by simp) _ _
      refine ⟨HK5.out.trans (oK.keeps (by simp; have := HSZ.out; omega)), ⟨_, _, ⟨due_snoc hknot HP.out.1 HXS.out, lat_snoc hknot HP.out.2 HXS.out⟩, ?_⟩⟩
      show Dg w.heap.size p A t u w _ _ (allV t u (pre ++ [k]) l) (mV m (pre ++ [k])) (LV t l (pre ++ [k])) _
      rw [← all_snoc HF.out.uni HXS.out, mV_snoc, LV_snoc]
      exact HD5.out.clear hk168
theorem tAdv (w : World) (p : Nat) (F : List Nat) (t : Nat) (l : List DuT) (a : Nat) (h : WhT w p F t l) (_ha : a < 18446744073709551616) : Calls Try.prog 15 #[.pointer (some ⟨p, 0, none⟩), .int .u64 (a : Nat)] w fun e w' => ∃ v, e = .returned v ∧ Grown F w w' fun F' => WhT w' p F' (advT t a) (advL t a l) ∧ Seen w.heap.size F' w' v (advO t a l) := by
  obtain ⟨A, m, rfl, hw, hf⟩ := h
  by_cases ha : a ≤ 4611686018427387904
  · rw [show advT t a = max t a by unfold advT; rw [if_pos ha], show advL t a l = rst (max t a) l by unfold advL; rw [if_pos ha], show advO t a l = out (max t a) l by unfold advO; rw [if_pos ha]]
    exact adv_any w p A t a l m hw hf ha
  · rw [show advT t a = t by unfold advT; rw [if_neg ha], show advL t a l = l by unfold advL; rw [if_neg ha], show advO t a l = [] by unfold advO; rw [if_neg ha]]
    refine (adv_no w p a (by omega)).mono ?_
    rintro e w' ⟨he, ho⟩
    exact ⟨_, he, _, ⟨⟨A, m, rfl, hw.quiet ho, hf⟩, ⟨none, 0, rfl, fun _ => rfl, fun h => absurd h (by simp)⟩⟩, ho.mono (by simp), fun x hx => Or.inl hx⟩
end Wh
end Go.Proofs.Ytddiapihopgpbaa
