/-
  A row of calls as it lies in a world; how one that comes in is opened; what the statements' Great answers of it. No condition.
-/
import Derived.Test.YtpnpcmclpmldmaaPhTold2
import Derived.ProofKit
import Derived.OpenShut
import Derived.ShutString
import Derived.ChangeOld
import Derived.Deep.Slices
import Derived.Deep.Modes
namespace Go.Proofs.Ytpnpcmclpmldmaa
open Go.ChangeShapes Go.WideShapes Go.ChangeAt Go.RowKit Go.Deep
namespace Ph
/-- Calls: what, which frame, the address, the value, the bytes. -/
structure Cs where
  wh : Nat → Int
  nn : Nat → Int
  ad : Nat → Nat
  vl : Nat → Int
  pa : Nat → Option Addr
  l : Nat → Nat
  cb : Nat → Nat
  y : Nat → Nat → Int
/-- One call lies in a block. -/
structure CallAt (B : Nat) (w : World) (b off : Nat) (x : Cs) (k : Nat) : Prop where
  c0 : w.cell? ⟨b, off + k * 5, none⟩ = some (.int .i64 (x.wh k))
  c1 : w.cell? ⟨b, off + k * 5 + 1, none⟩ = some (.int .i64 (x.nn k))
  c2 : w.cell? ⟨b, off + k * 5 + 2, none⟩ = some (.int .u32 (x.ad k))
  c3 : w.cell? ⟨b, off + k * 5 + 3, none⟩ = some (.int .u32 (x.vl k))
  c4 : w.cell? ⟨b, off + k * 5 + 4, none⟩ = some (.slice (x.pa k) (x.l k) (x.cb k))
  ad : x.ad k < 4294967296
  v0 : 0 ≤ x.vl k
  v1 : x.vl k < 4294967296
  few : x.l k ≤ reachBytes
  bts : RdB B w (x.pa k) (x.l k) (x.y k)
theorem CallAt.kept {B : Nat} {w w' : World} {b off k : Nat} {x : Cs} {S : List Nat} (h : CallAt B w b off x k) (ho : Only S w w') (hs : ∀ x ∈ S, B ≤ x) (hb : b < B) : CallAt B w' b off x k := by
  have hl := World.block_lt_of_cell? w _ h.c0
  have hn : b ∉ S := fun x => by have := hs _ x; omega
  exact ⟨(ho.cell hl hn _).trans h.c0, (ho.cell hl hn _).trans h.c1, (ho.cell hl hn _).trans h.c2, (ho.cell hl hn _).trans h.c3, (ho.cell hl hn _).trans h.c4, h.ad, h.v0, h.v1, h.few, h.bts.kept ho hs⟩
/-- A row of calls lies in old blocks. -/
def CallsIn (B : Nat) (w : World) (pa : Option Addr) (len : Nat) (x : Cs) : Prop := 0 < len → ∃ b off, pa = some ⟨b, off, none⟩ ∧ b < B ∧ ∀ k, k < len → CallAt B w b off x k
theorem CallsIn.kept {B : Nat} {w w' : World} {pa : Option Addr} {len : Nat} {x : Cs} {S : List Nat} (h : CallsIn B w pa len x) (ho : Only S w w') (hs : ∀ x ∈ S, B ≤ x) : CallsIn B w' pa len x := fun hn => by
  obtain ⟨b, off, e, hb, hc⟩ := h hn
  exact ⟨b, off, e, hb, fun k hk => (hc k hk).kept ho hs hb⟩
theorem CallAt.is {B : Nat} {w : World} {b off k : Nat} {x : Cs} (h : CallAt B w b off x k) (hf : x.l k ≤ 3000) : CallIs B w (x.ad k) (x.vl k) (x.pa k) (x.l k) (x.y k) := ⟨h.ad, h.v0, h.v1, hf, h.bts⟩
/-- Calls that are looked at. -/
def Small (len : Nat) (x : Cs) : Prop := len ≤ 60 ∧ ∀ k, k < len → x.l k ≤ 3000
/-- How Great ends. -/
def GreatEnd (len : Nat) (x : Cs) (w : World) (e : Ending) (w' : World) : Prop := ∃ g, e = .returned (.bool g) ∧ w = w' ∧ (g = false → Small len x)
theorem great_any (B : Nat) (pa : Option Addr) (len cap : Nat) (x : Cs) (w : World) (hc : CallsIn B w pa len x) (hl : len ≤ maxLen) :
    Calls Try.prog 9 #[.slice pa len cap] w (GreatEnd len x w) := by
  unfold maxLen at hl
  have HC := Lib.hid hc
  clear hc
  by_cases h60 : 60 < len
  · have d : decide ((60 : Int) < (len : Int)) = true := by simp; omega
    go_enter Try.func9, Try.ntmps9
    go_wp2
    go_ret
    exact ⟨true, rfl, rfl, fun h => by cases h⟩
  · have d : decide ((60 : Int) < (len : Int)) = false := by simp; omega
    go_enter Try.func9, Try.ntmps9
    go_wp2
    go_loop [3, 4] (fun s i => ∃ k t : Nat, k ≤ len ∧ i = .int .i64 k ∧ s = .int .i64 t ∧ t ≤ 3000 ∧ Hid (∀ j, j < k → x.l j ≤ 3000)) (fun _ i => len - (intOf i).toNat)
    case atStart => exact ⟨0, 0, by omega, rfl, rfl, by omega, fun j hj => absurd hj (Nat.not_lt_zero _)⟩
    case round =>
      obtain ⟨k, t, hk, rfl, rfl, ht, hH⟩ := hrel
      by_cases hlt : k < len
      · obtain ⟨b, off, epa, hb, hcc⟩ := HC.out (by omega)
        subst epa
        have c4 := (hcc k hlt).c4
        have hf := (hcc k hlt).few
        have hf' : x.l k ≤ 140737488351232 := hf
        clear hf
        clear hcc
        by_cases h3 : 3000 < t + x.l k
        · have d3 : decide ((3000 : Int) < (t : Int) + (x.l k : Int)) = true := by simp; omega
          go_wp2
          go_ret
          exact ⟨true, rfl, rfl, fun h => by cases h⟩
        · have d3 : decide ((3000 : Int) < (t : Int) + (x.l k : Int)) = false := by simp; omega
          go_wp2
          go_round
          case rel => exact ⟨k + 1, t + x.l k, by omega, by go_num, by go_num, by omega, fun j hj => by
            by_cases e : j = k
            · subst e; omega
            · exact hH.out j (by omega)⟩
          case measure => simp [intOf]; omega
      · go_wp2
        go_ret
        exact ⟨false, rfl, rfl, fun _ => ⟨by omega, fun j hj => hH.out j (by omega)⟩⟩
/-! ### A row of calls that comes in -/
theorem cellsInt : Try.prog.cellsOf 3 = 1 := by kernel_rfl
theorem cellsU32 : Try.prog.cellsOf 23 = 1 := by kernel_rfl
theorem cellsBs : Try.prog.cellsOf 34 = 1 := by kernel_rfl
theorem cellsCall : Try.prog.cellsOf 36 = 5 := by kernel_rfl
theorem take_one {l : List Value} {j : Nat} {v : Value} (h : (l.drop j).take 1 = [v]) : l[j]? = some v := by
  have := congrArg (·[0]?) h
  simpa [List.getElem?_take, List.getElem?_drop] using this
theorem trod_struct5 {H : Type} {enc : TypeId × Value → H} {w : World} {base : Nat} {spare : Nat → Bool} {held : Bool} {t : TypeId} {f0 f1 f2 f3 f4 : Field} {fuel : Nat} {cs : List Value} {x : DataW H × List MemPlace} (ht : Try.prog.underlying t = some (.struct #[f0, f1, f2, f3, f4])) (h : DataW.trod enc Try.prog w base spare held fuel t cs = some x) :
    ∃ y0 y1 y2 y3 y4 n, x.1 = .agg [y0.1, y1.1, y2.1, y3.1, y4.1] ∧ DataW.trod enc Try.prog w base spare held n f0.type ((cs.drop f0.offset).take (Try.prog.cellsOf f0.type)) = some y0 ∧
      DataW.trod enc Try.prog w base spare held n f1.type ((cs.drop f1.offset).take (Try.prog.cellsOf f1.type)) = some y1 ∧ DataW.trod enc Try.prog w base spare held n f2.type ((cs.drop f2.offset).take (Try.prog.cellsOf f2.type)) = some y2 ∧
      DataW.trod enc Try.prog w base spare held n f3.type ((cs.drop f3.offset).take (Try.prog.cellsOf f3.type)) = some y3 ∧ DataW.trod enc Try.prog w base spare held n f4.type ((cs.drop f4.offset).take (Try.prog.cellsOf f4.type)) = some y4 := by
  obtain ⟨xs, n, _, rfl, hl, hlen, hf⟩ := DataW.trod_struct ht h
  match xs, hlen with
  | [y0, y1, y2, y3, y4], _ => exact ⟨y0, y1, y2, y3, y4, n, by simp, by simpa using hf 0 f0 rfl, by simpa using hf 1 f1 rfl, by simpa using hf 2 f2 rfl, by simpa using hf 3 f3 rfl, by simpa using hf 4 f4 rfl⟩
theorem weightsAll_mem {H : Type} {P : Program} {e : TypeId} : ∀ {l : List (DataW H)} {d : DataW H}, d ∈ l → ∀ n ∈ d.weights P e, n ∈ DataW.weightsAll P e l
  | d' :: r, d, hd, n, hn => by
    simp only [DataW.weightsAll, List.mem_append]
    rcases List.mem_cons.1 hd with rfl | hd
    · exact Or.inl hn
    · exact Or.inr (weightsAll_mem hd n hn)
/-- Bytes that come in, read. -/
theorem bytes_trod {H : Type} {enc : TypeId × Value → H} {W : World} {base : Nat} {spare : Nat → Bool} {held : Bool} {fuel : Nat} {v : Value} {x : DataW H × List MemPlace} (h : DataW.trod enc Try.prog W base spare held fuel 34 [v] = some x) :
    ∃ pa l cb y, v = .slice pa l cb ∧ (l = 0 ∨ ∃ n ∈ x.1.weights Try.prog 34, l ≤ n) ∧ RdB W.heap.size W pa l y := by
  rcases open_ints Try.underlying34 Try.underlying5 (by kernel_rfl) h with ⟨hcs, _⟩ | ⟨a, l, c, zs, hcs, _, hl, hm, hz, hx, hcell, hwz⟩
  · exact ⟨none, 0, 0, fun _ => 0, by simpa using hcs, .inl rfl, fun h => by omega, fun j hj => by omega⟩
  · have hzl : l ≤ zs.length := by rw [hz]; split <;> omega
    have h8 : ∀ j, j < l → B8 (zs.getD j 0) := fun j hj => by
      have := bounds_u8 (hwz (zs.getD j 0) (by rw [List.getD_eq_getElem?_getD, List.getElem?_eq_getElem (by omega)]; exact List.getElem_mem _))
      exact ⟨this.1, by omega⟩
    have hwt : ∃ n ∈ x.1.weights Try.prog 34, l ≤ n := by
      rw [hx]
      simp only [DataW.weights, Try.underlying34]
      refine ⟨_, List.mem_cons_self .., ?_⟩
      rw [show Try.prog.bytesOf 5 = 1 by kernel_rfl, lits, List.length_map, List.length_take]
      omega
    refine ⟨some a, l, c, fun j => zs.getD j 0, by simpa using hcs, .inr hwt, fun hn => ?_, h8⟩
    obtain ⟨b, off, spot⟩ := a
    have hs : spot = none := by simpa [Addr.add] using World.cell?_spot (hcell 0 (by omega))
    subst hs
    have hcc : ∀ j, j < l → W.cell? ⟨b, off + j, none⟩ = some (.int .u8 (zs.getD j 0)) := fun j hj => by rw [← add_eq]; exact hcell j (by omega)
    exact ⟨b, off, rfl, World.block_lt_of_cell? W _ (hcc 0 hn), hcc⟩
/-- One call's cells. -/
structure One where
  wh : Int
  nn : Int
  ad : Nat
  vl : Int
  pa : Option Addr
  l : Nat
  cb : Nat
  y : Nat → Int
def cs1 (o : Nat → One) : Cs := ⟨fun k => (o k).wh, fun k => (o k).nn, fun k => (o k).ad, fun k => (o k).vl, fun k => (o k).pa, fun k => (o k).l, fun k => (o k).cb, fun k => (o k).y⟩
/-- One call, at an address. -/
structure OneAt (W : World) (a : Addr) (i : Nat) (o : One) : Prop where
  c0 : W.cell? (a.add (i * 5)) = some (.int .i64 o.wh)
  c1 : W.cell? (a.add (i * 5 + 1)) = some (.int .i64 o.nn)
  c2 : W.cell? (a.add (i * 5 + 2)) = some (.int .u32 o.ad)
  c3 : W.cell? (a.add (i * 5 + 3)) = some (.int .u32 o.vl)
  c4 : W.cell? (a.add (i * 5 + 4)) = some (.slice o.pa o.l o.cb)
  ad : o.ad < 4294967296
  v0 : 0 ≤ o.vl
  v1 : o.vl < 4294967296
  few : o.l ≤ reachBytes
  bts : RdB W.heap.size W o.pa o.l o.y
set_option maxRecDepth 100000 in
theorem calls_open {H : Type} {enc : TypeId × Value → H} {W : World} {base : Nat} {v : Value} {d : DataW H} {p : List MemPlace}
    (hval : Value.okWide Try.prog W .any base 22 v) (h : DataW.Trod enc Try.prog W 0 (fun _ => true) true 22 v d p)
    (hsz : ∀ n ∈ d.weights Try.prog 22, n ≤ reachBytes) :
    ∃ a len cap x, v = .slice a len cap ∧ len ≤ maxLen ∧ (∀ x ∈ p, x.block < W.heap.size) ∧ CallsIn W.heap.size W a len x := by
  obtain ⟨a, len, cap, rfl⟩ := okWide_slice Try.underlying22 hval
  have lt0 : ∀ x ∈ p, x.block < W.heap.size := by obtain ⟨m, hm⟩ := h; exact DataW.trod_lt m _ _ _ hm
  obtain ⟨fuel, hf⟩ := h
  have o0 : One := ⟨0, 0, 0, 0, none, 0, 0, fun _ => 0⟩
  rcases open_slice Try.underlying22 hf with ⟨hcs, _⟩ | ⟨x, l, c, m, n, D, Pl, hcs, _, hl, hm, hmm, hx, hi⟩
  · simp [Value.cells] at hcs
    obtain ⟨rfl, rfl, rfl⟩ := hcs
    exact ⟨_, _, _, cs1 (fun _ => o0), rfl, by unfold maxLen; omega, lt0, fun h => by omega⟩
  · simp [Value.cells] at hcs
    obtain ⟨rfl, rfl, rfl⟩ := hcs
    have hmc : len ≤ m := by rw [hmm]; split <;> omega
    have each : ∀ i, i < len → ∃ o, OneAt W x i o := by
      intro i him
      obtain ⟨cs', hc, ht'⟩ := hi i (by omega)
      rw [cellsCall] at hc
      obtain ⟨_, hcl, hat⟩ := World.cells?_some hc
      obtain ⟨y0, y1, y2, y3, y4, n', hag, k0, k1, k2, k3, k4⟩ := trod_struct5 Try.underlying36 ht'
      simp only [cellsInt, cellsU32, cellsBs] at k0 k1 k2 k3 k4
      obtain ⟨i0, c0, _, _⟩ := DataW.trod_int Try.underlying3 k0
      obtain ⟨i1, c1, _, _⟩ := DataW.trod_int Try.underlying3 k1
      obtain ⟨i2, c2, _, w2⟩ := DataW.trod_int Try.underlying23 k2
      obtain ⟨i3, c3, _, w3⟩ := DataW.trod_int Try.underlying23 k3
      have b2 := bounds_u32 w2
      have b3 := bounds_u32 w3
      obtain ⟨i2, rfl⟩ := Int.eq_ofNat_of_zero_le b2.1
      obtain ⟨v4, hv4⟩ : ∃ v4, (cs'.drop 4).take 1 = [v4] := by
        have : ((cs'.drop 4).take 1).length = 1 := by simp; omega
        exact List.length_eq_one_iff.1 this
      rw [hv4] at k4
      obtain ⟨pa, l, cb, y, rfl, hl4, hr4⟩ := bytes_trod k4
      have hl5 : l ≤ reachBytes := by
        rcases hl4 with rfl | ⟨q, hq, hlq⟩
        · exact Nat.zero_le _
        · refine Nat.le_trans hlq (hsz q ?_)
          have hd : d = .slice ((List.range len).map D) ((List.range (m - len)).map fun j => D (len + j)) := congrArg Prod.fst hx
          rw [hd]
          simp only [DataW.weights, Try.underlying22, List.mem_cons, List.mem_append]
          refine Or.inr (Or.inl (weightsAll_mem (List.mem_map.2 ⟨i, List.mem_range.2 him, rfl⟩) _ ?_))
          rw [show D i = .agg [y0.1, y1.1, y2.1, y3.1, y4.1] from hag]
          simp only [DataW.weights, Try.underlying36, List.map_cons, List.map_nil, DataW.weightsEach, List.mem_append]
          exact Or.inr (Or.inr (Or.inr (Or.inr (Or.inl hq))))
      have ha2 : i2 < 4294967296 := by omega
      have hv3 : i3 < 4294967296 := by omega
      refine ⟨⟨i0, i1, i2, i3, pa, l, cb, y⟩, ?_, ?_, ?_, ?_, ?_, ha2, b3.1, hv3, hl5, hr4⟩
      · have := (hat 0 (by decide)).trans (take_one c0); rw [Go.Deep.add_add] at this; exact this
      · have := (hat 1 (by decide)).trans (take_one c1); rw [Go.Deep.add_add] at this; exact this
      · have := (hat 2 (by decide)).trans (take_one c2); rw [Go.Deep.add_add] at this; exact this
      · have := (hat 3 (by decide)).trans (take_one c3); rw [Go.Deep.add_add] at this; exact this
      · have := (hat 4 (by decide)).trans (take_one hv4); rw [Go.Deep.add_add] at this; exact this
    have all : ∀ i, ∃ o, i < len → OneAt W x i o := fun i => by
      by_cases h : i < len
      · obtain ⟨o, ho⟩ := each i h; exact ⟨o, fun _ => ho⟩
      · exact ⟨o0, fun h' => absurd h' h⟩
    refine ⟨_, _, _, cs1 (fun k => Classical.choose (all k)), rfl, by omega, lt0, fun hn => ?_⟩
    obtain ⟨b, off, spot⟩ := x
    obtain ⟨v0, hv0⟩ := each 0 hn
    have hs : spot = none := by simpa [Addr.add] using World.cell?_spot hv0.c0
    subst hs
    refine ⟨b, off, rfl, World.block_lt_of_cell? W _ (show W.cell? ⟨b, off + 0, none⟩ = _ from by have := hv0.c0; rw [add_eq] at this; simpa using this), fun k hk => ?_⟩
    have q := Classical.choose_spec (all k) hk
    obtain ⟨e0, e1, e2, e3, e4, q5, q6, q7, q8, q9⟩ := q
    rw [add_eq] at e0 e1 e2 e3 e4
    exact ⟨e0, e1, e2, e3, e4, q5, q6, q7, q8, q9⟩
end Ph
end Go.Proofs.Ytpnpcmclpmldmaa
