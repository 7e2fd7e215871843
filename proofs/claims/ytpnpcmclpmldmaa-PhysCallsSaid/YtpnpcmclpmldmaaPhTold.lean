/-
  What the statements' told does with a memory and the document's own; conditions: that the memories lie there, with the same bytes, and that the call is of its Go type.
-/
import Derived.Test.YtpnpcmclpmldmaaPhRef
import Derived.Deep.RegionHeld3
namespace Go.Proofs.Ytpnpcmclpmldmaa
open Go.RowKit
namespace Ph
/-- A goal that nobody looks into. -/
structure Sealed (p : Prop) : Prop where
  out : p
theorem seal_next {ops : Array Oper} {w : World} {Q : Act → Prop} {a : Act} {o : Oper} {rest : List Oper}
    (h : ∀ K : Act → Prop, (∀ a, Sealed (wpStill Try.prog ops w Q rest a) → K a) → if Region.wanted o (yielded ops a.tmps) then o.still Try.prog a w K else K (a.put o.dst undef)) : Sealed (wpStill Try.prog ops w Q (o :: rest) a) :=
  ⟨h _ (fun _ h => h.out)⟩
theorem seal_nil {ops : Array Oper} {w : World} {Q : Act → Prop} {a : Act} (h : Q a) : Sealed (wpStill Try.prog ops w Q [] a) := ⟨h⟩
theorem seal_all {id : Nat} {Q : Exit → Act → World → Prop} {a : Act} {w : World} {l : List Oper} {S : World → Prop} (hm : Try.prog.follows .mixedOrders = true) (hB : Region.lexB .any l.toArray = true) (hS : S w.drew)
    (h : ∀ w', S w' → Sealed (wpStill Try.prog l.toArray w' (fun a' => Q .normal a' w') l a)) : (Code.region id l.toArray true).wp Try.prog Q a w :=
  still_all hm hB hS (fun w' hw => (h w' hw).out)
theorem seal_tail {id : Nat} {Q : Exit → Act → World → Prop} {a : Act} {w : World} {l : List Oper} {S : World → Prop} (n : Nat) (hm : Try.prog.follows .mixedOrders = true) (hB : Region.lexTailB .any l.toArray n = true) (hS : S w.drew)
    (h : ∀ w', S w' → Sealed (wpStill Try.prog l.toArray w' (fun a' => wpList Try.prog l.toArray Q (l.drop n) a' w') (l.take n) a)) : (Code.region id l.toArray true).wp Try.prog Q a w :=
  still_tail n hm hB hS (fun w' hw => (h w' hw).out)
/-- Both memories lie there, with the same bytes, apart from each other. -/
structure Both (w : World) (m F n c r G : Nat) (z : Nat → Int) : Prop where
  mem : Mem w m F n c z
  ref : RMem w r G n z
  a1 : m ≠ G
  a2 : r ≠ F
  a3 : F ≠ G
  a4 : m ≠ r
theorem Both.kept {w w' : World} {m F n c r G : Nat} {z : Nat → Int} {S : List Nat} (h : Both w m F n c r G z) (ho : Only S w w') (h1 : m ∉ S) (h2 : F ∉ S) (h3 : r ∉ S) (h4 : G ∉ S) : Both w' m F n c r G z :=
  ⟨h.mem.kept ho h1 h2, h.ref.kept ho h3 h4, h.a1, h.a2, h.a3, h.a4⟩
/-- How told ends. -/
def ToldEnd (m F n c r G : Nat) (w : World) (e : Ending) (w' : World) : Prop := e = .returned (.bool true) ∧ (∃ z', Both w' m F n c r G z') ∧ Only [F, G] w w'
/-- A call's cells. -/
def callL (wh nn : Int) (ad : Nat) (vl : Int) (pb : Option Addr) (l cb : Nat) : Array Value := #[.int .i64 wh, .int .i64 nn, .int .u32 ad, .int .u32 vl, .slice pb l cb]
theorem told_else (m F n c r G : Nat) (z : Nat → Int) (wh nn : Int) (ad : Nat) (vl : Int) (pb : Option Addr) (l cb : Nat) (w : World) (hB : Both w m F n c r G z) (h0 : wh ≠ 0) (h1 : wh ≠ 1) (h2 : wh ≠ 2) :
    Calls Try.prog 13 #[.pointer (some ⟨m, 0, none⟩), .pointer (some ⟨r, 0, none⟩), .agg #[.int .i64 wh, .int .i64 nn, .int .u32 ad, .int .u32 vl, .slice pb l cb]] w (ToldEnd m F n c r G w) := by
  have HB := Lib.hid hB
  have d0 : (wh == 0) = false := by simpa using h0
  have d1 : (wh == 1) = false := by simpa using h1
  have d2 : (wh == 2) = false := by simpa using h2
  clear hB
  go_enter Try.func13, Try.ntmps13
  go_wp2
  go_ret
  exact ⟨rfl, ⟨z, HB.out.kept (Only.alloc [] _ _) (by simp) (by simp) (by simp) (by simp)⟩, Only.alloc _ _ _⟩
theorem Rd.kept {w w' : World} {pa : Option Addr} {n : Nat} {z : Nat → Int} (h : Rd w pa n z) (ho : Only [] w w') : Rd w' pa n z :=
  ⟨fun hn => by
    obtain ⟨b, off, e, hc⟩ := h.1 hn
    exact ⟨b, off, e, fun j hj => (ho.cell (World.block_lt_of_cell? w _ (hc j hj)) (by simp) _).trans (hc j hj)⟩, h.2⟩
set_option maxHeartbeats 1000000 in
theorem told_byte (m F n c r G : Nat) (z : Nat → Int) (nn : Int) (ad : Nat) (vl : Int) (pa : Option Addr) (l cb : Nat) (w : World) (hB : Both w m F n c r G z) (ha : ad < 4294967296) :
    Calls Try.prog 13 #[.pointer (some ⟨m, 0, none⟩), .pointer (some ⟨r, 0, none⟩), .agg #[.int .i64 0, .int .i64 nn, .int .u32 ad, .int .u32 vl, .slice pa l cb]] w (ToldEnd m F n c r G w) := by
  have HB := Lib.hid hB
  have h8 : B8 (vl % 256) := ⟨by omega, by omega⟩
  have bF := hB.mem.row.lt
  have bG := hB.ref.row.lt
  have BX : Hid (Both (w.alloc (.cells #[.int .i64 0, .int .i64 nn, .int .u32 ad, .int .u32 vl, .slice pa l cb] 36)).drew m F n c r G z) := (hB.kept (Only.alloc [] _ _) (by simp) (by simp) (by simp) (by simp)).kept (Only.drewN [] _ 1) (by simp) (by simp) (by simp) (by simp)
  have OX : Hid (Only [F, G] w (w.alloc (.cells #[.int .i64 0, .int .i64 nn, .int .u32 ad, .int .u32 vl, .slice pa l cb] 36)).drew) := (Only.alloc _ _ _).trans (Only.drewN _ _ 1)
  have k1 : (w.alloc (.cells #[.int .i64 0, .int .i64 nn, .int .u32 ad, .int .u32 vl, .slice pa l cb] 36)).drew.cell? ⟨w.heap.size, 2, none⟩ = some (.int .u32 ad) := by simp
  have l1 : (w.alloc (.cells #[.int .i64 0, .int .i64 nn, .int .u32 ad, .int .u32 vl, .slice pa l cb] 36)).drew.cell? ⟨w.heap.size, 3, none⟩ = some (.int .u32 vl) := by simp
  clear hB
  go_enter Try.func13, Try.ntmps13
  go_wp2_with fail
  go_region_held3 (fun w' => w'.cell? ⟨w.heap.size, 2, none⟩ = some (.int .u32 ad) ∧ w'.cell? ⟨w.heap.size, 3, none⟩ = some (.int .u32 vl)) (first | exact ⟨k4, l4⟩ | exact ⟨k2, l2⟩ | exact ⟨k1, l1⟩) (first | (go_at_call 26; refine (putByte_any m F n c ad z (vl % 256) _ BX.out.mem ha h8).mono ?_; rintro e w2 ⟨rfl, hM2, hO2⟩; have k2 := (hO2.cell (b := w.heap.size) (by simp) (by simp; omega) 2).trans k1; have l2 := (hO2.cell (b := w.heap.size) (by simp) (by simp; omega) 3).trans l1; have MH := Lib.hid hM2; have OH := Lib.hid hO2; clear hM2 hO2) | (go_at_call 27; refine (rputByte_any r G n ad z (vl % 256) _ (BX.out.ref.kept OH.out (by simpa using BX.out.a2) (by simpa using BX.out.a3.symm)) ha h8).mono ?_; rintro e w4 ⟨rfl, hM4, hO4⟩; have k4 := (hO4.cell (b := w.heap.size) (by have := OH.out.size; simp at this; omega) (by simp; omega) 2).trans k2; have l4 := (hO4.cell (b := w.heap.size) (by have := OH.out.size; simp at this; omega) (by simp; omega) 3).trans l2; have M4 := Lib.hid hM4; have O4 := Lib.hid hO4; clear hM4 hO4))
  go_wp2
  go_ret
  refine ⟨by simp, ⟨_, MH.out.kept O4.out (by simpa using BX.out.a1) (by simpa using BX.out.a3), M4.out, BX.out.a1, BX.out.a2, BX.out.a3, BX.out.a4⟩, (OX.out.trans (OH.out.mono (by simp))).trans (O4.out.mono (by simp))⟩
set_option maxHeartbeats 1000000 in
theorem told_word (m F n c r G : Nat) (z : Nat → Int) (nn : Int) (ad : Nat) (vl : Int) (pa : Option Addr) (l cb : Nat) (w : World) (hB : Both w m F n c r G z) (ha : ad < 4294967296) (v0 : 0 ≤ vl) (v1 : vl < 4294967296) :
    Calls Try.prog 13 #[.pointer (some ⟨m, 0, none⟩), .pointer (some ⟨r, 0, none⟩), .agg #[.int .i64 1, .int .i64 nn, .int .u32 ad, .int .u32 vl, .slice pa l cb]] w (ToldEnd m F n c r G w) := by
  have HB := Lib.hid hB
  have bF := hB.mem.row.lt
  have bG := hB.ref.row.lt
  have BX : Hid (Both (w.alloc (.cells #[.int .i64 1, .int .i64 nn, .int .u32 ad, .int .u32 vl, .slice pa l cb] 36)).drew m F n c r G z) := (hB.kept (Only.alloc [] _ _) (by simp) (by simp) (by simp) (by simp)).kept (Only.drewN [] _ 1) (by simp) (by simp) (by simp) (by simp)
  have OX : Hid (Only [F, G] w (w.alloc (.cells #[.int .i64 1, .int .i64 nn, .int .u32 ad, .int .u32 vl, .slice pa l cb] 36)).drew) := (Only.alloc _ _ _).trans (Only.drewN _ _ 1)
  have k1 : (w.alloc (.cells #[.int .i64 1, .int .i64 nn, .int .u32 ad, .int .u32 vl, .slice pa l cb] 36)).drew.cell? ⟨w.heap.size, 2, none⟩ = some (.int .u32 ad) := by simp
  have l1 : (w.alloc (.cells #[.int .i64 1, .int .i64 nn, .int .u32 ad, .int .u32 vl, .slice pa l cb] 36)).drew.cell? ⟨w.heap.size, 3, none⟩ = some (.int .u32 vl) := by simp
  clear hB
  go_enter Try.func13, Try.ntmps13
  go_wp2_with fail
  go_region_held3 (fun w' => w'.cell? ⟨w.heap.size, 2, none⟩ = some (.int .u32 ad) ∧ w'.cell? ⟨w.heap.size, 3, none⟩ = some (.int .u32 vl)) (first | exact ⟨k4, l4⟩ | exact ⟨k2, l2⟩ | exact ⟨k1, l1⟩) (first | (go_at_call 24; refine (putWord_any m F n c ad z vl _ BX.out.mem ha v0 v1).mono ?_; rintro e w2 ⟨rfl, hM2, hO2⟩; have k2 := (hO2.cell (b := w.heap.size) (by simp) (by simp; omega) 2).trans k1; have l2 := (hO2.cell (b := w.heap.size) (by simp) (by simp; omega) 3).trans l1; have MH := Lib.hid hM2; have OH := Lib.hid hO2; clear hM2 hO2) | (go_at_call 28; refine (rputWord_any r G n ad z vl _ (BX.out.ref.kept OH.out (by simpa using BX.out.a2) (by simpa using BX.out.a3.symm)) ha v0 v1).mono ?_; rintro e w4 ⟨rfl, hM4, hO4⟩; have k4 := (hO4.cell (b := w.heap.size) (by have := OH.out.size; simp at this; omega) (by simp; omega) 2).trans k2; have l4 := (hO4.cell (b := w.heap.size) (by have := OH.out.size; simp at this; omega) (by simp; omega) 3).trans l2; have M4 := Lib.hid hM4; have O4 := Lib.hid hO4; clear hM4 hO4))
  go_wp2
  go_ret
  refine ⟨by simp, ⟨_, MH.out.kept O4.out (by simpa using BX.out.a1) (by simpa using BX.out.a3), M4.out, BX.out.a1, BX.out.a2, BX.out.a3, BX.out.a4⟩, (OX.out.trans (OH.out.mono (by simp))).trans (O4.out.mono (by simp))⟩
set_option maxRecDepth 100000 in
set_option maxHeartbeats 1000000 in
theorem told_fill_no (m F n c r G : Nat) (z y : Nat → Int) (nn : Int) (ad : Nat) (vl : Int) (pa : Option Addr) (l cb : Nat) (w : World) (hB : Both w m F n c r G z) (hl : l ≤ 3000) (hy : Rd w pa l y) (hk : ¬ (0 ≤ nn ∧ nn < n)) :
    Calls Try.prog 13 #[.pointer (some ⟨m, 0, none⟩), .pointer (some ⟨r, 0, none⟩), .agg #[.int .i64 2, .int .i64 nn, .int .u32 ad, .int .u32 vl, .slice pa l cb]] w (ToldEnd m F n c r G w) := by
  have BX : Hid (Both (w.alloc (.cells #[.int .i64 2, .int .i64 nn, .int .u32 ad, .int .u32 vl, .slice pa l cb] 36)) m F n c r G z) := hB.kept (Only.alloc [] _ _) (by simp) (by simp) (by simp) (by simp)
  have YX : Hid (Rd (w.alloc (.cells #[.int .i64 2, .int .i64 nn, .int .u32 ad, .int .u32 vl, .slice pa l cb] 36)) pa l y) := hy.kept (Only.alloc [] _ _)
  have hf := hB.ref.few
  have HK := Lib.hid hk
  clear hB hy hk
  go_enter Try.func13, Try.ntmps13
  go_wp2_with (first | (go_at_call 20; refine (copyB_any pa l cb y _ (by omega) YX.out).mono ?_; rintro e w2 ⟨g, cg, rfl, hg1, hg2, hg3⟩; have c1 : w2.cell? ⟨w.heap.size, 1, none⟩ = some (.int .i64 nn) := (hg2.cell (b := w.heap.size) (by simp) (by simp) 1).trans (by simp); have B2 := Lib.hid (BX.out.kept hg2 (by simp) (by simp) (by simp) (by simp)); have O2 := Lib.hid hg2; clear hg1 hg2 hg3) | (go_at_call 25; refine (fill_no m F n c z nn _ l cg _ B2.out.mem HK.out).mono ?_; rintro e w' ⟨rfl, rfl⟩))
  have r2 := B2.out.ref.head
  refine seal_all (S := fun w' => w'.cell? ⟨w.heap.size, 1, none⟩ = some (.int .i64 nn) ∧ w'.cell? ⟨r, 0, none⟩ = some (.slice (some ⟨G, 0, none⟩) (256 * n) (256 * n)) ∧ Both w' m F n c r G z ∧ Only [] w w') (by kernel_rfl) (by kernel_rfl) ⟨c1, r2, B2.out.kept (Only.drewN [] _ 1) (by simp) (by simp) (by simp) (by simp), ((Only.alloc _ _ _).trans O2.out).trans (Only.drewN _ _ 1)⟩ ?_
  rintro w3 ⟨c3, r3, B3, O3⟩
  have BH := Lib.hid B3
  have OH := Lib.hid O3
  clear c1 r2 B2 O2 B3 O3
  by_cases h0 : nn < 0
  · have d0 : decide (nn < 0) = true := by simpa using h0
    iterate 14 (refine seal_next (fun K hK => ?_); go_simp; refine hK _ ?_; clear hK K)
    refine seal_nil ?_
    go_wp2
    go_ret
    exact ⟨rfl, ⟨z, BH.out⟩, OH.out.mono (by simp)⟩
  · have d0 : decide (nn < 0) = false := by simpa using h0
    have d1 : decide ((n : Int) ≤ nn) = true := by have := HK.out; simp; omega
    have e1 : 256 * (n : Int) / 256 = n := by omega
    have e2 : (256 * (n : Int)).tdiv 256 = n := by rw [Int.tdiv_eq_ediv_of_nonneg (by omega)]; omega
    have ew : IntKind.i64.wrap (n : Int) = n := IntWalk.i64_in _ ⟨by omega, by omega⟩
    iterate 14 (refine seal_next (fun K hK => ?_); go_simp; refine hK _ ?_; clear hK K)
    refine seal_nil ?_
    go_wp2
    go_ret
    exact ⟨rfl, ⟨z, BH.out⟩, OH.out.mono (by simp)⟩
end Ph
end Go.Proofs.Ytpnpcmclpmldmaa
