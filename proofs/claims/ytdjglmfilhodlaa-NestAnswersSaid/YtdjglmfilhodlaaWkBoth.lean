/-
  A row of words at addresses as it lies in a world; what the statements' great and Both do with it. No condition but that each argument is of its Go type.
-/
import Derived.Test.YtdjglmfilhodlaaWkRef
namespace Go.Proofs.Ytdjglmfilhodlaa
open Go.RowKit Nt
namespace Wk
open Ph En
theorem _root_.Go.Proofs.Ytdjglmfilhodlaa.Ph.Only.next {S S' : List Nat} {a b c : World} (h : Only S a b) (k : Only S' b c) (hs : ∀ x ∈ S', x ∈ S ∨ a.heap.size ≤ x) : Only S a c :=
  ⟨k.os.trans h.os, k.tape.trans h.tape, k.output.trans h.output, Nat.le_trans h.size k.size, fun i hi hn => (k.block i (Nat.lt_of_lt_of_le hi h.size) (fun x => (hs i x).elim hn (fun g => by omega))).trans (h.block i hi hn)⟩
/-- Words at addresses. -/
structure Puts where
  ad : Nat → Nat
  vl : Nat → Int
/-- One of them lies in a block. -/
structure PutAt (w : World) (b off : Nat) (x : Puts) (k : Nat) : Prop where
  c0 : w.cell? ⟨b, off + k * 2, none⟩ = some (.int .u32 (x.ad k))
  c1 : w.cell? ⟨b, off + k * 2 + 1, none⟩ = some (.int .u32 (x.vl k))
  ad : x.ad k < 4294967296
  v0 : 0 ≤ x.vl k
  v1 : x.vl k < 4294967296
theorem PutAt.kept {w w' : World} {b off k : Nat} {x : Puts} {S : List Nat} (h : PutAt w b off x k) (ho : Only S w w') (hn : b ∉ S) : PutAt w' b off x k := by
  have hl := World.block_lt_of_cell? w _ h.c0
  exact ⟨(ho.cell hl hn _).trans h.c0, (ho.cell hl hn _).trans h.c1, h.ad, h.v0, h.v1⟩
/-- A row of them lies in old blocks. -/
def PutsIn (B : Nat) (w : World) (pa : Option Addr) (len : Nat) (x : Puts) : Prop := 0 < len → ∃ b off, pa = some ⟨b, off, none⟩ ∧ b < B ∧ ∀ k, k < len → PutAt w b off x k
theorem PutsIn.kept {B : Nat} {w w' : World} {pa : Option Addr} {len : Nat} {x : Puts} {S : List Nat} (h : PutsIn B w pa len x) (ho : Only S w w') (hs : ∀ x ∈ S, B ≤ x) : PutsIn B w' pa len x := fun hn => by
  obtain ⟨b, off, e, hb, hc⟩ := h hn
  exact ⟨b, off, e, hb, fun k hk => (hc k hk).kept ho (fun h => by have := hs _ h; omega)⟩
theorem PutsIn.mono {B B' : Nat} {w : World} {pa : Option Addr} {len : Nat} {x : Puts} (h : PutsIn B w pa len x) (hB : B ≤ B') : PutsIn B' w pa len x := fun hn => by
  obtain ⟨b, off, e, hb, hc⟩ := h hn
  exact ⟨b, off, e, Nat.lt_of_lt_of_le hb hB, hc⟩
/-- The bytes when the first k are put. -/
def zOf (n : Nat) (x : Puts) : Nat → Nat → Int
  | 0 => fun _ => 0
  | k + 1 => pw n (zOf n x k) (x.ad k) (x.vl k)
theorem zOf_succ (n : Nat) (x : Puts) (k : Nat) : zOf n x (k + 1) = pw n (zOf n x k) (x.ad k) (x.vl k) := rfl
/-- Is it more than is looked at? -/
def gr (nf : Int) (len : Nat) : Bool := decide (nf < 1) || decide (100 < nf) || decide (100 < len)
theorem gr_false {nf : Int} {len : Nat} (h : gr nf len = false) : 1 ≤ nf ∧ nf ≤ 100 ∧ len ≤ 100 := by unfold gr at h; simp at h; omega
/-- How Both ends. -/
def BothEnd (n : Nat) (z : Nat → Int) (w : World) (e : Ending) (w' : World) : Prop :=
  ∃ m F c r G, e = .returned (.tuple #[.pointer (some ⟨m, 0, none⟩), .pointer (some ⟨r, 0, none⟩)]) ∧ Ph.Both w' m F n c r G z ∧ Only [] w w' ∧ w.heap.size ≤ m ∧ w.heap.size ≤ F ∧ w.heap.size ≤ r ∧ w.heap.size ≤ G
set_option maxRecDepth 100000 in
set_option maxHeartbeats 2000000 in
theorem both_wide (n : Nat) (pa : Option Addr) (len cap : Nat) (x : Puts) (w : World) (h1 : 1 ≤ n) (hn : n ≤ 100) (hl : len ≤ 1000) (hx : PutsIn w.heap.size w pa len x) :
    Calls Try.prog 10 #[.int .i64 n, .slice pa len cap] w (BothEnd n (zOf n x len) w) := by
  have HX := Lib.hid hx
  clear hx
  go_enter Try.func10, Try.ntmps10
  go_wp2_with fail
  refine (new_any n w h1 (by omega)).mono ?_
  rintro e w1 ⟨m, F, c, rfl, hM, hO, hm, hF⟩
  have M1 := Lib.hid hM
  have O1 := Lib.hid hO
  clear hM hO
  go_wp2_with fail
  refine (rnew_any n w1 h1 (by omega)).mono ?_
  rintro e w2 ⟨r, G, rfl, hM, hO, hr, hG⟩
  have l1 := M1.out.lt
  have l2 := M1.out.row.lt
  have B2 : Hid (Ph.Both w2 m F n c r G (fun _ => 0)) := ⟨M1.out.kept hO (by simp) (by simp), hM, by omega, by omega, by omega, by omega⟩
  have O2 := Lib.hid (O1.out.next hO (by simp))
  have l3 := O1.out.size
  clear hM hO M1 O1
  go_wp2_with fail
  go_loopw [9] (fun i wr => ∃ k : Nat, k ≤ len ∧ i = .int .i64 k ∧ Ph.Both wr m F n c r G (zOf n x k) ∧ Only [] w wr) (fun i _ => len - (intOf i).toNat)
  case atStart => exact ⟨0, by omega, rfl, B2.out, O2.out⟩
  case round =>
    obtain ⟨k, hk, rfl, hB, hO⟩ := hrel
    have BH := Lib.hid hB
    have OH := Lib.hid hO
    clear hB hO B2 O2
    by_cases hlt : k < len
    · obtain ⟨b, off, epa, hbB, hcc⟩ := HX.out (by omega)
      subst epa
      have ck := (hcc k hlt).kept OH.out (by simp)
      have c0 := ck.c0
      have c1 := ck.c1
      have a0 := ck.ad
      have v0 := ck.v0
      have v1 := ck.v1
      have hki : (k : Int) < len := by omega
      have ZS := Lib.hid (zOf_succ n x k)
      clear hcc ck
      go_wp2_with fail
      refine seal_tail (S := fun w' => w'.cell? ⟨b, off + k * 2, none⟩ = some (.int .u32 (x.ad k)) ∧ w'.cell? ⟨b, off + k * 2 + 1, none⟩ = some (.int .u32 (x.vl k)) ∧ Ph.Both w' m F n c r G (zOf n x k) ∧ Only [] w w') 11 (by kernel_rfl) (by kernel_rfl) ⟨c0, c1, BH.out.kept (Only.drewN [] _ 1) (by simp) (by simp) (by simp) (by simp), OH.out.next (Only.drewN [] _ 1) (by simp)⟩ ?_
      rintro w3 ⟨e0, e1, hB3, hO3⟩
      have B3 := Lib.hid hB3
      have O3 := Lib.hid hO3
      clear c0 c1 BH OH hB3 hO3
      simp only [List.take_succ_cons, List.take_zero, List.drop_succ_cons, List.drop_zero]
      iterate 11 (refine seal_next (fun K hK => ?_); go_simp; refine hK _ ?_; clear hK K)
      refine seal_nil ?_
      have b3w := O3.out.size
      go_wp2_with (go_at_call 22; refine (putWord_any m F n c (x.ad k) (zOf n x k) (x.vl k) _ B3.out.mem a0 v0 v1).mono ?_; rintro e w4 ⟨rfl, hM4, hO4⟩)
      have d0 := (hO4.cell (World.block_lt_of_cell? w3 _ e0) (by simp; omega) (off + k * 2)).trans e0
      have d1 := (hO4.cell (World.block_lt_of_cell? w3 _ e1) (by simp; omega) (off + k * 2 + 1)).trans e1
      have M4 := Lib.hid hM4
      have R4 := Lib.hid (B3.out.ref.kept hO4 (by simpa using B3.out.a2) (by simpa using B3.out.a3.symm))
      have O4 := Lib.hid (O3.out.next hO4 (by simp; omega))
      have q1 := B3.out.a1
      have q2 := B3.out.a2
      have q3 := B3.out.a3
      have q4 := B3.out.a4
      clear e0 e1 B3 O3 hM4 hO4
      refine seal_tail (S := fun w' => w'.cell? ⟨b, off + k * 2, none⟩ = some (.int .u32 (x.ad k)) ∧ w'.cell? ⟨b, off + k * 2 + 1, none⟩ = some (.int .u32 (x.vl k)) ∧ Mem w' m F n c (pw n (zOf n x k) (x.ad k) (x.vl k)) ∧ RMem w' r G n (zOf n x k) ∧ Only [] w w') 11 (by kernel_rfl) (by kernel_rfl) ⟨d0, d1, M4.out.kept (Only.drewN [] _ 1) (by simp) (by simp), R4.out.kept (Only.drewN [] _ 1) (by simp) (by simp), O4.out.next (Only.drewN [] _ 1) (by simp)⟩ ?_
      rintro w5 ⟨e0, e1, hM5, hR5, hO5⟩
      have M5 := Lib.hid hM5
      have R5 := Lib.hid hR5
      have O5 := Lib.hid hO5
      have Q1 := Lib.hid q1
      have Q2 := Lib.hid q2
      have Q3 := Lib.hid q3
      have Q4 := Lib.hid q4
      clear d0 d1 M4 R4 O4 hM5 hR5 hO5 q1 q2 q3 q4
      simp only [List.take_succ_cons, List.take_zero, List.drop_succ_cons, List.drop_zero]
      iterate 11 (refine seal_next (fun K hK => ?_); go_simp; refine hK _ ?_; clear hK K)
      refine seal_nil ?_
      go_wp2_with (go_at_call 27; refine (rputWord_any r G n (x.ad k) (zOf n x k) (x.vl k) _ R5.out a0 v0 v1).mono ?_; rintro e w6 ⟨rfl, hR6, hO6⟩)
      go_roundw
      case rel => exact ⟨k + 1, by omega, by go_num, ⟨by rw [ZS.out]; exact M5.out.kept hO6 (by simpa using Q1.out) (by simpa using Q3.out), by rw [ZS.out]; exact hR6, Q1.out, Q2.out, Q3.out, Q4.out⟩, O5.out.next hO6 (by simp; omega)⟩
      case measure => simp [intOf]; omega
    · have e : k = len := by omega
      subst e
      go_wp2
      go_ret2
      exact ⟨m, F, c, r, G, rfl, BH.out, OH.out, hm, hF, by omega, by omega⟩
theorem both_any (n : Nat) (pa : Option Addr) (len cap : Nat) (x : Puts) (w : World) (h1 : 1 ≤ n) (hn : n ≤ 100) (hl : len ≤ 100) (hx : PutsIn w.heap.size w pa len x) :
    Calls Try.prog 10 #[.int .i64 n, .slice pa len cap] w (BothEnd n (zOf n x len) w) :=
  both_wide n pa len cap x w h1 hn (by omega) hx
end Wk
end Go.Proofs.Ytdjglmfilhodlaa
