/-
  What the document's own on, Do and Wait do; conditions: that such a meter lies there, and that each argument is of its Go type.
-/
import Derived.Test.YtalaalpafafpbaaDoorMtRefM
import Derived.Deep.AppendLies
namespace Go.Proofs.YtalaalpafafpbaaDoor
open Go.RowKit
namespace Mt
theorem grown_only {w w' : World} {row : Option Nat} (h : w.grownBy w' row) : Only row.toList w w' :=
  ⟨h.os, h.tape, h.output, h.size, fun k hk hn => h.block k hk (fun e => hn (by rw [← e]; simp))⟩
/-- The document's meter is stopped. -/
theorem RMet.halt {A : List Nat} {B : Nat} {w : World} {r n : Nat} {L : List Ent} {s : Bool} (h : RMet A B w r n L s) : RMet A B (w.setCell ⟨r, 2, none⟩ (.bool true)) r n L true := by
  obtain ⟨v, h1, h2, h3, h4⟩ := h.lst
  have ho := Only.setCell (S := [r]) (b := r) w (by simp) 2 (.bool true)
  refine ⟨by rw [World.size_setCell]; exact h.lt, h.ge, by rw [cell_set h.c2, if_neg (by simp)]; exact h.c0, by rw [cell_set h.c2, if_pos ⟨rfl, rfl⟩], by rw [World.frozen?_setCell]; exact h.f1, by rw [World.frozen?_setCell]; exact h.f2,
    ⟨v, by rw [cell_set h.c2, if_neg (by simp)]; exact h1, owns_kept h2 ho (fun x hx => by rw [List.mem_singleton.1 hx]; exact h3), h3, h4⟩, fun x hx => ⟨by rw [World.size_setCell]; exact (h.al x hx).1, (h.al x hx).2⟩, h.good, h.small⟩
/-- What changes are none of A's, and no old blocks'. -/
def Far (A : List Nat) (B : Nat) (w w' : World) : Prop := ∃ S, Only S w w' ∧ ∀ x ∈ S, B ≤ x ∧ x ∉ A
theorem Far.of {A : List Nat} {B : Nat} {w w' : World} (h : Only [] w w') : Far A B w w' := ⟨[], h, by simp⟩
theorem Far.trans {A : List Nat} {B : Nat} {a b c : World} (h : Far A B a b) (k : Far A B b c) : Far A B a c := by
  obtain ⟨S, h1, h2⟩ := h
  obtain ⟨T, k1, k2⟩ := k
  refine ⟨S ++ T, (h1.mono (by simp; intro x hx; exact .inl hx)).trans (k1.mono (by simp; intro x hx; exact .inr hx)), fun x hx => ?_⟩
  rcases List.mem_append.1 hx with hx | hx
  · exact h2 x hx
  · exact k2 x hx
theorem Far.self {A : List Nat} {B : Nat} {w : World} {r n : Nat} {L : List Ent} {s : Bool} (h : RMet A B w r n L s) (v : Value) : Far A B w (w.setCell ⟨r, 2, none⟩ v) :=
  ⟨[r], Only.setCell w (by simp) _ _, fun x hx => by
    obtain rfl := List.mem_singleton.1 hx
    exact ⟨h.ge, fun hA => (h.al x hA).2 rfl⟩⟩
/-- One more charge is laid behind the others. -/
theorem RMet.put {A : List Nat} {B : Nat} {w w3 : World} {r n g cap : Nat} {L : List Ent} {s : Bool} {v : Value} {o : Obj} (h : RMet A B w r n L s) (h2 : w.ownsRow B 61 3 v L.length (cellsL L)) (h3 : v.ownBlock ≠ some r) (h4 : ∀ x ∈ A, v.ownBlock ≠ some x)
    (gr : (w.alloc o).grownBy w3 v.ownBlock) (e : Ent) (own : w3.ownsRow B 61 3 (.slice (some ⟨g, 0, none⟩) (L.length + 1) cap) (L.length + 1) (cellsL L ++ [.int .i64 e.core, .int .i64 e.kind, .int .u64 e.cyc])) (hat : v.ownBlock = some g ∨ g = (w.alloc o).heap.size) (hg : Good n (L ++ [e])) :
    RMet A B (w3.setCell ⟨r, 1, none⟩ (.slice (some ⟨g, 0, none⟩) (L.length + 1) cap)) r n (L ++ [e]) s ∧ Far A B w (w3.setCell ⟨r, 1, none⟩ (.slice (some ⟨g, 0, none⟩) (L.length + 1) cap)) := by
  have hr := h.lt
  have oa := Only.alloc [] w o
  have og := grown_only gr
  have rS : r ∉ v.ownBlock.toList := by simpa using h3
  have hr1 : r < (w.alloc o).heap.size := by simp; omega
  have hr3 : r < w3.heap.size := Nat.lt_of_lt_of_le hr1 og.size
  have k0 := (og.cell hr1 rS 0).trans ((oa.cell hr (by simp) 0).trans h.c0)
  have k2 := (og.cell hr1 rS 2).trans ((oa.cell hr (by simp) 2).trans h.c2)
  have kf1 := (og.frozen hr1 rS 1).trans ((oa.frozen hr (by simp) 1).trans h.f1)
  have kf2 := (og.frozen hr1 rS 2).trans ((oa.frozen hr (by simp) 2).trans h.f2)
  obtain ⟨v', k1, _, _, _⟩ := h.lst
  have k1 := (og.cell hr1 rS 1).trans ((oa.cell hr (by simp) 1).trans k1)
  have gr' : g ≠ r := fun e => by
    rcases hat with hat | hat
    · exact h3 (by rw [hat, e])
    · rw [hat] at e; simp at e; omega
  have ho := Only.setCell (S := [r]) (b := r) w3 (by simp) 1 (.slice (some ⟨g, 0, none⟩) (L.length + 1) cap)
  refine ⟨⟨by rw [World.size_setCell]; exact hr3, h.ge, by rw [cell_set k1, if_neg (by simp)]; exact k0, by rw [cell_set k1, if_neg (by simp)]; exact k2, by rw [World.frozen?_setCell]; exact kf1, by rw [World.frozen?_setCell]; exact kf2,
    ⟨_, by rw [cell_set k1, if_pos ⟨rfl, rfl⟩], ?_, ?_, ?_⟩, fun x hx => ⟨?_, (h.al x hx).2⟩, hg, h.small⟩, ?_⟩
  · rw [cellsL_app, List.length_append]
    exact owns_kept own ho (fun x hx => by rw [List.mem_singleton.1 hx]; simpa [Value.ownBlock] using gr')
  · simpa [Value.ownBlock] using gr'
  · intro x hx
    have := (h.al x hx).1
    rcases hat with hat | hat
    · intro e2
      exact h4 x hx (by rw [hat]; simpa [Value.ownBlock] using e2)
    · intro e2
      simp [Value.ownBlock] at e2
      rw [hat] at e2
      simp at e2
      omega
  · rw [World.size_setCell]
    have := (h.al x hx).1
    have := og.size
    have := oa.size
    omega
  · refine ⟨v.ownBlock.toList ++ [r], (((oa.mono (by simp)).trans (og.mono (by simp; intro x hx; exact .inl hx))).trans (ho.mono (by simp))), fun x hx => ?_⟩
    rcases List.mem_append.1 hx with hx | hx
    · have hx : v.ownBlock = some x := by simpa using hx
      exact ⟨(h2.lt x hx).1, fun hA => h4 x hA hx⟩
    · obtain rfl := List.mem_singleton.1 hx
      exact ⟨h.ge, fun hA => (h.al x hA).2 rfl⟩
theorem infoC : (Tryd.prog.info? 61).map (fun i => (i.zero, i.size, i.bytes)) = some (some (.agg #[.int .i64 0, .int .i64 0, .int .u64 0]), 3, 24) := by kernel_rfl
/-- How a call that changes the document's meter ends. -/
def REnd (A : List Nat) (B r n : Nat) (w : World) (q : Res) (e : Ending) (w' : World) : Prop := e = .returned (.int .i64 q.e) ∧ RMet A B w' r n q.L q.s ∧ Far A B w w'
theorem cells3 (w : World) (a b c : Value) (t : TypeId) : ∀ j u, [a, b, c][j]? = some u → (w.alloc (.cells #[a, b, c] t)).cell? ((⟨w.heap.size, 0, none⟩ : Addr).add j) = some u := fun j u hu => by
  rw [add_eq, Nat.zero_add, World.cell?_alloc_new]
  match j, hu with
  | 0, hu => simpa using hu
  | 1, hu => simpa using hu
  | 2, hu => simpa using hu
set_option maxHeartbeats 1000000 in
theorem ron_any (A : List Nat) (B r n k j : Nat) (L : List Ent) (x : Int) (w : World) (hM : RMet A B w r n L false) (hl : L.length ≤ 900) (hk : k < n) (hj : j ≤ 8) (x0 : 0 ≤ x) (hB : B ≤ w.heap.size) :
    Calls Tryd.prog 25 #[.pointer (some ⟨r, 0, none⟩), .int .i64 k, .int .i64 j, .int .u64 x] w (REnd A B r n w (on L k j x)) := by
  obtain ⟨i0, hi, hz0, hz1, hz2⟩ := info_parts infoC
  obtain ⟨v, h1, h2, h3, h4⟩ := hM.lst
  have hr := hM.lt
  have M := Lib.hid hM
  have OW := Lib.hid h2
  have V3 := Lib.hid h3
  have V4 := Lib.hid h4
  have f1 := hM.f1
  have hg := hM.good
  have cb := cut_bounds hg k x x0
  have GD := Lib.hid (hg.add k j (cut L k x) hk hj cb.1 cb.2)
  have q0 := hg.clk0 k
  have q1 := hg.clk k
  have ck : clkA n L k = clk L k := by unfold clkA; rw [if_pos (inR_nat n k hk)]; rfl
  have hn4 := hM.small
  clear hM h2 h3 h4 hg cb
  have em : (if 4611686018427387904 - clk L k < x then 4611686018427387904 - clk L k else x) = cut L k x := by unfold cut; split <;> split <;> omega
  have NW := Lib.hid (cells3 w (.int .i64 k) (.int .i64 j) (.int .u64 (cut L k x)) 61)
  by_cases h : 4611686018427387904 - clk L k ≤ x
  · have ES := Lib.hid (show onS L k x = true by unfold onS; simpa using h)
    go_enter Tryd.func25, Tryd.ntmps25
    go_wp2_with (first | (go_at_call 15; refine (rclock_any A B r n L false k _ M.out (by omega)).mono ?_; rintro e w' ⟨rfl, rfl⟩; rw [ck]) | (at_builtin; refine wpList_append_lies _ rfl (.tmp 18) (.tmp 25) 30 rfl B 61 i0 (.agg #[.int .i64 0, .int .i64 0, .int .u64 0]) 3 24 Tryd.underlying30 hi hz0 hz1 hz2 rfl (by decide) v L.length (cellsL L) rfl (owns_kept OW.out (Only.alloc [] _ _) (by simp)) ⟨w.heap.size, 0, none⟩ 1 1 [.int .i64 k, .int .i64 j, .int .u64 (cut L k x)] rfl rfl NW.out (by simp [Value.oneCell']) (by decide) (by unfold maxLen; omega) (by omega) (by simp; omega) _ rfl ?_; intro g c w1 hown hgrow hat hlt; refine Shut.out ?_))
    show wpList _ _ _ _ _ _
    obtain ⟨hP, hFar⟩ := M.out.put OW.out V3.out V4.out hgrow ⟨k, j, cut L k x⟩ hown hat GD.out
    have fz : w1.frozen? ⟨r, 1, none⟩ = false := by have := hP.f1; rwa [World.frozen?_setCell] at this
    obtain ⟨z, cz⟩ : ∃ z, w1.cell? ⟨r, 1, none⟩ = some z := ⟨v, (((grown_only hgrow).cell (b := r) (by simp; omega) (by simpa using V3.out) 1).trans ((Only.alloc [] w _).cell hr (by simp) 1)).trans h1⟩
    have fy := hP.f2
    have cy := hP.c2
    have PP := Lib.hid hP
    have FF := Lib.hid hFar
    clear hown hgrow hat hP hFar
    go_wp2
    go_ret
    unfold REnd on
    rw [ES.out]
    exact ⟨rfl, PP.out.halt, FF.out.trans (Far.self PP.out _)⟩
  · have ES := Lib.hid (show onS L k x = false by unfold onS; simpa using h)
    go_enter Tryd.func25, Tryd.ntmps25
    go_wp2_with (first | (go_at_call 15; refine (rclock_any A B r n L false k _ M.out (by omega)).mono ?_; rintro e w' ⟨rfl, rfl⟩; rw [ck]) | (at_builtin; refine wpList_append_lies _ rfl (.tmp 18) (.tmp 25) 30 rfl B 61 i0 (.agg #[.int .i64 0, .int .i64 0, .int .u64 0]) 3 24 Tryd.underlying30 hi hz0 hz1 hz2 rfl (by decide) v L.length (cellsL L) rfl (owns_kept OW.out (Only.alloc [] _ _) (by simp)) ⟨w.heap.size, 0, none⟩ 1 1 [.int .i64 k, .int .i64 j, .int .u64 (cut L k x)] rfl rfl NW.out (by simp [Value.oneCell']) (by decide) (by unfold maxLen; omega) (by omega) (by simp; omega) _ rfl ?_; intro g c w1 hown hgrow hat hlt; refine Shut.out ?_))
    show wpList _ _ _ _ _ _
    obtain ⟨hP, hFar⟩ := M.out.put OW.out V3.out V4.out hgrow ⟨k, j, cut L k x⟩ hown hat GD.out
    have fz : w1.frozen? ⟨r, 1, none⟩ = false := by have := hP.f1; rwa [World.frozen?_setCell] at this
    obtain ⟨z, cz⟩ : ∃ z, w1.cell? ⟨r, 1, none⟩ = some z := ⟨v, (((grown_only hgrow).cell (b := r) (by simp; omega) (by simpa using V3.out) 1).trans ((Only.alloc [] w _).cell hr (by simp) 1)).trans h1⟩
    have fy := hP.f2
    have cy := hP.c2
    have PP := Lib.hid hP
    have FF := Lib.hid hFar
    clear hown hgrow hat hP hFar
    go_wp2
    go_ret
    unfold REnd on
    rw [ES.out]
    exact ⟨rfl, PP.out, FF.out⟩
theorem REnd.of {A : List Nat} {B r n : Nat} {a w : World} {q : Res} {e : Ending} {w' : World} (h : Far A B a w) (k : REnd A B r n w q e w') : REnd A B r n a q e w' := ⟨k.1, k.2.1, h.trans k.2.2⟩
set_option maxHeartbeats 1000000 in
theorem rdo_run (A : List Nat) (B r n k j : Nat) (L : List Ent) (t : Int) (w : World) (hM : RMet A B w r n L false) (hl : L.length ≤ 900) (hk : k < n) (j1 : 1 ≤ j) (hj : j ≤ 8) (t0 : 0 ≤ t) (t1 : t < 18446744073709551616) (hB : B ≤ w.heap.size) :
    Calls Tryd.prog 12 #[.pointer (some ⟨r, 0, none⟩), .int .i64 k, .int .i64 j, .int .u64 t] w (REnd A B r n w (on L k j (amt j t))) := by
  have hn4 := hM.small
  have c0 := hM.c0
  have cb := cost_bounds j
  have cy := cost_yes j ⟨by omega, by omega⟩
  have pb := Int.mul_nonneg cb.1 t0
  have d0 : decide ((k : Int) < 0) = false := by simp
  have d1 : decide ((n : Int) ≤ (k : Int)) = false := by simp; omega
  have d2 : (cost (j : Int) == 0) = false := by simp; omega
  have M := Lib.hid hM
  clear hM
  go_enter Tryd.func12, Tryd.ntmps12
  go_wp2_with fail
  refine (rcost_any j w).mono ?_
  rintro e w1 ⟨rfl, hO1⟩
  have M1 := Lib.hid (M.out.kept hO1 (by simp))
  have c2 := M1.out.c2
  have O1 := Lib.hid hO1
  clear hO1
  go_wp2_with fail
  refine (rcost_any j w1).mono ?_
  rintro e w2 ⟨rfl, hO2⟩
  have M2 := Lib.hid (M1.out.kept hO2 (by simp))
  have O2 := Lib.hid (O1.out.next hO2 (by simp))
  clear hO2 c2 O1 M1
  go_wp2_with fail
  refine (Rf.rmul_any (cost j) t w2 cb.1 (by omega) t0 t1).mono ?_
  rintro e w3 ⟨rfl, hb3⟩
  have hO3 := Only.of hb3 []
  have hO4 := Only.alloc [] w3 (.cells #[.int .u64 (cost j * t / 18446744073709551616), .int .u64 (cost j * t % 18446744073709551616)] 56)
  have M4 := Lib.hid ((M2.out.kept hO3 (by simp)).kept hO4 (by simp))
  have O4 := Lib.hid ((O2.out.next hO3 (by simp)).next hO4 (by simp))
  have a0 : (w3.alloc (.cells #[.int .u64 (cost j * t / 18446744073709551616), .int .u64 (cost j * t % 18446744073709551616)] 56)).cell? ⟨w3.heap.size, 0, none⟩ = some (.int .u64 (cost j * t / 18446744073709551616)) := by simp
  have a1 : (w3.alloc (.cells #[.int .u64 (cost j * t / 18446744073709551616), .int .u64 (cost j * t % 18446744073709551616)] 56)).cell? ⟨w3.heap.size, 1, none⟩ = some (.int .u64 (cost j * t % 18446744073709551616)) := by simp
  have sz := O4.out.size
  clear hb3 hO3 hO4 M2 O2
  by_cases h : 18446744073709551616 ≤ cost j * t
  · have E := Lib.hid (show amt j t = 4611686018427387904 from if_pos h)
    have g : decide (0 < cost (j : Int) * t / 18446744073709551616) = true := by simp; omega
    clear h pb cb
    go_wp2_with fail
    refine (ron_any A B r n k j L 4611686018427387904 _ M4.out hl hk hj (by decide) (by omega)).mono ?_
    rintro e w5 ⟨rfl, hP, hF⟩
    have PP := Lib.hid hP
    have FF := Lib.hid ((Far.of O4.out).trans hF)
    clear hP hF
    go_wp2
    go_ret
    rw [E.out]
    exact ⟨rfl, PP.out, FF.out⟩
  · have E := Lib.hid (show amt j t = cost j * t % 18446744073709551616 by unfold amt; rw [if_neg h]; omega)
    have g : decide (0 < cost (j : Int) * t / 18446744073709551616) = false := by simp; omega
    have x0 : 0 ≤ cost (j : Int) * t % 18446744073709551616 := by omega
    clear h cb
    go_wp2_with fail
    refine (ron_any A B r n k j L (cost j * t % 18446744073709551616) _ M4.out hl hk hj x0 (by omega)).mono ?_
    rintro e w5 ⟨rfl, hP, hF⟩
    have PP := Lib.hid hP
    have FF := Lib.hid ((Far.of O4.out).trans hF)
    clear hP hF
    go_wp2
    go_ret
    rw [E.out]
    exact ⟨rfl, PP.out, FF.out⟩
theorem rdo_any (A : List Nat) (B r n : Nat) (L : List Ent) (s : Bool) (k j t : Int) (w : World) (hM : RMet A B w r n L s) (hl : L.length ≤ 900) (t0 : 0 ≤ t) (t1 : t < 18446744073709551616) (hB : B ≤ w.heap.size) :
    Calls Tryd.prog 12 #[.pointer (some ⟨r, 0, none⟩), .int .i64 k, .int .i64 j, .int .u64 t] w (REnd A B r n w (charge n L s k j t)) := by
  have hn4 := hM.small
  have c0 := hM.c0
  have M := Lib.hid hM
  cases hb : inR n k
  · have E := Lib.hid (show charge n L s k j t = ⟨11, L, s⟩ by unfold charge; rw [if_neg (by rw [hb]; simp)])
    have hk := inR_no hb
    by_cases h0 : k < 0
    · have d0 : decide (k < 0) = true := by simpa using h0
      clear hb hk hM
      go_enter Tryd.func12, Tryd.ntmps12
      go_wp2
      go_ret
      rw [E.out]
      exact ⟨rfl, M.out, Far.of (Only.refl _ _)⟩
    · have d0 : decide (k < 0) = false := by simpa using h0
      have d1 : decide ((n : Int) ≤ k) = true := by simp; omega
      clear hb hk hM
      go_enter Tryd.func12, Tryd.ntmps12
      go_wp2
      go_ret
      rw [E.out]
      exact ⟨rfl, M.out, Far.of (Only.refl _ _)⟩
  · obtain ⟨q, rfl, hq⟩ := inR_yes hb
    have d0 : decide ((q : Int) < 0) = false := by simp
    have d1 : decide ((n : Int) ≤ (q : Int)) = false := by simp; omega
    by_cases hj : 1 ≤ j ∧ j ≤ 8
    · cases s
      · obtain ⟨i, rfl⟩ := Int.eq_ofNat_of_zero_le (show 0 ≤ j by omega)
        have E : charge n L false q i t = on L q i (amt i t) := by unfold charge; rw [if_pos ⟨hb, hj⟩]; rfl
        rw [E]
        exact rdo_run A B r n q i L t w hM hl hq (by omega) (by omega) t0 t1 hB
      · have E := Lib.hid (show charge n L true q j t = ⟨22, L, true⟩ by unfold charge; rw [if_pos ⟨hb, hj⟩]; rfl)
        have cy := cost_yes j hj
        have d2 : (cost j == 0) = false := by simp; omega
        clear hM hb hj cy
        go_enter Tryd.func12, Tryd.ntmps12
        go_wp2_with fail
        refine (rcost_any j w).mono ?_
        rintro e w1 ⟨rfl, hO1⟩
        have M1 := Lib.hid (M.out.kept hO1 (by simp))
        have c2 := M1.out.c2
        have O1 := Lib.hid hO1
        clear hO1
        go_wp2
        go_ret
        rw [E.out]
        exact ⟨rfl, M1.out, Far.of O1.out⟩
    · have E := Lib.hid (show charge n L s q j t = ⟨11, L, s⟩ by unfold charge; rw [if_neg (fun g => hj g.2)])
      have cy := cost_no j hj
      have d2 : (cost j == 0) = true := by simp [cy]
      clear hM hb hj cy
      go_enter Tryd.func12, Tryd.ntmps12
      go_wp2_with fail
      refine (rcost_any j w).mono ?_
      rintro e w1 ⟨rfl, hO1⟩
      have M1 := Lib.hid (M.out.kept hO1 (by simp))
      have O1 := Lib.hid hO1
      clear hO1
      go_wp2
      go_ret
      rw [E.out]
      exact ⟨rfl, M1.out, Far.of O1.out⟩
theorem rwait_any (A : List Nat) (B r n : Nat) (L : List Ent) (s : Bool) (k t : Int) (w : World) (hM : RMet A B w r n L s) (hl : L.length ≤ 900) (t1 : t < 18446744073709551616) (hB : B ≤ w.heap.size) :
    Calls Tryd.prog 10 #[.pointer (some ⟨r, 0, none⟩), .int .i64 k, .int .u64 t] w (REnd A B r n w (wait n L s k t)) := by
  have hn4 := hM.small
  have c0 := hM.c0
  have c2 := hM.c2
  have M := Lib.hid hM
  cases hb : inR n k
  · have E := Lib.hid (show wait n L s k t = ⟨11, L, s⟩ by unfold wait; rw [if_neg (by rw [hb]; simp)])
    have hk := inR_no hb
    by_cases h0 : k < 0
    · have d0 : decide (k < 0) = true := by simpa using h0
      clear hb hk hM
      go_enter Tryd.func10, Tryd.ntmps10
      go_wp2
      go_ret
      rw [E.out]
      exact ⟨rfl, M.out, Far.of (Only.refl _ _)⟩
    · have d0 : decide (k < 0) = false := by simpa using h0
      have d1 : decide ((n : Int) ≤ k) = true := by simp; omega
      clear hb hk hM
      go_enter Tryd.func10, Tryd.ntmps10
      go_wp2
      go_ret
      rw [E.out]
      exact ⟨rfl, M.out, Far.of (Only.refl _ _)⟩
  · obtain ⟨q, rfl, hq⟩ := inR_yes hb
    have d0 : decide ((q : Int) < 0) = false := by simp
    have d1 : decide ((n : Int) ≤ (q : Int)) = false := by simp; omega
    have ck : clkA n L q = clk L q := by unfold clkA; rw [if_pos hb]; rfl
    cases s
    · by_cases h : t ≤ clk L q
      · have E := Lib.hid (show wait n L false q t = ⟨0, L, false⟩ by unfold wait; rw [if_pos hb, if_neg (by simp)]; exact if_pos h)
        have d2 : decide (t ≤ clk L q) = true := by simpa using h
        clear hM hb
        go_enter Tryd.func10, Tryd.ntmps10
        go_wp2_with (go_at_call 15; refine (rclock_any A B r n L false q _ M.out (by omega)).mono ?_; rintro e w' ⟨rfl, rfl⟩; rw [ck])
        go_ret
        rw [E.out]
        exact ⟨rfl, M.out, Far.of (Only.refl _ _)⟩
      · have E := Lib.hid (show wait n L false q t = on L q 0 (t - clk L q) by unfold wait; rw [if_pos hb, if_neg (by simp)]; exact if_neg h)
        have d2 : decide (t ≤ clk L q) = false := by simpa using h
        have g0 := hM.good.clk0 q
        have b0 : 0 ≤ t - clk L q := by omega
        clear hM hb
        go_enter Tryd.func10, Tryd.ntmps10
        go_wp2_with (go_at_call 15; refine (rclock_any A B r n L false q _ M.out (by omega)).mono ?_; rintro e w' ⟨rfl, rfl⟩; rw [ck])
        refine (ron_any A B r n q 0 L (t - clk L q) _ M.out hl hq (by decide) b0 hB).mono ?_
        rintro e w5 ⟨rfl, hP, hF⟩
        have PP := Lib.hid hP
        have FF := Lib.hid hF
        clear hP hF
        go_wp2
        go_ret
        rw [E.out]
        exact ⟨rfl, PP.out, FF.out⟩
    · have E := Lib.hid (show wait n L true q t = ⟨22, L, true⟩ by unfold wait; rw [if_pos hb]; rfl)
      clear hM hb
      go_enter Tryd.func10, Tryd.ntmps10
      go_wp2
      go_ret
      rw [E.out]
      exact ⟨rfl, M.out, Far.of (Only.refl _ _)⟩
end Mt
end Go.Proofs.YtalaalpafafpbaaDoor
