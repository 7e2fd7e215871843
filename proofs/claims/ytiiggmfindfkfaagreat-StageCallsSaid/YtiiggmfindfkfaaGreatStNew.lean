/-
  What stage's New makes, where a frame is nobody's. Conditions: that a memory, a table of frames and a TLB lie there.
-/
import Derived.Test.YtiiggmfindfkfaaGreatStDes
namespace Go.Proofs.YtiiggmfindfkfaaGreat
open Go.RowKit Nt
namespace St
open Ph En Wk
variable {L : Loc} {v : Value} {x : Pl} {A : Nat → Fst}
set_option maxRecDepth 100000 in
set_option maxHeartbeats 1000000 in
theorem new1_any (bs bv t : Nat) (w : World) (hS : St L w v x) (hv : 1 ≤ L.vm ∧ L.vm ≤ 255) (hp : Fr.spot 1 x.os = some t) (htn : t < L.n) (Bs : Bx L w v bs (.pointer (some ⟨L.s, 0, none⟩))) (Bv : Bx L w v bv (.int .i64 (L.vm : Int))) :
    Calls Tryz.prog 77 #[.pointer (some ⟨bv, 0, none⟩), .pointer (some ⟨bs, 0, none⟩)] w (CEnd L v 0 { x.took t with root := t } w) := by
  have cs := Bs.c
  have cv := Bv.c
  have HS := Lib.hid (hS.drewN 1)
  have O0 := Lib.hid (Only.drewN L.S w 1)
  have X0 := Lib.hid (Bs.drewN 1)
  change Hid (St L w.drew v x) at HS
  change Hid (Only L.S w w.drew) at O0
  change Hid (Bx L w.drew v _ _) at X0
  have d1 : decide ((1 : Int) ≤ (L.vm : Int)) = true := decide_eq_true (by omega)
  have d2 : decide ((L.vm : Int) ≤ 255) = true := decide_eq_true (by omega)
  obtain ⟨vm, hvm⟩ : ∃ vm : Int, vm = (L.vm : Int) := ⟨_, rfl⟩
  rw [← hvm] at d1 d2 cv
  clear hvm hv
  have HP := Lib.hid hp
  clear hS Bs Bv hp
  go_enter Tryz.func77, Tryz.ntmps77
  go_wp2_with (go_at_call 56; refine (need_yes _ _).mono ?_; rintro e w' ⟨rfl, rfl⟩)
  clear cs cv
  refine wp_region_held_drew (S := fun w' => w'.cell? ⟨bs, 0, none⟩ = some (.pointer (some ⟨L.s, 0, none⟩))) (by kernel_rfl) X0.out.c (fun hHeld => ?_)
  generalize w.drew = u at *
  refine wpAnyH_take (i := 0) (v := (.pointer (some ⟨L.s, 0, none⟩))) rfl (by kernel_rfl) (by kernel_rfl) (by kernel_rfl) (fun _ _ _ h => h) (y_sp (bs) 0 (some ⟨L.s, 0, none⟩) (.tmp 1) (by kernel_rfl) (fun _ h => h) rfl rfl) hHeld ?_
  try simp only [Act.put, List.setIfInBounds_toArray]
  refine wpAnyH_take (i := 1) (v := (.pointer (some ⟨L.s, 0, none⟩))) rfl (by kernel_rfl) (by kernel_rfl) (by kernel_rfl) (fun _ _ _ h => h) (y_sp (bs) 0 (some ⟨L.s, 0, none⟩) (.tmp 1) (by kernel_rfl) (fun _ h => h) rfl rfl) hHeld ?_
  try simp only [Act.put]
  refine wpAnyH_ready (rs := [2]) (by kernel_rfl) (by simp) ?_
  refine AllReadyH.cons (o := ⟨some 11, .call _, _, _, _, _⟩) rfl (fun K hK => ?_) AllReadyH.nil
  go_simp
  refine (take_yes t u HS.out HP.out htn).mono ?_
  rintro e w1 ⟨rfl, hS, hO⟩
  have S1 := Lib.hid hS
  have O1 := Lib.hid (O0.out.trans hO)
  have X1 := Lib.hid (X0.out.only hO)
  refine hK.out _ _ X1.out.c (fun hHeld => ?_)
  clear hK K HS O0 X0
  try simp only [Act.put, List.setIfInBounds_toArray, List.set_cons_zero, List.set_cons_succ]
  refine wpAnyH_take (i := 3) (v := (.pointer (some ⟨L.s, 0, none⟩))) rfl (by kernel_rfl) (by kernel_rfl) (by kernel_rfl) (fun _ _ _ h => h) (y_run (by kernel_rfl) (fun _ => by kernel_rfl)) hHeld ?_
  try simp only [Act.put, List.setIfInBounds_toArray]
  refine wpAnyH_take (i := 4) (v := (.pointer (some ⟨L.s, 4, none⟩))) rfl (by kernel_rfl) (by kernel_rfl) (by kernel_rfl) (fun _ _ _ h => h) (y_run (by kernel_rfl) (fun _ => by kernel_rfl)) hHeld ?_
  try simp only [Act.put]
  have c4 := hS.c4
  have f4 := hS.fr 4
  have S2 := Lib.hid (hS.setRoot t)
  have o2 : Only [L.s] w1 (w1.setCell ⟨L.s, 4, none⟩ (.int .i64 (t : Int))) := Only.setCell _ (by simp) 4 _
  have O2 := Lib.hid (O1.out.trans (o2.mono (S' := L.S) (by simp [Loc.S])))
  have X2 := Lib.hid (X1.out.only (o2.mono (S' := L.S) (by simp [Loc.S])))
  clear hS hO S1 O1 X1 o2
  refine wpAnyH_ready (rs := [5]) (by kernel_rfl) (by simp) ?_
  refine AllReadyH.cons (o := ⟨none, .store _ _ _, _, _, _, _⟩) rfl (fun K hK => ?_) AllReadyH.nil
  go_simp
  refine hK.out _ _ X2.out.c (fun hHeld => ?_)
  clear hK K c4 f4
  try simp only [Act.put, List.setIfInBounds_toArray, List.set_cons_zero, List.set_cons_succ]
  refine wpAnyH_done (by kernel_rfl) ?_ _
  go_wp2
  go_end0
  exact cend_ok S2.out (Hop.of O2.out v)
/-- What a new space is. -/
def newP (z : Nat → Int) (os : List Nat) (next : Nat) (ps : List (Option Tl.SlotT)) (t : Nat) : Pl := ⟨fil z t, os.set t 1, next, ps, t, false, []⟩
theorem rep_new {n : Nat} {z : Nat → Int} {os : List Nat} {next t : Nat} {ps : List (Option Tl.SlotT)} (hb : By n z) (hf : n ≤ 1024) (hl : os.length = n) (ht : os[t]? = some 0) : Rep n (newP z os next ps t) (fun _ => .no) := by
  have htn : t < n := by rw [← hl]; exact (List.getElem?_eq_some_iff.1 ht).1
  refine ⟨hb.fil t, hf, by show (os.set t 1).length = n; rw [List.length_set]; exact hl, htn, List.getElem?_set_self (by rw [hl]; exact htn), rfl, fun i hi => ?_, fun i _ => trivial, fun i j t pg pg' _ _ h _ => by cases h⟩
  show wd n (fil z t) t i = 0
  rw [wd_fil hi, if_pos rfl]
set_option maxRecDepth 100000 in
set_option maxHeartbeats 2000000 in
theorem new_yes (z : Nat → Int) (os : List Nat) (next t : Nat) (ps : List (Option Tl.SlotT)) (w : World) (hM : Mem w L.m L.F L.n L.c z) (hT : Fr.Tab w L.t L.tF os) (hP : Tl.Tlb w L.p L.pm L.room next ps) (ap : Apt L) (hs : L.s = w.heap.size + 1)
    (hv : 1 ≤ L.vm ∧ L.vm ≤ 255) (hp : Fr.spot 1 os = some t) (htn : t < L.n) :
    Calls Tryz.prog 34 #[.pointer (some ⟨L.m, 0, none⟩), .pointer (some ⟨L.t, 0, none⟩), .pointer (some ⟨L.p, 0, none⟩), .int .i64 (L.vm : Int)] w fun e w' => e = .returned (.tuple #[.pointer (some ⟨L.s, 0, none⟩), .int .i64 0]) ∧ ∃ v', St L w' v' (newP z os next ps t) ∧ Only L.S w w' ∧ ∀ k, v'.ownBlock = some k → w.heap.size ≤ k := by
  have hmf : ∀ (fn : Fn) (first cap : Array Value) (w : World), (Instr.makeFunc fn first cap).run Tryz.prog w = .ok (.func fn first cap) w := fun _ _ _ _ => rfl
  have o1 := Only.alloc [] w (.cells #[.int .i64 (L.vm : Int)] 3)
  have o2 := Only.alloc [] (w.alloc (.cells #[.int .i64 (L.vm : Int)] 3)) (.cells #[.pointer (some ⟨L.m, 0, none⟩), .pointer (some ⟨L.t, 0, none⟩), .pointer (some ⟨L.p, 0, none⟩), .int .i64 (L.vm : Int), .int .i64 0, .bool false, .slice none 0 0] 102)
  have e1 : (w.alloc (.cells #[.int .i64 (L.vm : Int)] 3)).heap.size = w.heap.size + 1 := by simp
  have y2 := Tl.Lay.new (w.alloc (.cells #[.int .i64 (L.vm : Int)] 3)) 102 [.pointer (some ⟨L.m, 0, none⟩), .pointer (some ⟨L.t, 0, none⟩), .pointer (some ⟨L.p, 0, none⟩), .int .i64 (L.vm : Int), .int .i64 0, .bool false, .slice none 0 0]
  rw [e1, ← hs] at y2
  have m2 := (hM.kept o1 (by simp) (by simp)).kept o2 (by simp) (by simp)
  have t2 := (hT.kept o1 (by simp) (by simp)).kept o2 (by simp) (by simp)
  have p2 := (hP.kept o1 (by simp) (by simp)).kept o2 (by simp) (by simp)
  have s2 : St L ((w.alloc (.cells #[.int .i64 (L.vm : Int)] 3)).alloc (.cells #[.pointer (some ⟨L.m, 0, none⟩), .pointer (some ⟨L.t, 0, none⟩), .pointer (some ⟨L.p, 0, none⟩), .int .i64 (L.vm : Int), .int .i64 0, .bool false, .slice none 0 0] 102)) (.slice none 0 0) ⟨z, os, next, ps, 0, false, []⟩ :=
    ⟨y2.lt, y2.cell 0, y2.cell 1, y2.cell 2, y2.cell 3, y2.cell 4, y2.cell 5, y2.cell 6, y2.free, m2, t2, p2, World.ownsRow_nil _ _ _ _, fun k e => by simp [Value.ownBlock] at e, ap⟩
  have b0 : Bx L (w.alloc (.cells #[.int .i64 (L.vm : Int)] 3)) (.slice none 0 0) w.heap.size (.int .i64 (L.vm : Int)) := by
    refine ⟨by simp, by simp, fun h => ?_, by simp [Value.ownBlock]⟩
    have h1 := hM.lt; have h2 := hM.row.lt; have h4 := hT.tb.lt; have h5 := hT.tb.row.lt; have h6 := hP.lt; have h7 := hP.map.lt
    simp only [Loc.all, List.mem_cons, List.not_mem_nil, or_false] at h
    omega
  have B0 := Lib.hid ((b0.alloc (.cells #[.pointer (some ⟨L.m, 0, none⟩), .pointer (some ⟨L.t, 0, none⟩), .pointer (some ⟨L.p, 0, none⟩), .int .i64 (L.vm : Int), .int .i64 0, .bool false, .slice none 0 0] 102)).alloc (.cells #[.pointer (some ⟨L.s, 0, none⟩)] 34))
  have B1 := Lib.hid (Bx.new (b := L.s + 1) s2 (.pointer (some ⟨L.s, 0, none⟩)) (34) (by rw [hs]; simp))
  have S0 := Lib.hid (s2.alloc (.cells #[.pointer (some ⟨L.s, 0, none⟩)] 34))
  have O0 := Lib.hid ((o1.trans o2).trans (Only.alloc [] _ (.cells #[.pointer (some ⟨L.s, 0, none⟩)] 34)))
  have HP := Lib.hid hp
  have HSE := Lib.hid hs
  have k0 := B1.out.c
  clear o1 o2 y2 m2 t2 p2 s2 b0 e1 hM hT hP hp hs
  go_enter Tryz.func34, Tryz.ntmps34
  go_wp2_with fail
  rw [← HSE.out]
  generalize ((w.alloc (.cells #[.int .i64 (L.vm : Int)] 3)).alloc (.cells #[.pointer (some ⟨L.m, 0, none⟩), .pointer (some ⟨L.t, 0, none⟩), .pointer (some ⟨L.p, 0, none⟩), .int .i64 (L.vm : Int), .int .i64 0, .bool false, .slice none 0 0] 102)).alloc (.cells #[.pointer (some ⟨L.s, 0, none⟩)] 34) = u at *
  refine (do_any 77 #[.pointer (some ⟨w.heap.size, 0, none⟩), .pointer (some ⟨L.s + 1, 0, none⟩)] 0 (newP z os next ps t) u (fun _ _ => by kernel_rfl) S0.out rfl (fun y hS hP => ?_)).mono ?_
  · exact new1_any (L.s + 1) w.heap.size t y hS hv HP.out htn (B1.out.hop hP) (B0.out.hop hP)
  · rintro e w1 ⟨rfl, v1, hS, hP⟩
    have hz := O0.out.size
    have F1 := Lib.hid (And.intro hS (And.intro ((O0.out.mono (S' := L.S) (by simp)).trans (hP.only rfl)) (show ∀ k, v1.ownBlock = some k → w.heap.size ≤ k from fun k e => by
      by_cases hk : k < u.heap.size
      · have := hP.far k hk e
        simp [Value.ownBlock] at this
      · omega)))
    have X1 := (B1.out.hop hP).c
    clear hS hP k0 B0 B1 S0 O0
    go_wp2
    go_ret2
    exact ⟨rfl, v1, F1.out.1, F1.out.2.1, F1.out.2.2⟩
end St
end Go.Proofs.YtiiggmfindfkfaaGreat
