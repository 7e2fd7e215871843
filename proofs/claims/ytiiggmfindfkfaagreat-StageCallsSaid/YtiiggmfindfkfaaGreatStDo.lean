/-
  What stage's do does: a call on a space, whose panic with an error's number is told. Conditions: that a space lies there.
-/
import Derived.Test.YtiiggmfindfkfaaGreatStStep
import Derived.Test.YtiiggmfindfkfaaGreatStLook
import Derived.Tactics
import Derived.Tactics2
import Derived.Defers
import Derived.Recover
import Derived.Laws.Pointers
namespace Go.Proofs.YtiiggmfindfkfaaGreat
open Go.RowKit Nt
namespace St
open Ph En Wk
set_option maxRecDepth 100000 in
/-- The deferred closure where there was a panic: its number is told. -/
theorem catch_panicking (b : Nat) (k q : Int) (older : List PanicEntry) (w : World) (hb : w.cell? ⟨b, 0, none⟩ = some (.int .i64 q)) (hf : w.frozen? ⟨b, 0, none⟩ = false) :
    CallsD Tryz.prog 92 #[.pointer (some ⟨b, 0, none⟩)] (.panicking ({ v := .iface 29 (.int .i64 k), recovered := false } :: older)) w fun e u' w' =>
      e = .returned (.tuple #[]) ∧ u' = .panicking ({ v := .iface 29 (.int .i64 k), recovered := true } :: older) ∧ w' = w.setCell ⟨b, 0, none⟩ (.int .i64 k) := by
  refine callsD_of_wpS Tryz.func92 rfl fun c₀ cs hu => ?_
  have ta : ∀ w, (Instr.typeAssert (.iface 29 (.int .i64 k)) 20 29 true).run Tryz.prog w = .ok (.tuple #[.int .i64 k, .bool true]) w := fun _ => by kernel_rfl
  have tm : #[Value.pointer (some ⟨b, 0, none⟩)] ++ Array.replicate (Tryz.f92.ntmps - #[Value.pointer (some ⟨b, 0, none⟩)].size) undef = #[Value.pointer (some ⟨b, 0, none⟩), undef, undef, undef, undef, undef, undef, undef, undef, undef, undef, undef, undef, undef, undef] := by kernel_rfl
  rw [tm]
  clear tm
  apply wpS_seq
  apply wpS_region
  simp [wpOpsS, go_sem, recoverD, hu, Exit.thenS]
  refine wpS_of_wp ?_
  go_wp2
  simp only [bodyPostS]
  have hr : ∀ tm w, (results Tryz.f92 tm).run Tryz.prog w = .ok (.tuple #[]) w := fun tm w => by simp [results, Tryz.results92, go_sem]
  refine And.intro True.intro ?_
  exact ⟨_, rfl, .tuple #[], hr _ _, rfl, by trivial⟩
set_option maxRecDepth 100000 in
/-- The deferred closure where there was none. -/
theorem catch_idle (b : Nat) (w : World) :
    CallsD Tryz.prog 92 #[.pointer (some ⟨b, 0, none⟩)] .returning w fun e u' w' =>
      e = .returned (.tuple #[]) ∧ u' = .returning ∧ w' = w := by
  refine callsD_of_wpS Tryz.func92 rfl fun c₀ cs hu => ?_
  have ta : ∀ w, (Instr.typeAssert .nilIface 20 29 true).run Tryz.prog w = .ok (.tuple #[.int .i64 0, .bool false]) w := fun _ => by kernel_rfl
  have tm : #[Value.pointer (some ⟨b, 0, none⟩)] ++ Array.replicate (Tryz.f92.ntmps - #[Value.pointer (some ⟨b, 0, none⟩)].size) undef = #[Value.pointer (some ⟨b, 0, none⟩), undef, undef, undef, undef, undef, undef, undef, undef, undef, undef, undef, undef, undef, undef] := by kernel_rfl
  rw [tm]
  clear tm
  apply wpS_seq
  apply wpS_region
  simp [wpOpsS, go_sem, recoverD, hu, Exit.thenS]
  refine wpS_of_wp ?_
  go_wp2
  have hr : ∀ tm w, (results Tryz.f92 tm).run Tryz.prog w = .ok (.tuple #[]) w := fun tm w => by simp [results, Tryz.results92, go_sem]
  simp only [bodyPostS]
  refine And.intro True.intro ?_
  exact ⟨.returning, by cases c₀; simp_all, .tuple #[], hr _ _, rfl, by trivial⟩
/-- How what is done in a call ends: it has returned, or panicked with an error's number. -/
def CEnd (L : Loc) (v : Value) (k : Int) (x' : Pl) (u : World) (e : Ending) (w' : World) : Prop := (e = if k = 0 then .returned (.tuple #[]) else panE k) ∧ ∃ v', St L w' v' x' ∧ Hop L.S v v' u w'
/-- How a call ends. -/
def OEnd (L : Loc) (v : Value) (k : Int) (x' : Pl) (u : World) (e : Ending) (w' : World) : Prop := e = .returned (.int .i64 k) ∧ ∃ v', St L w' v' x' ∧ Hop L.S v v' u w'
variable {L : Loc} {v : Value} {x : Pl} {A : Nat → Fst}
theorem Hop.nil {S : List Nat} {w w' : World} (h : Only S w w') (v : Value) : Hop S v (.slice none 0 0) w w' :=
  ⟨h.os, h.tape, h.output, h.size, fun k hk hs _ => h.block k hk hs, fun k _ e => by simp [Value.ownBlock] at e⟩
set_option maxRecDepth 100000 in
theorem do_any (K : Nat) (caps : Array Value) (k : Int) (x' : Pl) (w : World) (hK : ∀ (args : Array Value) (w : World), (callFunc K args).run Tryz.prog w = .ok (.enter K args) w) (hS : St L w v x) (hg : x.gone = false)
    (hC : ∀ u, St L u (.slice none 0 0) x.noLog → Hop L.S v (.slice none 0 0) w u → Calls Tryz.prog K caps u (CEnd L (.slice none 0 0) k x' u)) :
    Calls Tryz.prog 52 #[.pointer (some ⟨L.s, 0, none⟩), .func (.func K) #[] caps] w (OEnd L v k x' w) := by
  have hmf : ∀ (fn : Fn) (first cap : Array Value) (w : World), (Instr.makeFunc fn first cap).run Tryz.prog w = .ok (.func fn first cap) w := fun _ _ _ _ => rfl
  have S0 := Lib.hid (hS.alloc (.cells #[.int .i64 0] 29))
  have O0 := Lib.hid (Only.alloc L.S w (.cells #[.int .i64 0] 29))
  have Y0 := Lib.hid (Tl.Lay.new w 29 [.int .i64 0])
  have hlt := hS.lts
  have HC := Lib.hid hC
  have k6 := S0.out.c6
  have f6 := S0.out.fr 6
  have c5 := S0.out.c5
  rw [hg] at c5
  clear hS hC hg
  go_enter_defers Tryz.func52, Tryz.ntmps52
  go_wp2_with (go_at_call 56; refine (need_yes _ _).mono ?_; rintro e w' ⟨rfl, rfl⟩)
  have o1 : Only [L.s] (w.alloc (.cells #[.int .i64 0] 29)) ((w.alloc (.cells #[.int .i64 0] 29)).setCell ⟨L.s, 6, none⟩ (.slice none 0 0)) := Only.setCell _ (by simp) 6 _
  have S1 := Lib.hid S0.out.noLog
  have P1 := Lib.hid (Hop.nil (O0.out.trans (o1.mono (S' := L.S) (by simp [Loc.S]))) v)
  have nS : w.heap.size ∉ L.all := fun h => by have := hlt _ h; omega
  have Y1 := Lib.hid (Y0.out.kept o1 (by simp; exact fun e => nS (by simp [Loc.all, e])))
  clear o1 k6 f6 c5 S0 O0 Y0
  generalize (w.alloc (.cells #[.int .i64 0] 29)).setCell ⟨L.s, 6, none⟩ (.slice none 0 0) = u at *
  refine (HC.out u S1.out P1.out).mono ?_
  rintro e w1 ⟨hE, v1, hS, hP⟩
  have S2 := Lib.hid hS
  have P2 := Lib.hid hP
  have Y2 := Lib.hid (hP.lay Y1.out (fun h => nS (by simp [Loc.S] at h; simp [Loc.all]; omega)) (by simp [Value.ownBlock]))
  have V2 := Lib.hid (hP.off Y1.out.lt (by simp [Value.ownBlock]))
  clear hS hP S1 Y1 HC
  have b0 := Y2.out.cell 0
  have g0 := Y2.out.free 0
  simp only [List.getElem?_cons_zero] at b0
  have res : ∀ (tm : Array Value) (w' : World) (k : Int), tm[4]? = some (.pointer (some ⟨w.heap.size, 0, none⟩)) → w'.cell? ⟨w.heap.size, 0, none⟩ = some (.int .i64 k) → (results Tryz.f52 tm).run Tryz.prog w' = .ok (.int .i64 k) w' := fun tm w' k ht hN => by
    simp [results, Tryz.results52, go_sem, ht, hN]
  have fin : ∀ (z : Int), St L (w1.setCell ⟨w.heap.size, 0, none⟩ (.int .i64 z)) v1 x' ∧ Hop L.S v v1 w (w1.setCell ⟨w.heap.size, 0, none⟩ (.int .i64 z)) := fun z => by
    have o : Only [w.heap.size] w1 (w1.setCell ⟨w.heap.size, 0, none⟩ (.int .i64 z)) := Only.setCell w1 (by simp) 0 _
    refine ⟨S2.out.kept o (fun k hk h => nS (by simp at h; rw [← h]; exact hk)) (fun k hk => by simp at hk; rw [hk]; exact V2.out), ?_⟩
    have p := P1.out.trans P2.out
    exact ⟨o.os.trans p.os, o.tape.trans p.tape, o.output.trans p.output, Nat.le_trans p.size o.size, fun k hk hs hv => (o.block k (Nat.lt_of_lt_of_le hk p.size) (by simp; omega)).trans (p.block k hk hs hv), p.far⟩
  have cel : ∀ (z : Int), (w1.setCell ⟨w.heap.size, 0, none⟩ (.int .i64 z)).cell? ⟨w.heap.size, 0, none⟩ = some (.int .i64 z) := fun z => World.cell?_setCell_same' _ _ _ (by rw [b0]; rfl)
  clear S2 P2 V2 Y2 P1
  by_cases hk : k = 0
  · rw [if_pos hk] at hE
    subst hE
    have RT := Lib.hid res
    have FI := Lib.hid fin
    have CE := Lib.hid cel
    have HK0 := Lib.hid hk
    clear res fin cel hk
    go_wp2
    refine leaves_cons (f := 92) (args := #[.pointer (some ⟨w.heap.size, 0, none⟩)]) (by simp) (by simp [go_sem]) ?_
    refine (catch_idle w.heap.size _).mono ?_
    rintro e u' w2 ⟨rfl, rfl, rfl⟩
    exact ⟨_, RT.out _ _ 0 rfl (CE.out 0), by rw [HK0.out], v1, FI.out 0⟩
  · rw [if_neg hk] at hE
    subst hE
    unfold panE
    refine leaves_cons (f := 92) (args := #[.pointer (some ⟨w.heap.size, 0, none⟩)]) (by simp) (by simp [go_sem]) ?_
    refine (catch_panicking w.heap.size k 0 [] w1 b0 g0).mono ?_
    rintro e u' w2 ⟨rfl, rfl, rfl⟩
    exact ⟨_, res _ _ k rfl (cel k), rfl, v1, fin k⟩
set_option maxRecDepth 100000 in
theorem do_gone (K : Nat) (caps : Array Value) (w : World) (hS : St L w v x) (hg : x.gone = true) :
    Calls Tryz.prog 52 #[.pointer (some ⟨L.s, 0, none⟩), .func (.func K) #[] caps] w (OEnd L v 20 x.noLog w) := by
  have hmf : ∀ (fn : Fn) (first cap : Array Value) (w : World), (Instr.makeFunc fn first cap).run Tryz.prog w = .ok (.func fn first cap) w := fun _ _ _ _ => rfl
  have S0 := Lib.hid (hS.alloc (.cells #[.int .i64 0] 29))
  have O0 := Lib.hid (Only.alloc L.S w (.cells #[.int .i64 0] 29))
  have Y0 := Lib.hid (Tl.Lay.new w 29 [.int .i64 0])
  have hlt := hS.lts
  have k6 := S0.out.c6
  have f6 := S0.out.fr 6
  have c5 := S0.out.c5
  rw [hg] at c5
  clear hS hg
  go_enter_defers Tryz.func52, Tryz.ntmps52
  go_wp2_with fail
  have o1 : Only [L.s] (w.alloc (.cells #[.int .i64 0] 29)) ((w.alloc (.cells #[.int .i64 0] 29)).setCell ⟨L.s, 6, none⟩ (.slice none 0 0)) := Only.setCell _ (by simp) 6 _
  have S1 := Lib.hid S0.out.noLog
  have P1 := Lib.hid (Hop.nil (O0.out.trans (o1.mono (S' := L.S) (by simp [Loc.S]))) v)
  have nS : w.heap.size ∉ L.all := fun h => by have := hlt _ h; omega
  have Y1 := Lib.hid (Y0.out.kept o1 (by simp; exact fun e => nS (by simp [Loc.all, e])))
  clear o1 k6 f6 c5 S0 O0 Y0
  generalize (w.alloc (.cells #[.int .i64 0] 29)).setCell ⟨L.s, 6, none⟩ (.slice none 0 0) = u at *
  refine (need_no _ _).mono ?_
  rintro e w' ⟨rfl, rfl⟩
  have b0 := Y1.out.cell 0
  have g0 := Y1.out.free 0
  simp only [List.getElem?_cons_zero] at b0
  have res : ∀ (tm : Array Value) (w' : World) (k : Int), tm[4]? = some (.pointer (some ⟨w.heap.size, 0, none⟩)) → w'.cell? ⟨w.heap.size, 0, none⟩ = some (.int .i64 k) → (results Tryz.f52 tm).run Tryz.prog w' = .ok (.int .i64 k) w' := fun tm w' k ht hN => by
    simp [results, Tryz.results52, go_sem, ht, hN]
  have o : Only [w.heap.size] u (u.setCell ⟨w.heap.size, 0, none⟩ (.int .i64 20)) := Only.setCell u (by simp) 0 _
  have fs : St L (u.setCell ⟨w.heap.size, 0, none⟩ (.int .i64 20)) (.slice none 0 0) x.noLog := S1.out.kept o (fun k hk h => nS (by simp at h; rw [← h]; exact hk)) (fun k hk => by simp [Value.ownBlock])
  have fp : Hop L.S v (.slice none 0 0) w (u.setCell ⟨w.heap.size, 0, none⟩ (.int .i64 20)) := by
    have p := P1.out
    exact ⟨o.os.trans p.os, o.tape.trans p.tape, o.output.trans p.output, Nat.le_trans p.size o.size, fun k hk hs hv => (o.block k (Nat.lt_of_lt_of_le hk p.size) (by simp; omega)).trans (p.block k hk hs hv), p.far⟩
  have cel : (u.setCell ⟨w.heap.size, 0, none⟩ (.int .i64 20)).cell? ⟨w.heap.size, 0, none⟩ = some (.int .i64 20) := World.cell?_setCell_same' _ _ _ (by rw [b0]; rfl)
  unfold panE
  refine leaves_cons (f := 92) (args := #[.pointer (some ⟨w.heap.size, 0, none⟩)]) (by simp) (by simp [go_sem]) ?_
  refine (catch_panicking w.heap.size 20 0 [] u b0 g0).mono ?_
  rintro e u' w2 ⟨rfl, rfl, rfl⟩
  exact ⟨_, res _ _ 20 rfl cel, rfl, .slice none 0 0, fs, fp⟩
/-- Also where the space is gone. -/
def gon (x : Pl) (r : Res) : Res := if x.gone = true then ⟨20, x.noLog, r.A⟩ else r
theorem do_all (K : Nat) (caps : Array Value) (r : Res) (w : World) (hK : ∀ (args : Array Value) (w : World), (callFunc K args).run Tryz.prog w = .ok (.enter K args) w) (hS : St L w v x)
    (hC : x.gone = false → ∀ u, St L u (.slice none 0 0) x.noLog → Hop L.S v (.slice none 0 0) w u → Calls Tryz.prog K caps u (CEnd L (.slice none 0 0) r.k r.x u)) :
    Calls Tryz.prog 52 #[.pointer (some ⟨L.s, 0, none⟩), .func (.func K) #[] caps] w (OEnd L v (gon x r).k (gon x r).x w) := by
  unfold gon
  cases hg : x.gone with
  | true => rw [if_pos rfl]; exact do_gone K caps w hS hg
  | false => rw [if_neg (by simp)]; exact do_any K caps r.k r.x w hK hS hg (hC hg)
end St
end Go.Proofs.YtiiggmfindfkfaaGreat
