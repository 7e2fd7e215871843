/-
  What stage's Map, MapRun, Unmap, Protect, Split and Merge answer, and leave. Conditions: that a space lies there that tells its pages, or is gone, and that each argument is of its Go type.
-/
import Derived.Test.YtiiggmfindfkfaaGreatStClo2
namespace Go.Proofs.YtiiggmfindfkfaaGreat
open Go.RowKit Nt
namespace St
open Ph En Wk
variable {L : Loc} {v : Value} {x : Pl} {A : Nat → Fst}
theorem Bx.new {w : World} (h : St L w v x) (u : Value) (t : TypeId) {b : Nat} (hb : b = w.heap.size) : Bx L (w.alloc (.cells #[u] t)) v b u := by
  subst hb
  exact ⟨by simp, by simp, fun hm => Nat.lt_irrefl _ (h.lts _ hm), h.off (Nat.le_refl _)⟩
theorem Rep.noLog {n : Nat} (h : Rep n x A) : Rep n x.noLog A := h.log []
theorem unmap_call (p : Int) (w : World) (hS : St L w v x) (hR : x.gone = false → Rep L.n x A) :
    Calls Tryz.prog 22 #[.pointer (some ⟨L.s, 0, none⟩), .int .i64 p] w (OEnd L v (gon x (unmP L.n L.vm x.noLog A p)).k (gon x (unmP L.n L.vm x.noLog A p)).x w) := by
  have hmf : ∀ (fn : Fn) (first cap : Array Value) (w : World), (Instr.makeFunc fn first cap).run Tryz.prog w = .ok (.func fn first cap) w := fun _ _ _ _ => rfl
  have s1 := hS.alloc (.cells #[.pointer (some ⟨L.s, 0, none⟩)] 34)
  have s2 := s1.alloc (.cells #[.int .i64 p] 3)
  have B0 := Lib.hid ((Bx.new (b := w.heap.size) hS (.pointer (some ⟨L.s, 0, none⟩)) 34 (by simp)).alloc (.cells #[.int .i64 p] 3))
  have B1 := Lib.hid (Bx.new (b := w.heap.size + 1) s1 (.int .i64 p) 3 (by simp))
  have O0 := Lib.hid ((Only.alloc L.S w (.cells #[.pointer (some ⟨L.s, 0, none⟩)] 34)).trans (Only.alloc L.S _ (.cells #[.int .i64 p] 3)))
  have S0 := Lib.hid s2
  have HR := Lib.hid hR
  have ki := B0.out.c
  clear hS hR s1 s2
  go_enter Tryz.func22, Tryz.ntmps22
  go_wp2_with fail
  generalize (w.alloc (.cells #[.pointer (some ⟨L.s, 0, none⟩)] 34)).alloc (.cells #[.int .i64 p] 3) = u at *
  refine (do_all 62 #[.pointer (some ⟨w.heap.size, 0, none⟩), .pointer (some ⟨w.heap.size + 1, 0, none⟩)] (unmP L.n L.vm x.noLog A p) u (fun _ _ => by kernel_rfl) S0.out (fun hg y hS hP => ?_)).mono ?_
  · exact unm1_any p (w.heap.size) (w.heap.size + 1) y hS ((HR.out hg).noLog) rfl (B0.out.hop hP) (B1.out.hop hP)
  · rintro e w1 ⟨rfl, v1, hS, hP⟩
    have F1 := Lib.hid (And.intro hS ((Hop.of O0.out v).trans hP))
    clear hS hP ki B0 B1 S0 O0
    go_wp2
    go_ret
    exact ⟨rfl, v1, F1.out.1, F1.out.2⟩
theorem protect_call (p : Int) (a : Bool) (e : Bool) (w : World) (hS : St L w v x) (hR : x.gone = false → Rep L.n x A) :
    Calls Tryz.prog 24 #[.pointer (some ⟨L.s, 0, none⟩), .int .i64 p, .bool a, .bool e] w (OEnd L v (gon x (proP L.n L.vm x.noLog A p a e)).k (gon x (proP L.n L.vm x.noLog A p a e)).x w) := by
  have hmf : ∀ (fn : Fn) (first cap : Array Value) (w : World), (Instr.makeFunc fn first cap).run Tryz.prog w = .ok (.func fn first cap) w := fun _ _ _ _ => rfl
  have s1 := hS.alloc (.cells #[.pointer (some ⟨L.s, 0, none⟩)] 34)
  have s2 := s1.alloc (.cells #[.int .i64 p] 3)
  have s3 := s2.alloc (.cells #[.bool a] 4)
  have s4 := s3.alloc (.cells #[.bool e] 4)
  have B0 := Lib.hid ((((Bx.new (b := w.heap.size) hS (.pointer (some ⟨L.s, 0, none⟩)) 34 (by simp)).alloc (.cells #[.int .i64 p] 3)).alloc (.cells #[.bool a] 4)).alloc (.cells #[.bool e] 4))
  have B1 := Lib.hid (((Bx.new (b := w.heap.size + 1) s1 (.int .i64 p) 3 (by simp)).alloc (.cells #[.bool a] 4)).alloc (.cells #[.bool e] 4))
  have B2 := Lib.hid ((Bx.new (b := w.heap.size + 2) s2 (.bool a) 4 (by simp)).alloc (.cells #[.bool e] 4))
  have B3 := Lib.hid (Bx.new (b := w.heap.size + 3) s3 (.bool e) 4 (by simp))
  have O0 := Lib.hid ((((Only.alloc L.S w (.cells #[.pointer (some ⟨L.s, 0, none⟩)] 34)).trans (Only.alloc L.S _ (.cells #[.int .i64 p] 3))).trans (Only.alloc L.S _ (.cells #[.bool a] 4))).trans (Only.alloc L.S _ (.cells #[.bool e] 4)))
  have S0 := Lib.hid s4
  have HR := Lib.hid hR
  have ki := B0.out.c
  clear hS hR s1 s2 s3 s4
  go_enter Tryz.func24, Tryz.ntmps24
  go_wp2_with fail
  generalize (((w.alloc (.cells #[.pointer (some ⟨L.s, 0, none⟩)] 34)).alloc (.cells #[.int .i64 p] 3)).alloc (.cells #[.bool a] 4)).alloc (.cells #[.bool e] 4) = u at *
  refine (do_all 67 #[.pointer (some ⟨w.heap.size, 0, none⟩), .pointer (some ⟨w.heap.size + 1, 0, none⟩), .pointer (some ⟨w.heap.size + 2, 0, none⟩), .pointer (some ⟨w.heap.size + 3, 0, none⟩)] (proP L.n L.vm x.noLog A p a e) u (fun _ _ => by kernel_rfl) S0.out (fun hg y hS hP => ?_)).mono ?_
  · exact pro1_any p (w.heap.size) (w.heap.size + 1) y hS ((HR.out hg).noLog) rfl (B0.out.hop hP) (B1.out.hop hP) a e (w.heap.size + 2) (w.heap.size + 3) (B2.out.hop hP) (B3.out.hop hP)
  · rintro e w1 ⟨rfl, v1, hS, hP⟩
    have F1 := Lib.hid (And.intro hS ((Hop.of O0.out v).trans hP))
    clear hS hP ki B0 B1 B2 B3 S0 O0
    go_wp2
    go_ret
    exact ⟨rfl, v1, F1.out.1, F1.out.2⟩
theorem split_call (i : Int) (w : World) (hS : St L w v x) (hR : x.gone = false → Rep L.n x A) :
    Calls Tryz.prog 35 #[.pointer (some ⟨L.s, 0, none⟩), .int .i64 i] w (OEnd L v (gon x (splP L.n L.vm x.noLog A i)).k (gon x (splP L.n L.vm x.noLog A i)).x w) := by
  have hmf : ∀ (fn : Fn) (first cap : Array Value) (w : World), (Instr.makeFunc fn first cap).run Tryz.prog w = .ok (.func fn first cap) w := fun _ _ _ _ => rfl
  have s1 := hS.alloc (.cells #[.pointer (some ⟨L.s, 0, none⟩)] 34)
  have s2 := s1.alloc (.cells #[.int .i64 i] 3)
  have B0 := Lib.hid ((Bx.new (b := w.heap.size) hS (.pointer (some ⟨L.s, 0, none⟩)) 34 (by simp)).alloc (.cells #[.int .i64 i] 3))
  have B1 := Lib.hid (Bx.new (b := w.heap.size + 1) s1 (.int .i64 i) 3 (by simp))
  have O0 := Lib.hid ((Only.alloc L.S w (.cells #[.pointer (some ⟨L.s, 0, none⟩)] 34)).trans (Only.alloc L.S _ (.cells #[.int .i64 i] 3)))
  have S0 := Lib.hid s2
  have HR := Lib.hid hR
  have ki := B0.out.c
  clear hS hR s1 s2
  go_enter Tryz.func35, Tryz.ntmps35
  go_wp2_with fail
  generalize (w.alloc (.cells #[.pointer (some ⟨L.s, 0, none⟩)] 34)).alloc (.cells #[.int .i64 i] 3) = u at *
  refine (do_all 78 #[.pointer (some ⟨w.heap.size + 1, 0, none⟩), .pointer (some ⟨w.heap.size, 0, none⟩)] (splP L.n L.vm x.noLog A i) u (fun _ _ => by kernel_rfl) S0.out (fun hg y hS hP => ?_)).mono ?_
  · exact spl1_any i (w.heap.size) (w.heap.size + 1) y hS ((HR.out hg).noLog) rfl (B0.out.hop hP) (B1.out.hop hP)
  · rintro e w1 ⟨rfl, v1, hS, hP⟩
    have F1 := Lib.hid (And.intro hS ((Hop.of O0.out v).trans hP))
    clear hS hP ki B0 B1 S0 O0
    go_wp2
    go_ret
    exact ⟨rfl, v1, F1.out.1, F1.out.2⟩
theorem merge_call (i : Int) (w : World) (hS : St L w v x) (hR : x.gone = false → Rep L.n x A) :
    Calls Tryz.prog 26 #[.pointer (some ⟨L.s, 0, none⟩), .int .i64 i] w (OEnd L v (gon x (merP L.n L.vm x.noLog A i)).k (gon x (merP L.n L.vm x.noLog A i)).x w) := by
  have hmf : ∀ (fn : Fn) (first cap : Array Value) (w : World), (Instr.makeFunc fn first cap).run Tryz.prog w = .ok (.func fn first cap) w := fun _ _ _ _ => rfl
  have s1 := hS.alloc (.cells #[.pointer (some ⟨L.s, 0, none⟩)] 34)
  have s2 := s1.alloc (.cells #[.int .i64 i] 3)
  have B0 := Lib.hid ((Bx.new (b := w.heap.size) hS (.pointer (some ⟨L.s, 0, none⟩)) 34 (by simp)).alloc (.cells #[.int .i64 i] 3))
  have B1 := Lib.hid (Bx.new (b := w.heap.size + 1) s1 (.int .i64 i) 3 (by simp))
  have O0 := Lib.hid ((Only.alloc L.S w (.cells #[.pointer (some ⟨L.s, 0, none⟩)] 34)).trans (Only.alloc L.S _ (.cells #[.int .i64 i] 3)))
  have S0 := Lib.hid s2
  have HR := Lib.hid hR
  have ki := B0.out.c
  clear hS hR s1 s2
  go_enter Tryz.func26, Tryz.ntmps26
  go_wp2_with fail
  generalize (w.alloc (.cells #[.pointer (some ⟨L.s, 0, none⟩)] 34)).alloc (.cells #[.int .i64 i] 3) = u at *
  refine (do_all 69 #[.pointer (some ⟨w.heap.size + 1, 0, none⟩), .pointer (some ⟨w.heap.size, 0, none⟩)] (merP L.n L.vm x.noLog A i) u (fun _ _ => by kernel_rfl) S0.out (fun hg y hS hP => ?_)).mono ?_
  · exact mer1_any i (w.heap.size) (w.heap.size + 1) y hS ((HR.out hg).noLog) rfl (B0.out.hop hP) (B1.out.hop hP)
  · rintro e w1 ⟨rfl, v1, hS, hP⟩
    have F1 := Lib.hid (And.intro hS ((Hop.of O0.out v).trans hP))
    clear hS hP ki B0 B1 S0 O0
    go_wp2
    go_ret
    exact ⟨rfl, v1, F1.out.1, F1.out.2⟩
theorem maprun_call (p : Int) (f : Int) (a : Bool) (e : Bool) (w : World) (hS : St L w v x) (hR : x.gone = false → Rep L.n x A) :
    Calls Tryz.prog 23 #[.pointer (some ⟨L.s, 0, none⟩), .int .i64 p, .int .i64 f, .bool a, .bool e] w (OEnd L v (gon x (runM L.n L.vm x.noLog A p f a e)).k (gon x (runM L.n L.vm x.noLog A p f a e)).x w) := by
  have hmf : ∀ (fn : Fn) (first cap : Array Value) (w : World), (Instr.makeFunc fn first cap).run Tryz.prog w = .ok (.func fn first cap) w := fun _ _ _ _ => rfl
  have s1 := hS.alloc (.cells #[.pointer (some ⟨L.s, 0, none⟩)] 34)
  have s2 := s1.alloc (.cells #[.int .i64 p] 3)
  have s3 := s2.alloc (.cells #[.int .i64 f] 3)
  have s4 := s3.alloc (.cells #[.bool a] 4)
  have s5 := s4.alloc (.cells #[.bool e] 4)
  have B0 := Lib.hid (((((Bx.new (b := w.heap.size) hS (.pointer (some ⟨L.s, 0, none⟩)) 34 (by simp)).alloc (.cells #[.int .i64 p] 3)).alloc (.cells #[.int .i64 f] 3)).alloc (.cells #[.bool a] 4)).alloc (.cells #[.bool e] 4))
  have B1 := Lib.hid ((((Bx.new (b := w.heap.size + 1) s1 (.int .i64 p) 3 (by simp)).alloc (.cells #[.int .i64 f] 3)).alloc (.cells #[.bool a] 4)).alloc (.cells #[.bool e] 4))
  have B2 := Lib.hid (((Bx.new (b := w.heap.size + 2) s2 (.int .i64 f) 3 (by simp)).alloc (.cells #[.bool a] 4)).alloc (.cells #[.bool e] 4))
  have B3 := Lib.hid ((Bx.new (b := w.heap.size + 3) s3 (.bool a) 4 (by simp)).alloc (.cells #[.bool e] 4))
  have B4 := Lib.hid (Bx.new (b := w.heap.size + 4) s4 (.bool e) 4 (by simp))
  have O0 := Lib.hid (((((Only.alloc L.S w (.cells #[.pointer (some ⟨L.s, 0, none⟩)] 34)).trans (Only.alloc L.S _ (.cells #[.int .i64 p] 3))).trans (Only.alloc L.S _ (.cells #[.int .i64 f] 3))).trans (Only.alloc L.S _ (.cells #[.bool a] 4))).trans (Only.alloc L.S _ (.cells #[.bool e] 4)))
  have S0 := Lib.hid s5
  have HR := Lib.hid hR
  have ki := B0.out.c
  clear hS hR s1 s2 s3 s4 s5
  go_enter Tryz.func23, Tryz.ntmps23
  go_wp2_with fail
  generalize ((((w.alloc (.cells #[.pointer (some ⟨L.s, 0, none⟩)] 34)).alloc (.cells #[.int .i64 p] 3)).alloc (.cells #[.int .i64 f] 3)).alloc (.cells #[.bool a] 4)).alloc (.cells #[.bool e] 4) = u at *
  refine (do_all 65 #[.pointer (some ⟨w.heap.size + 1, 0, none⟩), .pointer (some ⟨w.heap.size, 0, none⟩), .pointer (some ⟨w.heap.size + 2, 0, none⟩), .pointer (some ⟨w.heap.size + 3, 0, none⟩), .pointer (some ⟨w.heap.size + 4, 0, none⟩)] (runM L.n L.vm x.noLog A p f a e) u (fun _ _ => by kernel_rfl) S0.out (fun hg y hS hP => ?_)).mono ?_
  · exact run1_any p f a e (w.heap.size + 1) (w.heap.size) (w.heap.size + 2) (w.heap.size + 3) (w.heap.size + 4) y hS ((HR.out hg).noLog) rfl (B1.out.hop hP) (B0.out.hop hP) (B2.out.hop hP) (B3.out.hop hP) (B4.out.hop hP)
  · rintro e w1 ⟨rfl, v1, hS, hP⟩
    have F1 := Lib.hid (And.intro hS ((Hop.of O0.out v).trans hP))
    clear hS hP ki B0 B1 B2 B3 B4 S0 O0
    go_wp2
    go_ret
    exact ⟨rfl, v1, F1.out.1, F1.out.2⟩
theorem map_call (p : Int) (f : Int) (a : Bool) (e : Bool) (w : World) (hS : St L w v x) (hR : x.gone = false → Rep L.n x A) :
    Calls Tryz.prog 20 #[.pointer (some ⟨L.s, 0, none⟩), .int .i64 p, .int .i64 f, .bool a, .bool e] w (OEnd L v (gon x (mapP L.n L.vm x.noLog A p f a e)).k (gon x (mapP L.n L.vm x.noLog A p f a e)).x w) := by
  have hmf : ∀ (fn : Fn) (first cap : Array Value) (w : World), (Instr.makeFunc fn first cap).run Tryz.prog w = .ok (.func fn first cap) w := fun _ _ _ _ => rfl
  have s1 := hS.alloc (.cells #[.pointer (some ⟨L.s, 0, none⟩)] 34)
  have s2 := s1.alloc (.cells #[.int .i64 p] 3)
  have s3 := s2.alloc (.cells #[.int .i64 f] 3)
  have s4 := s3.alloc (.cells #[.bool a] 4)
  have s5 := s4.alloc (.cells #[.bool e] 4)
  have B0 := Lib.hid (((((Bx.new (b := w.heap.size) hS (.pointer (some ⟨L.s, 0, none⟩)) 34 (by simp)).alloc (.cells #[.int .i64 p] 3)).alloc (.cells #[.int .i64 f] 3)).alloc (.cells #[.bool a] 4)).alloc (.cells #[.bool e] 4))
  have B1 := Lib.hid ((((Bx.new (b := w.heap.size + 1) s1 (.int .i64 p) 3 (by simp)).alloc (.cells #[.int .i64 f] 3)).alloc (.cells #[.bool a] 4)).alloc (.cells #[.bool e] 4))
  have B2 := Lib.hid (((Bx.new (b := w.heap.size + 2) s2 (.int .i64 f) 3 (by simp)).alloc (.cells #[.bool a] 4)).alloc (.cells #[.bool e] 4))
  have B3 := Lib.hid ((Bx.new (b := w.heap.size + 3) s3 (.bool a) 4 (by simp)).alloc (.cells #[.bool e] 4))
  have B4 := Lib.hid (Bx.new (b := w.heap.size + 4) s4 (.bool e) 4 (by simp))
  have O0 := Lib.hid (((((Only.alloc L.S w (.cells #[.pointer (some ⟨L.s, 0, none⟩)] 34)).trans (Only.alloc L.S _ (.cells #[.int .i64 p] 3))).trans (Only.alloc L.S _ (.cells #[.int .i64 f] 3))).trans (Only.alloc L.S _ (.cells #[.bool a] 4))).trans (Only.alloc L.S _ (.cells #[.bool e] 4)))
  have S0 := Lib.hid s5
  have HR := Lib.hid hR
  have ki := B0.out.c
  clear hS hR s1 s2 s3 s4 s5
  go_enter Tryz.func20, Tryz.ntmps20
  go_wp2_with fail
  generalize ((((w.alloc (.cells #[.pointer (some ⟨L.s, 0, none⟩)] 34)).alloc (.cells #[.int .i64 p] 3)).alloc (.cells #[.int .i64 f] 3)).alloc (.cells #[.bool a] 4)).alloc (.cells #[.bool e] 4) = u at *
  refine (do_all 53 #[.pointer (some ⟨w.heap.size + 1, 0, none⟩), .pointer (some ⟨w.heap.size, 0, none⟩), .pointer (some ⟨w.heap.size + 2, 0, none⟩), .pointer (some ⟨w.heap.size + 3, 0, none⟩), .pointer (some ⟨w.heap.size + 4, 0, none⟩)] (mapP L.n L.vm x.noLog A p f a e) u (fun _ _ => by kernel_rfl) S0.out (fun hg y hS hP => ?_)).mono ?_
  · exact map1_any p f a e (w.heap.size + 1) (w.heap.size) (w.heap.size + 2) (w.heap.size + 3) (w.heap.size + 4) y hS ((HR.out hg).noLog) rfl (B1.out.hop hP) (B0.out.hop hP) (B2.out.hop hP) (B3.out.hop hP) (B4.out.hop hP)
  · rintro e w1 ⟨rfl, v1, hS, hP⟩
    have F1 := Lib.hid (And.intro hS ((Hop.of O0.out v).trans hP))
    clear hS hP ki B0 B1 B2 B3 B4 S0 O0
    go_wp2
    go_ret
    exact ⟨rfl, v1, F1.out.1, F1.out.2⟩
end St
end Go.Proofs.YtiiggmfindfkfaaGreat
