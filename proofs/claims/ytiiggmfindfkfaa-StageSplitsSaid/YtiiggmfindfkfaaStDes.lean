/-
  What stage's Destroy leaves. Conditions: that a space lies there that tells its pages, or is gone.
-/
import Derived.Test.YtiiggmfindfkfaaStLog
namespace Go.Proofs.Ytiiggmfindfkfaa
open Go.RowKit Nt
namespace St
open Ph En Wk
variable {L : Loc} {v : Value} {x : Pl} {A : Nat → Fst}
/-- The frames of a space's tables. -/
def allT (x : Pl) (A : Nat → Fst) : List Nat := x.root :: tabL A 64
theorem mem_allT {n : Nat} (hR : Rep n x A) {t : Nat} (h : t ∈ allT x A) : x.os[t]? = some 1 ∧ t < n := by
  unfold allT at h
  rcases List.mem_cons.1 h with rfl | h
  · exact ⟨hR.own, hR.rt⟩
  · obtain ⟨i, pg, hi, e⟩ := mem_tabL.1 h
    have := hR.tabAt hi e
    exact ⟨this.2.1, this.1⟩
theorem nodup_tabL {n : Nat} (hR : Rep n x A) : ∀ k, k ≤ 64 → (tabL A k).Nodup
  | 0, _ => List.nodup_nil
  | k + 1, hk => by
    have ih := nodup_tabL hR k (by omega)
    rw [tabL]
    split
    · rename_i t pg e
      refine List.nodup_append.2 ⟨ih, by simp, fun a ha b hb => ?_⟩
      simp at hb
      subst hb
      rintro rfl
      obtain ⟨i, pg', hi, e'⟩ := mem_tabL.1 ha
      have := hR.one i k _ _ _ (by omega) (by omega) e' e
      omega
    · exact ih
theorem nodup_allT {n : Nat} (hR : Rep n x A) : (allT x A).Nodup := by
  refine List.nodup_cons.2 ⟨fun h => ?_, nodup_tabL hR 64 (Nat.le_refl _)⟩
  obtain ⟨i, pg, hi, e⟩ := mem_tabL.1 h
  exact (hR.tabAt hi e).2.2.1 rfl
/-- A table that is still to be given back is the monitor's. -/
theorem left1 {n : Nat} (hR : Rep n x A) {i t : Nat} (h : (allT x A)[i]? = some t) : (Fr.giveL x.os ((allT x A).take i))[t]? = some 1 := by
  have hm := List.mem_of_getElem? h
  obtain ⟨h1, h2⟩ := mem_allT hR hm
  rw [Fr.giveL_get _ _ _ (by rw [hR.len]; exact h2), if_neg]
  · exact h1
  · intro hi
    obtain ⟨j, hj⟩ := List.mem_iff_getElem?.1 hi
    rw [List.getElem?_take] at hj
    split at hj
    · rename_i hlt
      have hnd := nodup_allT hR
      have hl := (List.getElem?_eq_some_iff.1 h).1
      have := (List.getElem?_inj (by omega : j < (allT x A).length) hnd).1 (hj.trans h.symm)
      omega
    · cases hj
/-- The state, the space having been destroyed. -/
def dead (vm : Nat) (x : Pl) (A : Nat → Fst) : Pl := { x with ps := x.ps.map (offV vm), os := Fr.giveL x.os (allT x A), gone := true }
theorem Rep.psd {n : Nat} (h : Rep n x A) (ps : List (Option Tl.SlotT)) : Rep n { x with ps := ps } A := ⟨h.by8, h.few, h.len, h.rt, h.own, h.live, h.wrd, h.ok, h.one⟩
set_option maxRecDepth 100000 in
theorem des1_any (bs : Nat) (w : World) (hS : St L w v x) (hR : Rep L.n x A) (Bs : Bx L w v bs (.pointer (some ⟨L.s, 0, none⟩))) :
    Calls Try.prog 48 #[.pointer (some ⟨bs, 0, none⟩)] w (CEnd L v 0 (dead L.vm x A) w) := by
  have cs := Bs.c
  have c2 := hS.c2
  have c3 := hS.c3
  have HS := Lib.hid (hS.drewN 1)
  have O0 := Lib.hid (Only.drewN L.S w 1)
  have HR := Lib.hid hR
  have X0 := Lib.hid (Bs.drewN 1)
  have hlts := hS.lts
  have hlen : (allT x A).length ≤ 65 := by unfold allT; have := tabL_le A 64; simp; omega
  change Hid (St L w.drew v x) at HS
  change Hid (Only L.S w w.drew) at O0
  change Hid (Bx L w.drew v _ _) at X0
  clear hS hR Bs
  go_enter Try.func48, Try.ntmps48
  go_wp2_with fail
  go_still_tail 8, (by kernel_rfl)
  change wpList _ _ _ _ _ w.drew
  generalize w.drew = u at *
  go_wp2_with fail
  refine (Tl.dropAll_any L.p L.pm L.room x.next x.ps (L.vm : Int) u HS.out.tlb).mono ?_
  rintro e w1 ⟨rfl, hT, hO⟩
  have S1 := Lib.hid (HS.out.withTlb hT hO (by simp))
  have O1 := Lib.hid (O0.out.trans (hO.mono (S' := L.S) (by simp [Loc.S])))
  have X1 := Lib.hid (X0.out.only (hO.mono (S' := L.S) (by simp [Loc.S])))
  have R1 := Lib.hid (HR.out.psd (x.ps.map (offV L.vm)))
  change Hid (St L w1 v { x with ps := x.ps.map (offV L.vm), next := x.next }) at S1
  have hlt1 := Lib.hid (S1.out.lts)
  have cs := X1.out.c
  clear hT hO HS c2 c3 O0 X0
  go_wp2_with fail
  refine (tables_any w1 S1.out R1.out).mono ?_
  rintro e w2 ⟨r, rfl, hs, hb⟩
  change Fr.Seen _ _ _ (allT x A) at hs
  obtain ⟨ra, rc, rfl⟩ := hs.form
  have S2 := Lib.hid (S1.out.below hb)
  have O2 := Lib.hid (O1.out.trans (Only.of hb L.S))
  have X2 := Lib.hid (X1.out.below hb)
  have Q2 := Lib.hid hs
  clear hs hb S1 O1 X1 cs
  go_wp2_with fail
  go_loopw [15] (fun c wr => ∃ i : Nat, c = .int .i64 i ∧ i ≤ (allT x A).length ∧ St L wr v { x with ps := x.ps.map (offV L.vm), os := Fr.giveL x.os ((allT x A).take i) } ∧ Only L.S w wr ∧ Bx L wr v bs (.pointer (some ⟨L.s, 0, none⟩)) ∧ Fr.Seen w1.heap.size wr (.slice ra (allT x A).length rc) (allT x A)) (fun c _ => (allT x A).length - (intOf c).toNat)
  case atStart => exact ⟨0, rfl, Nat.zero_le _, S2.out, O2.out, X2.out, Q2.out⟩
  case round =>
    obtain ⟨i, rfl, hi, hS, hO, hX, hQ⟩ := hrel
    have S3 := Lib.hid hS
    have O3 := Lib.hid hO
    have X3 := Lib.hid hX
    have Q3 := Lib.hid hQ
    clear hS hO hX S2 O2 X2 Q2
    by_cases hil : i < (allT x A).length
    · obtain ⟨t, ht⟩ : ∃ t, (allT x A)[i]? = some t := ⟨(allT x A)[i], List.getElem?_eq_getElem hil⟩
      obtain ⟨b, cap, hv, hblt, hc⟩ := hQ.at ht
      injection hv with hv1 _ hv2
      subst hv1 hv2
      have HT := Lib.hid ht
      have H1 := Lib.hid (left1 HR.out ht)
      have cs := X3.out.c
      have c1 := S3.out.c1
      clear ht hQ
      go_wp2_with fail
      refine (give_1 t wr S3.out H1.out).mono ?_
      rintro e w3 ⟨rfl, hS, hO⟩
      have S4 := Lib.hid hS
      have O4 := Lib.hid (O3.out.trans hO)
      have X4 := Lib.hid (X3.out.only hO)
      have Q4 := Lib.hid (Q3.out.kept hO (fun k hk => hlt1.out k (by simp [Loc.S] at hk; simp [Loc.all]; omega)))
      clear hS hO S3 O3 X3 Q3 cs c1 hc hblt
      go_wp2_with fail
      go_roundw
      case rel => exact ⟨i + 1, rfl, by omega, by rw [Fr.giveL_next HT.out]; exact S4.out, O4.out, X4.out, Q4.out⟩
      case measure => simp only [intOf, Int.toNat_natCast]; omega
    · obtain rfl : i = (allT x A).length := by omega
      have hs' := S3.out
      rw [List.take_length] at hs'
      have S5 := Lib.hid hs'
      have S6 := Lib.hid (hs'.setGone true)
      have o6 : Only [L.s] wr (wr.setCell ⟨L.s, 5, none⟩ (.bool true)) := Only.setCell _ (by simp) 5 _
      have O6 := Lib.hid (O3.out.trans (o6.mono (S' := L.S) (by simp [Loc.S])))
      have cs := X3.out.c
      have c5 := S5.out.c5
      have f5 := S5.out.fr 5
      clear hs' hQ S3 O3 X3 Q3 o6 S5
      go_wp2_with fail
      go_end0
      exact cend_ok S6.out (Hop.of O6.out v)
/-- What Destroy leaves. -/
def desP (vm : Nat) (x : Pl) (A : Nat → Fst) : Pl := if x.gone = true then x.noLog else dead vm x.noLog A
theorem destroy_any (w : World) (hS : St L w v x) (hR : x.gone = false → Rep L.n x A) :
    Calls Try.prog 19 #[.pointer (some ⟨L.s, 0, none⟩)] w (Fin L v w (.tuple #[]) (desP L.vm x A)) := by
  have hmf : ∀ (fn : Fn) (first cap : Array Value) (w : World), (Instr.makeFunc fn first cap).run Try.prog w = .ok (.func fn first cap) w := fun _ _ _ _ => rfl
  have s1 := hS.alloc (.cells #[.pointer (some ⟨L.s, 0, none⟩)] 27)
  have B0 := Lib.hid (Bx.new (b := w.heap.size) hS (.pointer (some ⟨L.s, 0, none⟩)) (27) (by simp))
  have O0 := Lib.hid (Only.alloc L.S w (.cells #[.pointer (some ⟨L.s, 0, none⟩)] 27))
  have S0 := Lib.hid s1
  have HR := Lib.hid hR
  have ki := B0.out.c
  have EX := Lib.hid (show (gon x ⟨0, dead L.vm x.noLog A, A⟩).x = desP L.vm x A by unfold gon desP; split <;> rfl)
  clear hS hR s1
  go_enter Try.func19, Try.ntmps19
  go_wp2_with fail
  generalize w.alloc (.cells #[.pointer (some ⟨L.s, 0, none⟩)] 27) = u at *
  refine (do_all 48 #[.pointer (some ⟨w.heap.size, 0, none⟩)] ⟨0, dead L.vm x.noLog A, A⟩ u (fun _ _ => by kernel_rfl) S0.out (fun hg y hS hP => ?_)).mono ?_
  · exact des1_any w.heap.size y hS ((HR.out hg).noLog) (B0.out.hop hP)
  · rintro e w1 ⟨rfl, v1, hS, hP⟩
    rw [EX.out] at hS
    have F1 := Lib.hid (And.intro hS ((Hop.of O0.out v).trans hP))
    clear hS hP ki B0 S0 O0
    go_wp2
    go_end0
    exact ⟨rfl, v1, F1.out.1, F1.out.2⟩
end St
end Go.Proofs.Ytiiggmfindfkfaa
