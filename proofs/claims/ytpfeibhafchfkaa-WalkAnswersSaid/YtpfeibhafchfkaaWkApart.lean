/-
  WalkApart: a walk hangs on the words of its two tables alone: for every input true, and the input reads as it did; no condition.
-/
import Derived.Test.YtpfeibhafchfkaaWkRights
import Derived.Lib.QuietBelow
namespace Go.Proofs.Ytpfeibhafchfkaa
open Go.ChangeShapes Go.WideShapes Go.ChangeAt Go.RowKit Go.Deep
namespace Wk
open Ph En
/-- A frame's bytes are the same. -/
def Ag (z z' : Nat → Int) (q : Nat) : Prop := ∀ j, j < 256 → z' (256 * q + j) = z (256 * q + j)
theorem Ag.refl (z : Nat → Int) (q : Nat) : Ag z z q := fun _ _ => rfl
theorem Ag.put {z z' : Nat → Int} {q : Nat} (h : Ag z z' q) (n a : Nat) (x : Int) (hq : a / 256 ≠ q) : Ag z (pw n z' a x) q := fun j hj => by
  unfold pw
  cases hk : hwA n a
  · rw [if_neg (by decide)]
    exact h j hj
  · rw [if_pos rfl]
    obtain ⟨h4, _⟩ := hwA_true hk
    unfold putw
    rw [if_neg (by omega)]
    exact h j hj
theorem Ag.slot {z z' : Nat → Int} {q : Nat} (h : Ag z z' q) (n : Nat) (i : Int) (i0 : 0 ≤ i) (i1 : i < 64) : slotE n z' q i = slotE n z q i := by
  obtain ⟨i, rfl⟩ := Int.eq_ofNat_of_zero_le i0
  unfold slotE wAt
  have e : (256 * (q : Int) + 4 * (i : Int)).toNat = 256 * q + 4 * i := by omega
  rw [e]
  unfold rdw
  cases hwA n (256 * q + 4 * i)
  · rfl
  · rw [if_pos rfl, if_pos rfl]
    have h0 := h (4 * i) (by omega)
    have h1 := h (4 * i + 1) (by omega)
    have h2 := h (4 * i + 2) (by omega)
    have h3 := h (4 * i + 3) (by omega)
    rw [show 256 * q + 4 * i + 1 = 256 * q + (4 * i + 1) by omega, show 256 * q + 4 * i + 2 = 256 * q + (4 * i + 2) by omega, show 256 * q + 4 * i + 3 = 256 * q + (4 * i + 3) by omega, h0, h1, h2, h3]
/-- What an address hangs on is the same. -/
def Same (z z' : Nat → Int) (E : Ent) : Prop := Ag z z' 0 ∧ (E.V = true → E.B = false → ∀ q : Nat, E.F = q → Ag z z' q)
theorem walkS_same {n : Nat} {z z' : Nat → Int} {a acc : Int} (h : Same z z' (slotE n z 0 (a / 16384 % 64))) : walkS n z' 0 a acc = walkS n z 0 a acc := by
  have e1 : slotE n z' 0 (a / 16384 % 64) = slotE n z 0 (a / 16384 % 64) := h.1.slot n _ (by omega) (by omega)
  unfold walkS
  suffices e : tellS n z' 0 a = tellS n z 0 a by rw [e]
  unfold tellS
  rw [e1]
  obtain ⟨⟨V, W, X, B, F⟩, hE⟩ : ∃ E, slotE n z 0 (a / 16384 % 64) = E := ⟨_, rfl⟩
  rw [hE] at h ⊢
  cases V
  · simp only [if_true]
  · cases B
    · cases hk : inM n F
      · simp only [if_true]
      · obtain ⟨f0, f1⟩ := inM_true hk
        obtain ⟨q, rfl⟩ := Int.eq_ofNat_of_zero_le f0
        have e2 : slotE n z' q (a / 256 % 64) = slotE n z q (a / 256 % 64) := (h.2 rfl rfl q rfl).slot n _ (by omega) (by omega)
        simp only [e2]
    · simp only [if_true]
theorem Six.keptS {w w' : World} {b : Nat} {f r F : Int} {W X B : Bool} {S : List Nat} (h : Six w b f r F W X B) (ho : Only S w w') (hn : b ∉ S) : Six w' b f r F W X B := by
  have hlt := block_lt_of_cell h.c0
  exact ⟨(ho.cell hlt hn 0).trans h.c0, (ho.cell hlt hn 1).trans h.c1, (ho.cell hlt hn 2).trans h.c2, (ho.cell hlt hn 3).trans h.c3, (ho.cell hlt hn 4).trans h.c4, (ho.cell hlt hn 5).trans h.c5⟩
theorem _root_.Go.Proofs.Ytpfeibhafchfkaa.En.Five.keptS {w w' : World} {b : Nat} {V W X B : Bool} {f : Int} {S : List Nat} (h : Five w b V W X B f) (ho : Only S w w') (hn : b ∉ S) : Five w' b V W X B f := by
  have hlt := block_lt_of_cell h.c0
  exact ⟨(ho.cell hlt hn 0).trans h.c0, (ho.cell hlt hn 1).trans h.c1, (ho.cell hlt hn 2).trans h.c2, (ho.cell hlt hn 3).trans h.c3, (ho.cell hlt hn 4).trans h.c4⟩
end Wk
namespace walkApart
open Ph En Wk
set_option maxRecDepth 100000 in
set_option maxHeartbeats 4000000 in
theorem walk (pa : Option Addr) (len cap : Nat) (x : Puts) (pb : Option Addr) (lo cb : Nat) (y : Puts) (a : Int) (w : World) (hl : len ≤ maxLen) (hx : PutsIn w.heap.size w pa len x) (hlo : lo ≤ maxLen) (hy : PutsIn w.heap.size w pb lo y) (a0 : 0 ≤ a) (a1 : a < 4294967296) :
    Calls Try.prog 7 #[.slice pa len cap, .slice pb lo cb, .int .u32 a] w fun e w' => e = .returned (.bool true) ∧ Only [] w w' := by
  have HX := Lib.hid hx
  have HY := Lib.hid hy
  unfold maxLen at hlo
  clear hx hy
  go_enter Try.func7, Try.ntmps7
  go_wp2_with fail
  refine (alive_any _).mono ?_
  rintro e w0 ⟨rfl, O0⟩
  go_wp2_with fail
  refine (Wk.great_any 80 pa len cap w0 hl).mono ?_
  rintro e w' ⟨rfl, rfl⟩
  cases hg : gr 80 len
  case true =>
    clear hg
    go_wp2
    go_ret
    exact ⟨rfl, O0⟩
  obtain ⟨_, _, h100⟩ := gr_false hg
  by_cases b1 : 100 < lo
  · have d1 : decide ((100 : Int) < (lo : Int)) = true := by simp; omega
    go_wp2
    go_ret
    exact ⟨rfl, O0⟩
  have d1 : decide ((100 : Int) < (lo : Int)) = false := by simp; omega
  have lo100 : lo ≤ 100 := by omega
  clear hg b1
  have s0 := O0.size
  go_wp2_with fail
  refine (both_at 80 80 pa len cap x w0 rfl (by decide) (by decide) h100 ((HX.out.kept O0 (by simp)).mono O0.size)).mono ?_
  rintro e w1 ⟨m, F, c, r, G, rfl, hB, hO, hm, hF, hr, hG⟩
  have M1 := Lib.hid hB.mem
  have O1 := Lib.hid (O0.next hO (by simp))
  have lF := hB.mem.row.lt
  have F0 : w.heap.size ≤ F := by omega
  clear hB hO hm hF hr hG O0 s0
  generalize zOf 80 x len = z at *
  obtain ⟨⟨f, rd, F', W, X, B⟩, hT⟩ : ∃ T, walkS 80 z 0 a 0 = T := ⟨_, rfl⟩
  obtain ⟨⟨eV, eW, eX, eB, eF⟩, hE⟩ : ∃ E, slotE 80 z 0 (a / 16384 % 64) = E := ⟨_, rfl⟩
  have HT := Lib.hid hT
  have HE := Lib.hid hE
  clear hT hE
  go_wp2_with fail
  refine (walk_any m F 80 c z 0 a 0 w1 M1.out a0 a1).mono ?_
  rintro e w2 ⟨rfl, b2⟩
  rw [HT.out]
  simp only [Hit.val]
  have M2 := Lib.hid (M1.out.kept (Only.of b2 []) (by simp) (by simp))
  have O2 := Lib.hid (O1.out.next (Only.of b2 []) (by simp))
  have n2 := b2.size
  clear M1 O1 b2
  go_wp2_with fail
  have ha := Only.alloc [] w2 (.cells #[.int .i64 f, .int .i64 rd, .int .i64 F', .bool W, .bool X, .bool B] 34)
  have S3 := Lib.hid (six_new w2 f rd F' W X B 34)
  have M3 := Lib.hid (M2.out.kept ha (by simp) (by simp))
  have O3 := Lib.hid (O2.out.next ha (by simp))
  have n3 : w2.heap.size + 1 = (w2.alloc (.cells #[.int .i64 f, .int .i64 rd, .int .i64 F', .bool W, .bool X, .bool B] 34)).heap.size := by simp
  clear M2 O2 ha
  generalize w2.alloc (.cells #[.int .i64 f, .int .i64 rd, .int .i64 F', .bool W, .bool X, .bool B] 34) = w3 at *
  refine (first_any a w3 a0 a1).mono ?_
  rintro e w4 ⟨rfl, k4, rfl⟩
  have ho := Only.drewN [] w3 k4
  have S4 := Lib.hid (S3.out.keptO ho)
  have M4 := Lib.hid (M3.out.kept ho (by simp) (by simp))
  have O4 := Lib.hid (O3.out.next ho (by simp))
  have n4 := ho.size
  clear S3 M3 O3 ho
  generalize w3.drewN k4 = w4 at *
  have i0 : 0 ≤ a / 16384 % 64 := by omega
  have i1 : a / 16384 % 64 < 64 := by omega
  have HW := Lib.hid (show hwA 80 (4 * (a / 16384 % 64)).toNat = true by unfold hwA; simp; omega)
  have HV := Lib.hid (rdw_lt (n := 80) (z := z) (fun j hj => M4.out.row.b8 j hj) (4 * (a / 16384 % 64)).toNat)
  have HE2 : Hid (entOf (rdw 80 z (4 * (a / 16384 % 64)).toNat) = ⟨eV, eW, eX, eB, eF⟩) := Lib.hid (by rw [← HE.out]; unfold slotE wAt; congr 2; omega)
  go_wp2_with fail
  refine (word_at m F 80 c (4 * (a / 16384 % 64)).toNat _ z _ M4.out (by omega) (by omega)).mono ?_
  rintro e w5 ⟨rfl, k5, rfl⟩
  rw [HW.out]
  generalize rdw 80 z (4 * (a / 16384 % 64)).toNat = v at *
  have ho := Only.drewN [] w4 k5
  have S5 := Lib.hid (S4.out.keptO ho)
  have M5 := Lib.hid (M4.out.kept ho (by simp) (by simp))
  have O5 := Lib.hid (O4.out.next ho (by simp))
  have n5 := ho.size
  clear S4 M4 O4 ho HW
  generalize w4.drewN k5 = w5 at *
  go_wp2_with fail
  refine (decode_any v w5 HV.out.1 HV.out.2).mono ?_
  rintro e w6 ⟨rfl, b6⟩
  have HE3 := HE2.out
  unfold entOf at HE3
  injection HE3 with z1 z2 z3 z4 z5
  rw [z1, z2, z3, z4, z5]
  have S6 := Lib.hid (S5.out.kept' b6)
  have M6 := Lib.hid (M5.out.kept (Only.of b6 []) (by simp) (by simp))
  have O6 := Lib.hid (O5.out.next (Only.of b6 []) (by simp))
  have n6 := b6.size
  clear S5 M5 O5 b6 HE2 HV z1 z2 z3 z4 z5
  go_wp2_with fail
  have ha := Only.alloc [] w6 (.cells #[.bool eV, .bool eW, .bool eX, .bool eB, .int .i64 eF] 40)
  have S7 := Lib.hid (S6.out.keptO ha)
  have T7 := Lib.hid (five_new w6 eV eW eX eB eF 40)
  have M7 := Lib.hid (M6.out.kept ha (by simp) (by simp))
  have O7 := Lib.hid (O6.out.next ha (by simp))
  clear M6 O6 S6 ha
  generalize hw7 : w6.alloc (.cells #[.bool eV, .bool eW, .bool eX, .bool eB, .int .i64 eF] 40) = w7 at *
  clear hw7
  have ne1 : F ≠ w2.heap.size := by omega
  have ne2 : F ≠ w6.heap.size := by omega
  clear n2 n3 n4 n5 n6 lF
  go_loopw [13] (fun i wr => ∃ k : Nat, k ≤ lo ∧ i = .int .i64 k ∧ (∃ z', Mem wr m F 80 c z' ∧ Same z z' ⟨eV, eW, eX, eB, eF⟩) ∧ Six wr w2.heap.size f rd F' W X B ∧ Five wr w6.heap.size eV eW eX eB eF ∧ Only [] w wr) (fun i _ => lo - (intOf i).toNat)
  case atStart => exact ⟨0, by omega, rfl, ⟨z, M7.out, Ag.refl _ _, fun _ _ _ _ => Ag.refl _ _⟩, S7.out, T7.out, O7.out⟩
  case round =>
    obtain ⟨k, hk, rfl, ⟨z', hM, hS⟩, hSix, hFive, hO⟩ := hrel
    have MH := Lib.hid hM
    have AH := Lib.hid hS
    have SH := Lib.hid hSix
    have TH := Lib.hid hFive
    have OH := Lib.hid hO
    clear hM hS hSix hFive hO M7 S7 T7 O7
    by_cases hlt : k < lo
    · obtain ⟨b, off, epa, hbB, hcc⟩ := HY.out (by omega)
      subst epa
      have ck := (hcc k hlt).kept OH.out (by simp)
      have c0 := ck.c0
      have c1 := ck.c1
      have ad0 := ck.ad
      have v0 := ck.v0
      have v1 := ck.v1
      have hki : (k : Int) < lo := by omega
      obtain ⟨t0, t1, t2, t3, t4⟩ := TH.out
      clear hcc ck
      by_cases q0 : (y.ad k : Int) / 256 = 0
      · have dq : ((y.ad k : Int) / 256 == 0) = true := by simpa using q0
        clear q0
        go_wp2
        go_roundw
        case rel => exact ⟨k + 1, by omega, by go_num, ⟨z', MH.out, AH.out⟩, SH.out, TH.out, OH.out⟩
        case measure => simp [intOf]; omega
      have dq : ((y.ad k : Int) / 256 == 0) = false := by simpa using q0
      by_cases qs : eV = true ∧ eB = false ∧ (y.ad k : Int) / 256 = eF
      · obtain ⟨rfl, rfl, qf⟩ := qs
        have df : ((y.ad k : Int) / 256 == eF) = true := by simpa using qf
        clear q0 qf
        go_wp2
        go_roundw
        case rel => exact ⟨k + 1, by omega, by go_num, ⟨z', MH.out, AH.out⟩, SH.out, TH.out, OH.out⟩
        case measure => simp [intOf]; omega
      have AN := Lib.hid (show Same z (pw 80 z' (y.ad k) (y.vl k)) ⟨eV, eW, eX, eB, eF⟩ from
        ⟨AH.out.1.put 80 _ _ (by omega), fun hV hB q hq => (AH.out.2 hV hB q hq).put 80 _ _ (fun h => qs ⟨hV, hB, by have hq' : eF = (q : Int) := hq; omega⟩)⟩)
      have CT : Hid (∀ w', w'.cell? ⟨b, off + k * 2, none⟩ = some (.int .u32 (y.ad k)) ∧ w'.cell? ⟨b, off + k * 2 + 1, none⟩ = some (.int .u32 (y.vl k)) ∧ Mem w' m F 80 c z' ∧ Six w' w2.heap.size f rd F' W X B ∧ Five w' w6.heap.size eV eW eX eB eF ∧ Only [] w w' →
          Calls Try.prog 23 #[.pointer (some ⟨m, 0, none⟩), .int .u32 (y.ad k), .int .u32 (y.vl k)] w' fun e w'' => e = .returned (.bool (hwA 80 (y.ad k))) ∧ Mem w'' m F 80 c (pw 80 z' (y.ad k) (y.vl k)) ∧ Six w'' w2.heap.size f rd F' W X B ∧ Five w'' w6.heap.size eV eW eX eB eF ∧ Only [] w w'') := Lib.hid fun w' h => by
        refine (putWord_any m F 80 c (y.ad k) z' (y.vl k) w' h.2.2.1 ad0 v0 v1).mono ?_
        rintro e w'' ⟨rfl, hM, hO⟩
        exact ⟨rfl, hM, h.2.2.2.1.keptS hO (by simpa using ne1.symm), h.2.2.2.2.1.keptS hO (by simpa using ne2.symm), h.2.2.2.2.2.next hO (by simp; omega)⟩
      cases hV : eV
      · subst hV
        have dV : True := trivial
        clear q0 qs dV
        go_wp2_with fail
        refine seal_tail (S := fun w' => w'.cell? ⟨b, off + k * 2, none⟩ = some (.int .u32 (y.ad k)) ∧ w'.cell? ⟨b, off + k * 2 + 1, none⟩ = some (.int .u32 (y.vl k)) ∧ Mem w' m F 80 c z' ∧ Six w' w2.heap.size f rd F' W X B ∧ Five w' w6.heap.size false eW eX eB eF ∧ Only [] w w') 11 (by kernel_rfl) (by kernel_rfl) ⟨c0, c1, MH.out.kept (Only.drewN [] _ 1) (by simp) (by simp), SH.out.keptO (Only.drewN [] _ 1), TH.out.keptS (Only.drewN [] _ 1) (by simp), OH.out.next (Only.drewN [] _ 1) (by simp)⟩ ?_
        intro w8 h8
        have e0 := h8.1
        have e1 := h8.2.1
        have H8 := Lib.hid h8
        clear c0 c1 MH OH SH TH h8 t0 t1 t2 t3 t4
        simp only [List.take_succ_cons, List.take_zero, List.drop_succ_cons, List.drop_zero]
        iterate 11 (refine seal_next (fun K hK => ?_); go_simp; refine hK _ ?_; clear hK K)
        refine seal_nil ?_
        go_wp2_with (go_at_call 23; refine (CT.out w8 H8.out).mono ?_; rintro e w9 ⟨rfl, M9, S9, T9, O9⟩)
        go_roundw
        case rel => exact ⟨k + 1, by omega, by go_num, ⟨_, M9, AN.out⟩, S9, T9, O9⟩
        case measure => simp [intOf]; omega
      · subst hV
        cases hB : eB
        · subst hB
          have df : ((y.ad k : Int) / 256 == eF) = false := by simpa using qs
          clear q0 qs
          go_wp2_with fail
          refine seal_tail (S := fun w' => w'.cell? ⟨b, off + k * 2, none⟩ = some (.int .u32 (y.ad k)) ∧ w'.cell? ⟨b, off + k * 2 + 1, none⟩ = some (.int .u32 (y.vl k)) ∧ Mem w' m F 80 c z' ∧ Six w' w2.heap.size f rd F' W X B ∧ Five w' w6.heap.size true eW eX false eF ∧ Only [] w w') 11 (by kernel_rfl) (by kernel_rfl) ⟨c0, c1, MH.out.kept (Only.drewN [] _ 1) (by simp) (by simp), SH.out.keptO (Only.drewN [] _ 1), TH.out.keptS (Only.drewN [] _ 1) (by simp), OH.out.next (Only.drewN [] _ 1) (by simp)⟩ ?_
          intro w8 h8
          have e0 := h8.1
          have e1 := h8.2.1
          have H8 := Lib.hid h8
          clear c0 c1 MH OH SH TH h8 t0 t1 t2 t3 t4
          simp only [List.take_succ_cons, List.take_zero, List.drop_succ_cons, List.drop_zero]
          iterate 11 (refine seal_next (fun K hK => ?_); go_simp; refine hK _ ?_; clear hK K)
          refine seal_nil ?_
          go_wp2_with (go_at_call 23; refine (CT.out w8 H8.out).mono ?_; rintro e w9 ⟨rfl, M9, S9, T9, O9⟩)
          go_roundw
          case rel => exact ⟨k + 1, by omega, by go_num, ⟨_, M9, AN.out⟩, S9, T9, O9⟩
          case measure => simp [intOf]; omega
        · subst hB
          have df : True := trivial
          clear q0 qs df
          go_wp2_with fail
          refine seal_tail (S := fun w' => w'.cell? ⟨b, off + k * 2, none⟩ = some (.int .u32 (y.ad k)) ∧ w'.cell? ⟨b, off + k * 2 + 1, none⟩ = some (.int .u32 (y.vl k)) ∧ Mem w' m F 80 c z' ∧ Six w' w2.heap.size f rd F' W X B ∧ Five w' w6.heap.size true eW eX true eF ∧ Only [] w w') 11 (by kernel_rfl) (by kernel_rfl) ⟨c0, c1, MH.out.kept (Only.drewN [] _ 1) (by simp) (by simp), SH.out.keptO (Only.drewN [] _ 1), TH.out.keptS (Only.drewN [] _ 1) (by simp), OH.out.next (Only.drewN [] _ 1) (by simp)⟩ ?_
          intro w8 h8
          have e0 := h8.1
          have e1 := h8.2.1
          have H8 := Lib.hid h8
          clear c0 c1 MH OH SH TH h8 t0 t1 t2 t3 t4
          simp only [List.take_succ_cons, List.take_zero, List.drop_succ_cons, List.drop_zero]
          iterate 11 (refine seal_next (fun K hK => ?_); go_simp; refine hK _ ?_; clear hK K)
          refine seal_nil ?_
          go_wp2_with (go_at_call 23; refine (CT.out w8 H8.out).mono ?_; rintro e w9 ⟨rfl, M9, S9, T9, O9⟩)
          go_roundw
          case rel => exact ⟨k + 1, by omega, by go_num, ⟨_, M9, AN.out⟩, S9, T9, O9⟩
          case measure => simp [intOf]; omega
    · have WV : walkS 80 z' 0 a 0 = ⟨f, rd, F', W, X, B⟩ := by
        rw [walkS_same (z := z) (by rw [HE.out]; exact AH.out), HT.out]
      have DW : Hid (∀ d os, Calls Try.prog 13 #[.pointer (some ⟨m, 0, none⟩), .int .i64 0, .int .u32 a, .int .i64 0] (Go.Sort.grow (redrawn wr d) os) fun e w' => e = .returned (.agg #[.int .i64 f, .int .i64 rd, .int .i64 F', .bool W, .bool X, .bool B]) ∧ Below (Go.Sort.grow (redrawn wr d) os).heap.size (Go.Sort.grow (redrawn wr d) os) w') := Lib.hid fun d os => by
        have h := walk_any m F 80 c z' 0 a 0 (Go.Sort.grow (redrawn wr d) os) (MH.out.kept (Only.of (below_regrown wr d os) []) (by simp) (by simp)) a0 a1
        rw [WV] at h
        exact h
      obtain ⟨c0, c1, c2, c3, c4, c5⟩ := SH.out
      have q := fun w => eqHit f rd F' W X B w
      clear WV MH AH SH TH
      go_wp2_with fail
      have r0 := cell_regrown c0
      have r1 := cell_regrown c1
      have r2 := cell_regrown c2
      have r3 := cell_regrown c3
      have r4 := cell_regrown c4
      have r5 := cell_regrown c5
      refine wp_region_quiet_below (by kernel_rfl) (by kernel_rfl) ?_
      repeat (quiet_step (first | (go_at_call 13; exact Calls.regrown_of (DW.out _ _))))
      refine wpQuiet_nil ?_
      intro _ hw'
      obtain ⟨⟨dq, osq⟩, hw''⟩ := hw'
      subst hw''
      have O8 := Lib.hid (OH.out.next (Only.of (below_regrown wr dq osq) []) (by simp))
      clear r0 r1 r2 r3 r4 r5 c0 c1 c2 c3 c4 c5 q OH
      go_wp2
      go_ret
      exact ⟨rfl, O8.out⟩
set_option maxRecDepth 100000 in
theorem lifted (os : Os) (started : os.Started) (H : Type) (enc : TypeId × Value → H) :
    ReturnsInHanded {} Try.checked os 7 .any (Rows.walkApartSpec.pre6 enc Try.prog Try.f7 Rows.walkApartRow.domain false) (Rows.walkApartSpec.post enc Try.prog Try.f7 false true false false) := by
  refine returnsInHanded_of_change_sized (C := Try.checked) own started (by kernel_rfl) Try.func7
    (ChangeSpec.witness6 (enc := enc) (C := Try.checked) false ⟨#[], #[.slice none 0 0, .slice none 0 0, .int .u32 0], []⟩ 8 (by kernel_rfl) (by kernel_rfl) (by kernel_rfl) (by kernel_rfl)) ?_
  intro W base args ds gs before hval0 hW hcnd hZ0 _
  have hval : ∀ (j : Nat) t v, Try.f7.params[j]? = some t → args[j]? = some v → Value.okWide Try.prog W .any base t v := hval0
  have hZ : ∀ n ∈ DataW.weightsEach Try.prog (Try.f7.params.toList ++ []) (ds ++ gs), n ≤ reachBytes := fun n hn => of_decide_eq_true (List.all_eq_true.1 hZ0 n hn)
  have hW' := hW
  obtain ⟨p, q, hA0, hV, rfl, hfz, hnd⟩ := hW
  have hA : DataW.TrodAll enc Try.prog W 0 (fun _ => true) true Try.f7.params.toList args.toList ds p := hA0
  rw [Try.params7] at hA hval hZ
  obtain ⟨v0, vs0, d0, ds0, p0, q0, hargs, rfl, rfl, h0, r0⟩ := trodAll_cons hA
  obtain ⟨v1, vs1, d1, ds1, p1, q1, rfl, rfl, rfl, h1, r1⟩ := trodAll_cons r0
  obtain ⟨v2, vs2, d2, ds2, p2, q2, rfl, rfl, rfl, h2, r2⟩ := trodAll_cons r1
  obtain ⟨rfl, rfl, rfl⟩ := trodAll_nil r2
  obtain rfl : args = #[v0, v1, v2] := by cases args; simp_all
  obtain ⟨rfl, rfl⟩ := trodVars_none hV
  have k0 := h0
  have hz0 : ∀ n ∈ d0.weights Try.prog 22, n ≤ reachBytes := fun n hn => hZ n (by simp only [List.append_nil, DataW.weightsEach, List.mem_append]; exact Or.inl hn)
  obtain ⟨a0, n0, c0, y0, rfl, m0, lt0, z0⟩ := puts_open (hval 0 22 v0 rfl rfl) h0 hz0
  have k1 := h1
  have hz1 : ∀ n ∈ d1.weights Try.prog 22, n ≤ reachBytes := fun n hn => hZ n (by simp only [List.append_nil, DataW.weightsEach, List.mem_append]; exact Or.inr (Or.inl hn))
  obtain ⟨a1, n1, c1, y1, rfl, m1, lt1, z1⟩ := puts_open (hval 1 22 v1 rfl rfl) h1 hz1
  obtain ⟨x2, rfl, rfl, rfl, w2⟩ := open_int Try.underlying36 (hval 2 36 v2 rfl rfl) h2
  clear hA0 hval0 hZ0
  refine (walk a0 n0 c0 y0 a1 n1 c1 y1 x2 W m0 z0 m1 z1 (bounds_u32 w2).1 (by have := (bounds_u32 w2).2; omega)).mono fun e W' ⟨he, ho⟩ => ?_
  subst he
  have bel : Below W.heap.size W W' := ho.below (Nat.le_refl _) (by simp)
  exact ⟨_, rfl, _, _, _, [], _, [], hW', trodAll_mk1 (shut_bool Try.underlying4 _), (trodAll_cons_mk (Below.trod laidOut (by kernel_rfl) (of_decide_eq_true (by kernel_rfl)) k0 bel lt0) (trodAll_cons_mk (Below.trod laidOut (by kernel_rfl) (of_decide_eq_true (by kernel_rfl)) k1 bel lt1) (trodAll_cons_mk (shut_int Try.underlying36 w2) trodAll_mk0))), rfl, bel.frame _, fun h => by cases h⟩
theorem over : Rows.walkApartRow.holds Try.pinned (OpenSpec.ofChange Rows.walkApartSpec) :=
  OpenClaim.holds_of_wide 7 Try.f7 rfl rfl rfl rfl rfl rfl rfl ⟨rfl, rfl, rfl, rfl, rfl⟩ rfl rfl rfl rfl rfl (by kernel_rfl) Try.func7 (by kernel_rfl)
    (of_decide_eq_true (by kernel_rfl)) (by unfold Func.isWrapper; first | (rw [if_pos (by decide +kernel)]; kernel_rfl) | (rw [if_neg (by decide +kernel)]; exact ⟨rfl, rfl⟩))
    (fun os started H enc _ => lifted os started H enc)
end walkApart
/-- The statement. -/
theorem walkApart_holds : Rows.WalkApartSaid := walkApart.over
#print axioms walkApart_holds
end Go.Proofs.Ytpfeibhafchfkaa
