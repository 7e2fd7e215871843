/-
  What the document's own Unmap, Protect, Split, Merge and Tables answer and leave, and what its New makes. Conditions: that its space lies there, and that each argument is of its Go type.
-/
import Derived.Test.YtiiggmfindfkfaaGreatStRchg
import Derived.Deep.QuietTactic
import Derived.BigQuiet
namespace Go.Proofs.YtiiggmfindfkfaaGreat
open Go.RowKit Nt
namespace St
open Ph En Wk
set_option maxRecDepth 100000 in
theorem runm_any (r P G n : Nat) (p : Int) (s : Rst) (w : World) (hS : Rs w r P G n s) (hb : s.fr ≤ 5000) (hb0 : 0 ≤ s.fr) :
    Calls Tryz.prog 38 #[.pointer (some ⟨r, 0, none⟩), .int .i64 p] w fun e w' => e = .returned (.int .i64 (chgR s p (0, false, false, false)).1) ∧ Rs w' r P G n (chgR s p (0, false, false, false)).2 ∧ Only [r, P, G] w w' := by
  have CT := Lib.hid (rchg_no r P G n p s w hS hb hb0)
  clear hS hb hb0
  go_enter Tryz.func38, Tryz.ntmps38
  go_wp2_with fail
  refine CT.out.mono ?_
  rintro e w1 ⟨rfl, h1, h2⟩
  have F1 := Lib.hid (And.intro h1 h2)
  clear h1 h2 CT
  go_wp2
  go_ret
  exact ⟨rfl, F1.out.1, F1.out.2⟩
set_option maxRecDepth 100000 in
theorem rpro_any (r P G n : Nat) (p : Int) (a b : Bool) (s : Rst) (w : World) (hS : Rs w r P G n s) (hb : s.fr ≤ 5000) (hb0 : 0 ≤ s.fr) :
    Calls Tryz.prog 39 #[.pointer (some ⟨r, 0, none⟩), .int .i64 p, .bool a, .bool b] w fun e w' => e = .returned (.int .i64 (chgR s p (0, true, a, b)).1) ∧ Rs w' r P G n (chgR s p (0, true, a, b)).2 ∧ Only [r, P, G] w w' := by
  have CT := Lib.hid (rchg_yes r P G n p a b s w hS hb hb0)
  clear hS hb hb0
  go_enter Tryz.func39, Tryz.ntmps39
  go_wp2_with fail
  refine CT.out.mono ?_
  rintro e w1 ⟨rfl, h1, h2⟩
  have F1 := Lib.hid (And.intro h1 h2)
  clear h1 h2 CT
  go_wp2
  go_ret
  exact ⟨rfl, F1.out.1, F1.out.2⟩
def splR (s : Rst) (i : Int) : Int × Rst :=
  if inR 64 i = false then (11, s)
  else if s.f i.toNat ≠ 1 then (12, s)
  else match tabR s i.toNat with
    | none => (15, s)
    | some t => (0, t)
set_option maxRecDepth 100000 in
theorem rspl_any (r P G n : Nat) (p : Int) (s : Rst) (w : World) (hS : Rs w r P G n s) (hb : s.fr ≤ 5000) :
    Calls Tryz.prog 40 #[.pointer (some ⟨r, 0, none⟩), .int .i64 p] w fun e w' => e = .returned (.int .i64 (splR s p).1) ∧ Rs w' r P G n (splR s p).2 ∧ Only [r, P, G] w w' := by
  obtain ⟨ans, hans⟩ : ∃ ans, ans = splR s p := ⟨_, rfl⟩
  rw [← hans]
  have HS := Lib.hid hS
  have HB := Lib.hid hb
  clear hS hb
  cases h1 : inR 64 p with
  | false =>
    have e : splR s p = (11, s) := by unfold splR; rw [if_pos h1]
    obtain rfl := hans.trans e
    have D1 := Lib.hid (show (decide (0 ≤ p) && decide (p < 64)) = false from h1)
    clear e hans h1
    go_enter Tryz.func40, Tryz.ntmps40
    go_wp2_with (go_at_call 80; refine (rspan_any p 64 _).mono ?_; rintro e w1 ⟨rfl, rfl⟩; rw [D1.out])
    go_ret
    exact ⟨rfl, HS.out, Only.refl _ _⟩
  | true =>
  have D1 := Lib.hid (show (decide (0 ≤ p) && decide (p < 64)) = true from h1)
  obtain ⟨i, rfl, hi⟩ := inR_nat h1
  have e0 : splR s i = (if s.f i ≠ 1 then (12, s) else match tabR s i with
    | none => (15, s)
    | some t => (0, t) : Int × Rst) := by
    unfold splR
    rw [if_neg (by rw [h1]; simp)]
    rfl
  rw [e0] at hans
  have c0 := HS.out.c1
  have g0 := HS.out.g0 i hi
  clear e0 h1
  by_cases h5 : s.f i = 1
  case neg =>
    rw [if_pos h5] at hans
    subst hans
    have d5 : (s.f i != 1) = true := by simpa using h5
    clear h5
    go_enter Tryz.func40, Tryz.ntmps40
    go_wp2_with (go_at_call 80; refine (rspan_any (i : Int) 64 _).mono ?_; rintro e w1 ⟨rfl, rfl⟩; rw [D1.out])
    go_ret
    exact ⟨rfl, HS.out, Only.refl _ _⟩
  rw [if_neg (by simpa using h5)] at hans
  rw [h5] at g0
  clear h5
  cases htb : tabR s i with
  | none =>
    rw [htb] at hans
    subst hans
    have CT := Lib.hid (rtable_no r P G n i s w HS.out hi htb)
    clear htb
    go_enter Tryz.func40, Tryz.ntmps40
    go_wp2_with (go_at_call 80; refine (rspan_any (i : Int) 64 _).mono ?_; rintro e w1 ⟨rfl, rfl⟩; rw [D1.out])
    refine CT.out.mono ?_
    rintro e w1 ⟨rfl, rfl⟩
    go_wp2
    go_ret
    exact ⟨rfl, HS.out, Only.refl _ _⟩
  | some t =>
    rw [htb] at hans
    subst hans
    have CT := Lib.hid (rtable_yes r P G n i s t w HS.out hi htb HB.out)
    clear htb
    go_enter Tryz.func40, Tryz.ntmps40
    go_wp2_with (go_at_call 80; refine (rspan_any (i : Int) 64 _).mono ?_; rintro e w1 ⟨rfl, rfl⟩; rw [D1.out])
    refine CT.out.mono ?_
    rintro e w1 ⟨rfl, h1, h2⟩
    have F1 := Lib.hid (And.intro h1 h2)
    clear h1 h2 CT c0 g0
    go_wp2
    go_ret
    exact ⟨rfl, F1.out.1, F1.out.2⟩
/-! ### Merge -/
abbrev pV (t : PgT) : Value := .agg #[.int .i64 t.1, .bool t.2.1, .bool t.2.2.1, .bool t.2.2.2]
theorem partIr (xs : Array Value) (k : Nat) (a : Int) (w : World) (h : xs[k]? = some (.int .i64 a)) : (part 3 xs k).run Tryz.prog w = .ok (.int .i64 a) w := by
  unfold part
  rw [Sem.run_bind, Tryz.isAgg3]
  simp only [Result.andThen_ok, Bool.false_eq_true, if_false, h]
  rfl
theorem partBr (xs : Array Value) (k : Nat) (a : Bool) (w : World) (h : xs[k]? = some (.bool a)) : (part 4 xs k).run Tryz.prog w = .ok (.bool a) w := by
  unfold part
  rw [Sem.run_bind, Tryz.isAgg4]
  simp only [Result.andThen_ok, Bool.false_eq_true, if_false, h]
  rfl
theorem equalIr (a b : Int) (w : World) : (Op.equalIn 9999 3 (.int .i64 a) (.int .i64 b)).run Tryz.prog w = .ok (a == b) w := by
  rw [show (9999 : Nat) = 9998 + 1 from rfl, Op.equalIn]
  simp [run_underlying Tryz.underlying3]
theorem equalBr (a b : Bool) (w : World) : (Op.equalIn 9999 4 (.bool a) (.bool b)).run Tryz.prog w = .ok (a == b) w := by
  rw [show (9999 : Nat) = 9998 + 1 from rfl, Op.equalIn]
  simp [run_underlying Tryz.underlying4]
set_option maxRecDepth 100000 in
theorem eqP (s t : PgT) (w : World) : (Op.equalIn 10000 82 (pV s) (pV t)).run Tryz.prog w = .ok (decide (s = t)) w := by
  have hS : Tryz.prog.underlying 82 = some (.struct (Tryz.prog.fieldsOf 82)) := by kernel_rfl
  have hd : decide (s = t) = (s.1 == t.1 && (s.2.1 == t.2.1 && (s.2.2.1 == t.2.2.1 && s.2.2.2 == t.2.2.2))) := by
    obtain ⟨a, b, c, d⟩ := s
    obtain ⟨a', b', c', d'⟩ := t
    rw [Bool.eq_iff_iff]
    simp
  rw [hd, show (10000 : Nat) = 9999 + 1 from rfl, run_equalIn_struct w 9999 82 _ _ hS (by kernel_rfl)]
  simp only [Program.fieldsOf, Tryz.underlying82, Op.eqFields]
  simp only [Sem.run_bind, Sem.run_ite, partIr #[.int .i64 s.1, .bool s.2.1, .bool s.2.2.1, .bool s.2.2.2] 0 _ _ rfl, partBr #[.int .i64 s.1, .bool s.2.1, .bool s.2.2.1, .bool s.2.2.2] 1 _ _ rfl, partBr #[.int .i64 s.1, .bool s.2.1, .bool s.2.2.1, .bool s.2.2.2] 2 _ _ rfl, partBr #[.int .i64 s.1, .bool s.2.1, .bool s.2.2.1, .bool s.2.2.2] 3 _ _ rfl,
    partIr #[.int .i64 t.1, .bool t.2.1, .bool t.2.2.1, .bool t.2.2.2] 0 _ _ rfl, partBr #[.int .i64 t.1, .bool t.2.1, .bool t.2.2.1, .bool t.2.2.2] 1 _ _ rfl, partBr #[.int .i64 t.1, .bool t.2.1, .bool t.2.2.1, .bool t.2.2.2] 2 _ _ rfl, partBr #[.int .i64 t.1, .bool t.2.1, .bool t.2.2.1, .bool t.2.2.2] 3 _ _ rfl, equalIr, equalBr, Result.andThen_ok]
  cases s.1 == t.1 <;> cases s.2.1 == t.2.1 <;> cases s.2.2.1 == t.2.2.1 <;> cases s.2.2.2 == t.2.2.2 <;> simp
theorem neqP (s t : PgT) (w : World) : (binOp .neq 82 (pV s) (pV t)).run Tryz.prog w = .ok (.bool (!decide (s = t))) w := by
  simp only [binOp]
  simp [Op.equal, Op.maxDepth, eqP]
/-- Do the first of a first index's pages have frames one behind the other? -/
def mok (q : Nat → PgT) (i k : Nat) : Bool := (List.range k).all fun j => decide (q (64 * i + j) = ((q (64 * i)).1 + (j : Int), (q (64 * i)).2))
theorem mok_zero (q : Nat → PgT) (i : Nat) : mok q i 0 = true := by simp [mok]
theorem mok_next (q : Nat → PgT) (i k : Nat) : mok q i (k + 1) = (mok q i k && decide (q (64 * i + k) = ((q (64 * i)).1 + (k : Int), (q (64 * i)).2))) := by
  unfold mok
  rw [List.range_succ, List.all_append]
  simp
theorem mok_no {q : Nat → PgT} {i k : Nat} (h : mok q i k = false) : ∀ {m : Nat}, k ≤ m → mok q i m = false := by
  intro m hm
  unfold mok at h ⊢
  rw [List.all_eq_false] at h ⊢
  obtain ⟨j, hj, hn⟩ := h
  exact ⟨j, List.mem_range.2 (Nat.lt_of_lt_of_le (List.mem_range.1 hj) hm), hn⟩
def merR (s : Rst) (i : Int) : Int × Rst :=
  if inR 64 i = false then (11, s)
  else if s.f i.toNat ≠ 2 then (12, s)
  else if (s.q (64 * i.toNat)).2.1 = true ∧ (s.q (64 * i.toNat)).1 % 64 = 0 ∧ mok s.q i.toNat 64 = true then (0, ⟨s.fr + 1, upd s.f i.toNat 1, s.q⟩)
  else (20, s)
theorem Rs.news {w : World} {r P G n : Nat} {s : Rst} (h : Rs w r P G n s) (o : Obj) : Rs (w.alloc o) r P G n s := h.kept (Only.alloc [] w o) (by simp) (by simp) (by simp)
set_option maxRecDepth 100000 in
set_option maxHeartbeats 2000000 in
theorem rmer_any (r P G n : Nat) (p : Int) (s : Rst) (w : World) (hS : Rs w r P G n s) (hb : s.fr ≤ 5000) (hb0 : 0 ≤ s.fr) (hq : ∀ p, p < 4096 → 0 ≤ (s.q p).1 ∧ (s.q p).1 ≤ 5000) :
    Calls Tryz.prog 41 #[.pointer (some ⟨r, 0, none⟩), .int .i64 p] w fun e w' => e = .returned (.int .i64 (merR s p).1) ∧ Rs w' r P G n (merR s p).2 ∧ Only [r, P, G] w w' := by
  obtain ⟨ans, hans⟩ : ∃ ans, ans = merR s p := ⟨_, rfl⟩
  rw [← hans]
  have HS := Lib.hid hS
  have HQ := Lib.hid hq
  clear hS hq
  cases h1 : inR 64 p with
  | false =>
    have e : merR s p = (11, s) := by unfold merR; rw [if_pos h1]
    obtain rfl := hans.trans e
    have D1 := Lib.hid (show (decide (0 ≤ p) && decide (p < 64)) = false from h1)
    clear e hans h1
    go_enter Tryz.func41, Tryz.ntmps41
    go_wp2_with (go_at_call 80; refine (rspan_any p 64 _).mono ?_; rintro e w1 ⟨rfl, rfl⟩; rw [D1.out])
    go_ret
    exact ⟨rfl, HS.out, Only.refl _ _⟩
  | true =>
  have D1 := Lib.hid (show (decide (0 ≤ p) && decide (p < 64)) = true from h1)
  obtain ⟨i, rfl, hi⟩ := inR_nat h1
  have e0 : merR s i = (if s.f i ≠ 2 then (12, s) else if (s.q (64 * i)).2.1 = true ∧ (s.q (64 * i)).1 % 64 = 0 ∧ mok s.q i 64 = true then (0, ⟨s.fr + 1, upd s.f i 1, s.q⟩) else (20, s) : Int × Rst) := by
    unfold merR
    rw [if_neg (by rw [h1]; simp)]
    rfl
  rw [e0] at hans
  have c0 := HS.out.c1
  have g0 := HS.out.g0 i hi
  clear e0 h1
  by_cases h5 : s.f i = 2
  case neg =>
    rw [if_pos h5] at hans
    subst hans
    have d5 : (s.f i != 2) = true := by simpa using h5
    clear h5
    go_enter Tryz.func41, Tryz.ntmps41
    go_wp2_with (go_at_call 80; refine (rspan_any (i : Int) 64 _).mono ?_; rintro e w1 ⟨rfl, rfl⟩; rw [D1.out])
    go_ret
    exact ⟨rfl, HS.out, Only.refl _ _⟩
  rw [if_neg (by simpa using h5)] at hans
  rw [h5] at g0
  clear h5
  have AN := Lib.hid hans
  clear hans
  have hp : 64 * i < 4096 := by omega
  have a0 := HS.out.q0 (64 * i) hp
  have a1 := HS.out.q1 (64 * i) hp
  have a2 := HS.out.q2 (64 * i) hp
  have a3 := HS.out.q3 (64 * i) hp
  have c1 := HS.out.c0
  have ei : (64 * (i : Int)).toNat = 64 * i := by omega
  obtain ⟨t, ht⟩ : ∃ t, t = s.q (64 * i) := ⟨_, rfl⟩
  rw [← ht] at a0 a1 a2 a3 AN
  have QB := Lib.hid (show 0 ≤ t.1 ∧ t.1 ≤ 5000 from by rw [ht]; exact HQ.out _ hp)
  have ET := Lib.hid ht
  have H1 := Lib.hid (HS.out.news (.cells #[.int .i64 t.1, .bool t.2.1, .bool t.2.2.1, .bool t.2.2.2] 82))
  have O1 := Lib.hid (Only.alloc [r, P, G] w (.cells #[.int .i64 t.1, .bool t.2.1, .bool t.2.2.1, .bool t.2.2.2] 82))
  have Y1 := Lib.hid (Tl.Lay.new w 82 [.int .i64 t.1, .bool t.2.1, .bool t.2.2.1, .bool t.2.2.2])
  clear ht HQ
  go_enter Tryz.func41, Tryz.ntmps41
  go_wp2_with (go_at_call 80; refine (rspan_any (i : Int) 64 _).mono ?_; rintro e w1 ⟨rfl, rfl⟩; rw [D1.out])
  obtain ⟨bx, hbx⟩ : ∃ bx, bx = w.heap.size := ⟨_, rfl⟩
  rw [← hbx] at Y1 ⊢
  clear hbx a0 a1 a2 a3 c0 c1 g0 ei HS
  go_loopw [6] (fun c wr => ∃ k : Nat, c = .int .i64 k ∧ k ≤ 64 ∧ Rs wr r P G n s ∧ Only [r, P, G] w wr ∧ Tl.Lay wr bx 82 [.int .i64 t.1, .bool t.2.1, .bool t.2.2.1, .bool t.2.2.2] ∧ mok s.q i k = true ∧ (0 < k → t.2.1 = true ∧ t.1 % 64 = 0)) (fun c _ => 64 - (intOf c).toNat)
  case atStart => exact ⟨0, rfl, by omega, H1.out, O1.out, Y1.out, mok_zero _ _, fun h => absurd h (by omega)⟩
  case round =>
    obtain ⟨k, rfl, hk, hR, hO, hY, hM, hZ⟩ := hrel
    have H2 := Lib.hid hR
    have O2 := Lib.hid hO
    have Y2 := Lib.hid hY
    have M2 := Lib.hid hM
    have Z2 := Lib.hid hZ
    clear hR hO hY hM hZ H1 O1 Y1
    by_cases hlt : k < 64
    · have q0 := QB.out.1
      have q1 := QB.out.2
      have hpk : 64 * i + k < 4096 := by omega
      have x0 := Y2.out.cell 0
      have x1 := Y2.out.cell 1
      have x2 := Y2.out.cell 2
      have x3 := Y2.out.cell 3
      have xl := Y2.out.lt
      simp only [List.getElem?_cons_zero, List.getElem?_cons_succ] at x0 x1 x2 x3
      have H3 := Lib.hid (fun m => (H2.out.news (.cells #[.int .i64 (t.1 + (k : Int)), .bool t.2.1, .bool t.2.2.1, .bool t.2.2.2] 82)).kept (Only.drewN [] _ m) (by simp) (by simp) (by simp))
      have O3 := Lib.hid (fun m => (O2.out.trans (Only.alloc [r, P, G] wr (.cells #[.int .i64 (t.1 + (k : Int)), .bool t.2.1, .bool t.2.2.1, .bool t.2.2.2] 82))).trans (Only.drewN [r, P, G] _ m))
      have Y3 := Lib.hid (fun m => (Y2.out.alloc (.cells #[.int .i64 (t.1 + (k : Int)), .bool t.2.1, .bool t.2.2.1, .bool t.2.2.2] 82)).kept (Only.drewN [] _ m) (by simp))
      have hr := H2.out.lt
      have hP := H2.out.ltP
      have c1 := H2.out.c0
      have k0 := H2.out.q0 (64 * i + k) hpk
      have k1 := H2.out.q1 (64 * i + k) hpk
      have k2 := H2.out.q2 (64 * i + k) hpk
      have k3 := H2.out.q3 (64 * i + k) hpk
      have ei : (64 * (i : Int) + (k : Int)).toNat = 64 * i + k := by omega
      obtain ⟨v, hv⟩ : ∃ v, v = s.q (64 * i + k) := ⟨_, rfl⟩
      rw [← hv] at k0 k1 k2 k3
      have EV := Lib.hid hv
      clear hv H2 O2 Y2
      cases h1 : t.2.1 with
      | false =>
        have ea := AN.out
        rw [if_neg (by rw [h1]; simp)] at ea
        subst ea
        rw [h1] at x1
        rw [h1] at H3 O3
        clear AN k0 k1 k2 k3 c1
        go_wp2_with fail
        go_quiet (fail)
        go_wp2_with fail
        go_ret
        exact ⟨rfl, H3.out _, O3.out _⟩
      | true =>
      rw [h1] at x1 H3 O3 Y3 
      have T1 := Lib.hid h1
      by_cases h2 : t.1 % 64 = 0
      case neg =>
        have ea := AN.out
        rw [if_neg (by rintro ⟨_, h, _⟩; exact h2 h)] at ea
        subst ea
        have d2 : (t.1 % 64 != 0) = true := by simpa using h2
        clear AN k0 k1 k2 k3 c1 h1 h2
        go_wp2_with fail
        go_quiet (fail)
        go_wp2_with fail
        go_ret
        exact ⟨rfl, H3.out _, O3.out _⟩
      have d2 : (t.1 % 64 != 0) = false := by simpa using h2
      have T2 := Lib.hid h2
      have MN := Lib.hid (mok_next s.q i k)
      by_cases heq : v = (t.1 + (k : Int), t.2)
      · have m2 := MN.out
        rw [M2.out, ← EV.out, ← ET.out, decide_eq_true heq] at m2
        have M3 := Lib.hid m2
        have nq := fun wq => neqP (t.1 + (k : Int), true, t.2.2.1, t.2.2.2) (t.1 + (k : Int), true, t.2.2.1, t.2.2.2) wq
        simp only [decide_true, Bool.not_true] at nq
        have ev : v = (t.1 + (k : Int), true, t.2.2.1, t.2.2.2) := by rw [heq, ← h1]
        rw [ev] at k0 k1 k2 k3
        clear h1 h2 heq m2 MN ev
        go_wp2_with fail
        go_quiet (fail)
        go_wp2_with fail
        go_roundw
        case rel => exact ⟨k + 1, by go_num, by omega, H3.out _, O3.out _, Y3.out _, by rw [M3.out]; rfl, fun _ => ⟨trivial, T2.out⟩⟩
        case measure => simp only [intOf, Int.toNat_natCast]; omega
      · have m2 := MN.out
        rw [← EV.out, ← ET.out, decide_eq_false heq, Bool.and_false] at m2
        have ea := AN.out
        rw [if_neg (by rintro ⟨_, _, h⟩; rw [mok_no m2 (by omega)] at h; cases h)] at ea
        subst ea
        have nq := fun wq => neqP v (t.1 + (k : Int), true, t.2.2.1, t.2.2.2) wq
        have hd : decide (v = (t.1 + (k : Int), true, t.2.2.1, t.2.2.2)) = false := decide_eq_false (fun e => heq (by rw [e, ← h1]))
        simp only [hd, Bool.not_false] at nq
        clear AN h1 h2 heq m2 MN hd
        go_wp2_with fail
        go_quiet (fail)
        go_wp2_with fail
        go_ret
        exact ⟨rfl, H3.out _, O3.out _⟩
    · obtain rfl : k = 64 := by omega
      have ea := AN.out
      rw [if_pos ⟨(Z2.out (by omega)).1, (Z2.out (by omega)).2, M2.out⟩] at ea
      subst ea
      have c0 := H2.out.c1
      have g0 := H2.out.g0 i hi
      have fg := H2.out.fg i hi
      have H4 := Lib.hid (H2.out.setF hi 1)
      have H5 := Lib.hid (H4.out.setFr (s.fr + 1))
      have O5 := Lib.hid ((O2.out.trans (Only.setCell wr (b := G) (by simp) i (.int .i64 1))).trans (Only.setCell _ (b := r) (by simp) 3 (.int .i64 (s.fr + 1))))
      have e1 := H4.out.c3
      have e2 := H4.out.f3
      simp only at e1
      clear AN
      go_wp2_with fail
      go_ret
      exact ⟨rfl, H5.out, O5.out⟩
end St
end Go.Proofs.YtiiggmfindfkfaaGreat
