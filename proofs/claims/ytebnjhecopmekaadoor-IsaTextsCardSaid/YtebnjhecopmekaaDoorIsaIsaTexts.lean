/-
  PROVED HERE: whatever the instructions in list, the remark and the place at are, warderlaw02.IsaTexts answers true, and each argument reads behind the call as it read before. (At most 60 instructions and 100 bytes of remark, as the statement itself bounds them: instructions' lines, with remarks and empty lines among them, are assembled as their words and shown again; a line that is none is named. Else the statement answers true without a look.) Conditions: none; the package-level variables start as the program's text lays them (the card ties them to that text).
-/
import Derived.Test.YtebnjhecopmekaaDoorIsaAlive
import Derived.Test.YtebnjhecopmekaaDoorIsaRLine
import Derived.Test.YtebnjhecopmekaaDoorIsaOpenC
import Derived.Test.YtebnjhecopmekaaDoorTie
import Derived.ChangeMaps5
namespace Go.Proofs.YtebnjhecopmekaaDoor.isaTexts
open Go.ChangeShapes Go.WideShapes Go.ChangeAt Go.RowKit Isa

theorem walk_long (pa : Option Addr) (n cap : Nat) (r : List UInt8) (at' : Int) (w : World) (hE : Env w) (hn : n ≤ 9223372036854775807) (hr : r.length ≤ 9223372036854775807) (h : 60 < n ∨ 100 < r.length) :
    Calls Tryd.prog 5 #[.slice pa n cap, .string (bs r), .int .i64 at'] w fun e w' => e = .returned (.bool true) ∧ Below w.heap.size w w' := by
  have hsz : (bs r).size = r.length := bs_size r
  by_cases h1 : 60 < n
  · have d1 : decide (60 < (n : Int)) = true := by simp; omega
    clear hsz
    go_enter Tryd.func5, Tryd.ntmps5
    go_wp2_with fail
    refine (alive_any _ hE).mono ?_
    rintro e w1 ⟨rfl, hb⟩
    go_wp2
    go_ret
    exact ⟨rfl, hb⟩
  · have d1 : decide (60 < (n : Int)) = false := by simp; omega
    have d2 : decide (100 < ((bs r).size : Int)) = true := by rw [hsz]; simp; omega
    clear hsz
    go_enter Tryd.func5, Tryd.ntmps5
    go_wp2_with fail
    refine (alive_any _ hE).mono ?_
    rintro e w1 ⟨rfl, hb⟩
    go_wp2
    go_ret
    exact ⟨rfl, hb⟩
/-- The bytes of the first words, as values. -/
def byV (x : Inss) (k : Nat) : List Value := (List.range (4 * k)).map (fun j => Value.int .u8 (x.by' j))
theorem byV_succ (x : Inss) (k : Nat) : byV x (k + 1) = byV x k ++ [.int .u8 (Wd.byte4 (x.en k) 0), .int .u8 (Wd.byte4 (x.en k) 1), .int .u8 (Wd.byte4 (x.en k) 2), .int .u8 (Wd.byte4 (x.en k) 3)] := by
  have e : ∀ i, i < 4 → x.by' (4 * k + i) = Wd.byte4 (x.en k) i := fun i hi => by
    unfold Inss.by' Wd.byteOf
    rw [show (4 * k + i) / 4 = k by omega, show (4 * k + i) % 4 = i by omega]
  unfold byV
  rw [show 4 * (k + 1) = 4 * k + 1 + 1 + 1 + 1 by omega, List.range_succ, List.range_succ, List.range_succ, List.range_succ]
  simp only [List.map_append, List.map_cons, List.map_nil, List.append_assoc, List.cons_append, List.nil_append]
  rw [show x.by' (4 * k) = _ from e 0 (by decide), e 1 (by decide), show 4 * k + 1 + 1 = 4 * k + 2 by omega, e 2 (by decide), show 4 * k + 2 + 1 = 4 * k + 3 by omega, e 3 (by decide)]
theorem byV_len (x : Inss) (k : Nat) : (byV x k).length = 4 * k := by simp [byV]
theorem byV_at (x : Inss) (k j : Nat) (h : j < 4 * k) : (byV x k)[j]? = some (.int .u8 (x.by' j)) := by simp [byV, h]
theorem rlineK (x : Inss) (k : Nat) (w : World) (h : x.ok k = true) :
    Calls Tryd.prog 15 #[.agg #[.int .i64 (x.o k), .int .i64 (x.a k), .int .i64 (x.b k), .int .i64 (x.i k)]] w fun e w' => e = .returned (.string (bs (x.ln k))) ∧ Below w.heap.size w w' := by
  have e : lineV (x.o k) (x.a k) (x.b k) (x.i k) = x.ln k := if_pos h
  rw [← e]; exact rline_any _ _ _ _ w
theorem showTxt (x : Inss) (g n : Nat) (w : World) (hE : Env w) (hn : n ≤ 60) (hr : RowAt w g 0 (4 * n) x.by') (h : ∀ j, j < n → x.ok j = true) :
    Calls Tryd.prog 21 #[.slice (some ⟨g, 0, none⟩) (4 * n) (4 * n)] w fun e w' => e = .returned (.tuple #[.string (bs (showTo x.by' n)), .bool true]) ∧ Below w.heap.size w w' := by
  refine (show_row g 0 (4 * n) (4 * n) x.by' w hE hr (by omega) (by omega)).mono ?_
  rw [show 4 * n / 4 = n by omega]
  rintro e w' ⟨⟨_, rfl⟩ | ⟨⟨j, hj, hd⟩, _⟩, hb⟩
  · exact ⟨rfl, hb⟩
  · rw [decR_en (h j hj)] at hd; cases hd
theorem sameTxt (x : Inss) (g n base : Nat) (v : Value) (w : World) (hn : n ≤ 60) (hr : RowAt w g 0 (4 * n) x.by') (ho : w.ownsRow base 5 1 v (4 * n) (byV x n)) :
    Calls Tryd.prog 22 #[.slice (some ⟨g, 0, none⟩) (4 * n) (4 * n), v] w fun e w' => e = .returned (.bool true) ∧ ∃ k, w' = w.drewN k := by
  rcases ho.2 with ⟨rfl, h0⟩ | ⟨g', cap, cur, rfl, _⟩
  · rw [h0]; exact Wd.same_zero _ _ _ _ _
  · refine Wd.same_row g 0 g' 0 (4 * n) _ _ x.by' w (by omega) (fun j hj => hr.2.2 j hj) (fun j hj => ?_)
    rw [Nat.zero_add, ho.cellAt j (by omega), byV_at x n j hj]
theorem sl_of {w : World} {base k : Nat} {v : Value} {xs : List Value} (ho : w.ownsRow base 5 1 v k xs) : ∃ a n c, v = .slice a n c := by
  rcases ho.2 with ⟨rfl, _⟩ | ⟨g', cap, cur, rfl, _⟩
  · exact ⟨_, _, _, rfl⟩
  · exact ⟨_, _, _, rfl⟩
theorem own_base {w : World} {base k n : Nat} {v : Value} {xs : List Value} (ho : w.ownsRow base 5 1 v n xs) (h : v.ownBlock = some k) : base ≤ k := by
  rcases ho.2 with ⟨rfl, _⟩ | ⟨g', cap, cur, rfl, hb, _⟩
  · simp [Value.ownBlock] at h
  · obtain rfl : g' = k := by simpa [Value.ownBlock] using h
    exact hb
theorem txt_eq (x : Inss) (r : List UInt8) (m : Nat) : bs (txt x r m) ++ (bs [35] ++ bs r ++ bs [10, 10] ++ (bs (x.ln m) ++ bs [10])) = bs (txt x r (m + 1)) := by
  simp only [bs_append]; rfl
theorem shw_eq (x : Inss) (m : Nat) (h : x.ok m = true) : bs (showTo x.by' m) ++ (bs (x.ln m) ++ bs [10]) = bs (showTo x.by' (m + 1)) := by
  simp only [bs_append, showTo, decLn_en h]
theorem cells4 (w : World) (v0 v1 v2 v3 : Value) (t : TypeId) : ∀ (j : Nat) (u : Value), [v0, v1, v2, v3][j]? = some u → (w.alloc (.cells #[v0, v1, v2, v3] t)).cell? ((⟨w.heap.size, 0, none⟩ : Addr).add j) = some u := by
  intro j u hj
  rw [add_eq, Nat.zero_add, World.cell?_alloc_new]
  match j, hj with
  | 0, hj => exact hj
  | 1, hj => exact hj
  | 2, hj => exact hj
  | 3, hj => exact hj
  | j + 4, hj => simp at hj
theorem asmBadS (x : Inss) (r : List UInt8) (n : Nat) (at' : Int) (w : World) (hE : Env w) (hn : n ≤ 60) (h0 : 0 ≤ at') (h1 : at' ≤ n) (hl : r.length ≤ 100) (hr : ∀ c ∈ r, c ≠ 10) (h : ∀ j, j < n → x.ok j = true) :
    Calls Tryd.prog 20 #[.string (bs (showTo x.by' at'.toNat) ++ ⟨#[33]⟩ ++ bs r ++ ⟨#[10]⟩ ++ bs (showTo x.by' n))] w fun e w' => e = .returned (.tuple #[.slice none 0 0, .int .i64 (at' + 1), .int .i64 10]) ∧ Below w.heap.size w w' := by
  have e2 : bs (showTo x.by' at'.toNat) ++ (⟨#[33]⟩ : ByteArray) ++ bs r ++ (⟨#[10]⟩ : ByteArray) ++ bs (showTo x.by' n) = bs (showTo x.by' at'.toNat ++ [33] ++ r ++ [10] ++ showTo x.by' n) := by
    show bs (showTo x.by' at'.toNat) ++ bs [33] ++ bs r ++ bs [10] ++ bs (showTo x.by' n) = _
    simp only [bs_append]
  have e3 : ((at'.toNat + 1 : Nat) : Int) = at' + 1 := by omega
  rw [e2]
  have := asmBad x r at'.toNat n w hE hn (by omega) hl hr h
  rw [e3] at this
  exact this
theorem infoByte : (Tryd.prog.info? 5).map (fun i => (i.zero, i.size, i.bytes)) = some (some (.int .u8 0), 1, 1) := by kernel_rfl
theorem bs_get (r : List UInt8) (k : Nat) (h : k < (bs r).size) : (bs r)[k] = r[k]'(by rw [bs_size] at h; exact h) := rfl
set_option maxHeartbeats 8000000 in
set_option maxRecDepth 100000 in
theorem walk_short (pa : Option Addr) (n cap : Nat) (x : Inss) (r : List UInt8) (at' : Int) (w : World) (hE : Env w) (hn : n ≤ 60) (hr : r.length ≤ 100) (hat : -9223372036854775808 ≤ at' ∧ at' ≤ 9223372036854775807)
    (hrow : 0 < n → ∃ b off, pa = some ⟨b, off, none⟩ ∧ InsAt w b off n x) :
    Calls Tryd.prog 5 #[.slice pa n cap, .string (bs r), .int .i64 at'] w fun e w' => e = .returned (.bool true) ∧ Below w.heap.size w w' := by
  have hsz := bs_size r
  have d1 : decide (60 < (n : Int)) = false := by simp; omega
  have d2 : decide (100 < ((bs r).size : Int)) = false := by rw [hsz]; simp; omega
  have HE := Lib.hid hE
  have HW := Lib.hid hrow
  have HSZ := Lib.hid hsz
  have hs1 : (bs r).size ≤ 100 := by omega
  obtain ⟨hat0, hat1⟩ := hat
  clear hE hrow hsz
  go_enter Tryd.func5, Tryd.ntmps5
  go_wp2_with fail
  refine (alive_any _ HE.out).mono ?_
  rintro e w1 ⟨rfl, hb⟩
  have B1 := Lib.hid hb
  clear hb
  go_wp2
  go_loop [7] (fun i => ∃ k : Nat, k ≤ (bs r).size ∧ i = .int .i64 k ∧ Hid (∀ j (hj : j < r.length), j < k → r[j] ≠ 10)) (fun i => (bs r).size - (intOf i).toNat)
  case atStart => exact ⟨0, by omega, rfl, Lib.hid (fun j _ h => by omega)⟩
  case round =>
    obtain ⟨k, hk, rfl, hno⟩ := hrel
    by_cases hlt : k < (bs r).size
    · by_cases hc : (bs r)[k] = 10
      · have t : ((((bs r)[k]).toNat : Int) == 10) = true := by rw [hc]; rfl
        clear hc
        go_wp2
        go_ret
        exact ⟨rfl, B1.out⟩
      · have t : ((((bs r)[k]).toNat : Int) == 10) = false := by
          have := byte_eq ((bs r)[k]) 10
          rw [show (((10 : UInt8).toNat : Nat) : Int) = 10 from rfl] at this
          rw [this]; simpa using hc
        have HN := Lib.hid (show ∀ j (hj : j < r.length), j < k + 1 → r[j] ≠ 10 from fun j hj hjk => by
          by_cases e : j = k
          · subst e; exact hc
          · exact hno.out j hj (by omega))
        clear hc
        go_wp2
        go_round
        case rel => exact ⟨k + 1, by omega, by go_num, HN⟩
        case measure => simp [intOf]; omega
    · have HC := Lib.hid (show ∀ c ∈ r, c ≠ 10 from fun c hc => by
        obtain ⟨j, hj, rfl⟩ := List.getElem_of_mem hc
        have := HSZ.out
        exact hno.out j hj (by omega))
      clear hno
      go_wp2
      have hat2 := Nat.min_le_left n at'.toNat
      obtain ⟨i0, hi, hz0, hz1, hz2⟩ := info_parts infoByte
      go_loopw [8, 9, 10, 11, 12] (fun t p hd v i wr => ∃ m : Nat, m ≤ n ∧ i = .int .i64 m ∧ t = .string (bs (txt x r m)) ∧ p = .string (bs (showTo x.by' m)) ∧ hd = .string (bs (showTo x.by' (min m at'.toNat))) ∧ Hid (∀ j, j < m → x.ok j = true) ∧ Hid (wr.ownsRow w.heap.size 5 1 v (4 * m) (byV x m)) ∧ Hid (Below w.heap.size w wr)) (fun _ _ _ _ i _ => n - (intOf i).toNat)
      case atStart =>
        exact ⟨0, by omega, rfl, rfl, rfl, by rw [Nat.zero_min]; rfl, Lib.hid (fun j hj => by omega), Lib.hid ⟨rfl, .inr ⟨w1.heap.size, 0, #[], rfl, B1.out.size, World.alloc_heap_new _ _, Nat.le_refl _, Nat.zero_le _, rfl, rfl⟩⟩, Lib.hid (B1.out.alloc B1.out.size _)⟩
      case round =>
        obtain ⟨m, hm, rfl, rfl, rfl, rfl, hok, hown, hbel⟩ := hrel
        have l1 := txt_len x r m hr hok.out
        have l2 := showTo_len x.by' m (fun j hj => decR_en (hok.out j hj))
        have l3 := showTo_len x.by' (min m at'.toNat) (fun j hj => decR_en (hok.out j (by omega)))
        have s1 : (bs (txt x r m)).size ≤ 20000 := by rw [bs_size]; omega
        have s2 : (bs (showTo x.by' m)).size ≤ 5000 := by rw [bs_size]; omega
        have s3 : (bs (showTo x.by' (min m at'.toNat))).size ≤ 5000 := by rw [bs_size]; omega
        by_cases hlm : m < n
        · obtain ⟨b, off, rfl, hins⟩ := HW.out (by omega)
          have HI := Lib.hid (hins.kept hbel.out)
          obtain ⟨c0, c1, c2, c3⟩ := HI.out m hlm
          clear hins
          cases hokm : x.ok m
          · have HO := Lib.hid hokm
            clear hokm
            go_wp2_with fail
            refine (of_any _ _ _ _ _).mono ?_
            rintro e w2 ⟨rfl, hb⟩
            have B2 := Lib.hid (hbel.out.trans (hb.mono hbel.out.size))
            clear hb
            go_wp2_with fail
            refine (rencode_no _ _ _ _ _ HO.out).mono ?_
            rintro e w3 ⟨rfl, hb⟩
            have B3 := Lib.hid (B2.out.trans (hb.mono B2.out.size))
            clear hb
            go_wp2
            go_ret
            exact ⟨rfl, B3.out⟩
          · have HO := Lib.hid hokm
            have hll : (x.ln m).length ≤ 80 := lineL_len hokm
            have s4 : (bs (x.ln m)).size ≤ 80 := by rw [bs_size]; exact hll
            have heb := enc_bounds hokm
            have he0 : 0 ≤ enc (x.o m) (x.a m) (x.b m) (x.i m) := heb.1
            have he1 : enc (x.o m) (x.a m) (x.b m) (x.i m) < 4294967296 := heb.2
            clear hokm hll heb
            go_wp2_with fail
            refine (of_any _ _ _ _ _).mono ?_
            rintro e w2 ⟨rfl, hb⟩
            have I2 := Lib.hid (HI.out.kept hb)
            have O2 := Lib.hid (hown.out.kept (grown_of hb) (Classical.em _))
            have B2 := Lib.hid (hbel.out.trans (hb.mono hbel.out.size))
            clear hb c0 c1 c2 c3
            go_wp2_with fail
            refine (rencode_yes _ _ _ _ _ HO.out).mono ?_
            rintro e w3 ⟨rfl, hb⟩
            have I3 := Lib.hid (I2.out.kept hb)
            have O3 := Lib.hid (O2.out.kept (grown_of hb) (Classical.em _))
            have B3 := Lib.hid (B2.out.trans (hb.mono B2.out.size))
            clear hb
            obtain ⟨c0, c1, c2, c3⟩ := I3.out m hlm
            go_wp2_with fail
            refine (of_any _ _ _ _ _).mono ?_
            rintro e w4 ⟨rfl, hb⟩
            have O4 := Lib.hid (O3.out.kept (grown_of hb) (Classical.em _))
            have B4 := Lib.hid (B3.out.trans (hb.mono B3.out.size))
            clear hb c0 c1 c2 c3
            go_wp2_with fail
            refine (rlineK x m _ HO.out).mono ?_
            rintro e w5 ⟨rfl, hb⟩
            have O5 := Lib.hid (O4.out.kept (grown_of hb) (Classical.em _))
            have B5 := Lib.hid (B4.out.trans (hb.mono B4.out.size))
            clear hb
            have HM := Lib.hid (show (byV x m).length = 4 * m from byV_len x m)
            go_wp2_with fail
            refine (Wd.four_any _ _ he0 he1).mono ?_
            rintro e w6 ⟨rfl, rfl⟩
            have hb5 := Lib.hid B5.out.size
            go_wp2_with (at_builtin; refine wpList_append_own _ rfl _ _ 43 rfl w.heap.size 5 i0 (.int .u8 0) 1 1 Tryd.underlying43 hi hz0 hz1 hz2 rfl (by decide) _ _ _ rfl (O5.out.alloc _) ⟨w5.heap.size, 0, none⟩ 4 4 [.int .u8 (Wd.byte4 (enc (x.o m) (x.a m) (x.b m) (x.i m)) 0), .int .u8 (Wd.byte4 (enc (x.o m) (x.a m) (x.b m) (x.i m)) 1), .int .u8 (Wd.byte4 (enc (x.o m) (x.a m) (x.b m) (x.i m)) 2), .int .u8 (Wd.byte4 (enc (x.o m) (x.a m) (x.b m) (x.i m)) 3)] rfl rfl ?c1 ?c2 ?c3 ?c4 ?c5 ?_)
            case c1 => exact cells4 _ _ _ _ _ _
            case c2 => intro u hu; simp at hu; rcases hu with rfl | rfl | rfl | rfl <;> rfl
            case c3 => unfold maxLen; omega
            case c4 => omega
            case c5 => have := hb5.out; simp; omega
            intro v' w6 hown' hgrow _
            have HO' := Lib.hid (show w6.ownsRow w.heap.size 5 1 v' (4 * (m + 1)) (byV x (m + 1)) by
              rw [byV_succ]; exact hown')
            have B6 := Lib.hid ((B5.out.alloc B5.out.size _).grown hgrow (by have := hb5.out; simp; omega) (fun k hk => own_base O5.out hk))
            have HOK := Lib.hid (show ∀ j, j < m + 1 → x.ok j = true from fun j hj => by
              by_cases e : j = m
              · subst e; exact HO.out
              · exact hok.out j (by omega))
            clear hown' hgrow
            by_cases hma : (m : Int) < at'
            · have d3 : decide ((m : Int) < at') = true := by simpa using hma
              have e5 : min (m + 1) at'.toNat = m + 1 := by omega
              have e6 : min m at'.toNat = m := by omega
              have E5 := Lib.hid e5
              have E6 := Lib.hid e6
              clear e5 e6
              go_wp2
              go_roundw
              case rel =>
                refine ⟨m + 1, by omega, by go_num, congrArg Value.string (txt_eq x r m), congrArg Value.string (shw_eq x m HO.out), congrArg Value.string ?_, HOK, HO', B6⟩
                rw [E5.out, E6.out]
                exact shw_eq x m HO.out
              case measure => simp [intOf]; omega
            · have d3 : decide ((m : Int) < at') = false := by simpa using hma
              have e5 : min (m + 1) at'.toNat = min m at'.toNat := by omega
              have E5 := Lib.hid e5
              clear e5
              go_wp2
              go_roundw
              case rel =>
                refine ⟨m + 1, by omega, by go_num, congrArg Value.string (txt_eq x r m), congrArg Value.string (shw_eq x m HO.out), congrArg Value.string ?_, HOK, HO', B6⟩
                rw [E5.out]
              case measure => simp [intOf]; omega
        · obtain rfl : m = n := by omega
          go_wp2_with fail
          refine (asmTxt x r m _ (HE.out.kept hbel.out) hn hr HC.out hok.out).mono ?_
          rintro e w2 ⟨g, rfl, hrw, hb⟩
          have R2 := Lib.hid hrw
          have O2 := Lib.hid (hown.out.kept (grown_of hb) (Classical.em _))
          have B2 := Lib.hid (hbel.out.trans (hb.mono hbel.out.size))
          clear hb hrw
          go_wp2_with fail
          refine (showTxt x g m _ (HE.out.kept B2.out) hn R2.out hok.out).mono ?_
          rintro e w3 ⟨rfl, hb⟩
          have R3 := Lib.hid (R2.out.kept hb)
          have O3 := Lib.hid (O2.out.kept (grown_of hb) (Classical.em _))
          have B3 := Lib.hid (B2.out.trans (hb.mono B2.out.size))
          clear hb
          go_wp2_with fail
          refine (sameTxt x g m _ _ _ hn R3.out O3.out).mono ?_
          rintro e w4 ⟨rfl, kk, rfl⟩
          by_cases ha : at' < 0
          · have d4 : decide (at' < 0) = true := by simpa using ha
            go_wp2
            go_ret
            exact ⟨rfl, below_drewN B3.out _⟩
          · have d4 : decide (at' < 0) = false := by simpa using ha
            by_cases hb2 : (m : Int) < at'
            · have d5 : decide ((m : Int) < at') = true := by simpa using hb2
              go_wp2
              go_ret
              exact ⟨rfl, below_drewN B3.out _⟩
            · have d5 : decide ((m : Int) < at') = false := by simpa using hb2
              have e7 : min m at'.toNat = at'.toNat := by omega
              have s5 : (bs (showTo x.by' at'.toNat)).size ≤ 5000 := by rw [e7] at s3; exact s3
              clear s3 l3
              rw [e7]
              clear e7
              go_wp2_with fail
              refine (asmBadS x r m at' _ ((HE.out.kept B3.out).drewN _) hn (by omega) (by omega) hr HC.out hok.out).mono ?_
              rintro e w5 ⟨rfl, hb⟩
              have B5 := Lib.hid ((below_drewN B3.out kk).trans (hb.mono (below_drewN B3.out kk).size))
              clear hb
              go_wp2
              go_ret
              exact ⟨rfl, B5.out⟩
theorem walk (pa : Option Addr) (n cap : Nat) (s : ByteArray) (at' : Int) (w : World) (hE : Env w) (hm : n ≤ maxLen) (hs : s.size ≤ maxLen) (hw : (Lit.int .i64 at').wf = true)
    (hrow : 0 < n → ∃ b off x, pa = some ⟨b, off, none⟩ ∧ InsAt w b off n x) :
    Calls Tryd.prog 5 #[.slice pa n cap, .string s, .int .i64 at'] w fun e w' => e = .returned (.bool true) ∧ Below w.heap.size w w' := by
  have hl := ba_len s
  have hb : -9223372036854775808 ≤ at' ∧ at' ≤ 9223372036854775807 := by
    simp [Lit.wf, IntKind.min, IntKind.max, IntKind.signed, IntKind.bits] at hw
    omega
  have hm2 : n ≤ 9223372036854775807 := by unfold maxLen at hm; omega
  have hs2 : s.data.toList.length ≤ 9223372036854775807 := by unfold maxLen at hs; omega
  rw [← bs_self s]
  by_cases h : 60 < n ∨ 100 < s.data.toList.length
  · exact walk_long pa n cap _ at' w hE hm2 hs2 h
  · by_cases h0 : 0 < n
    · obtain ⟨b, off, x, e, hi⟩ := hrow h0
      exact walk_short pa n cap x _ at' w hE (by omega) (by omega) hb (fun _ => ⟨b, off, e, hi⟩)
    · exact walk_short pa n cap ⟨fun _ => 0, fun _ => 0, fun _ => 0, fun _ => 0⟩ _ at' w hE (by omega) (by omega) hb (fun h1 => absurd h1 h0)

set_option maxRecDepth 100000 in
theorem lifted (os : Os) (started : os.Started) (H : Type) (enc : TypeId × Value → H) :
    ReturnsInHanded {} Tryd.checked os 5 .any (fun w args => (Rows.isaTextsSpec.pre enc Tryd.prog Tryd.f5 [] false w args ∧ laidMetH Tryd.prog laidL w) ∧ sizedMet enc Tryd.prog Tryd.f5 (OpenSpec.ofChange Rows.isaTextsSpec) false w args)
      (Rows.isaTextsSpec.post enc Tryd.prog Tryd.f5 false true false false) := by
  refine returnsInHanded_of_change_and (C := Tryd.checked) (X := fun w _ => laidMetH Tryd.prog laidL w) (fun _ _ _ hh h => h.of_heap hh) own started (by kernel_rfl) Tryd.func5
    (ChangeSpec.witness_shaped (enc := enc) (C := Tryd.checked) (os := os) (X := fun w _ => laidMetH Tryd.prog laidL w) false (World.doorLaid Tryd.prog 4000 os) #[.slice none 0 0, .string ⟨#[]⟩, .int .i64 0] 8 rfl (World.shaped_of_RefB (by kernel_rfl) (by kernel_rfl)) (by kernel_rfl) (by kernel_rfl) (by kernel_rfl) (door_met os _)) ?_
  intro W base args ds gs before hval0 hW _ _ hL _
  have hval : ∀ (j : Nat) t v, Tryd.f5.params[j]? = some t → args[j]? = some v → Value.okWide Tryd.prog W .any base t v := hval0
  have hW' := hW
  obtain ⟨p, q, hA0, hV, rfl, hfz, hnd⟩ := hW
  have hA : DataW.TrodAll enc Tryd.prog W 0 (fun _ => true) true Tryd.f5.params.toList args.toList ds p := hA0
  rw [Tryd.params5] at hA hval
  obtain ⟨v0, vs0, d0, ds0, p0, q0, hargs, rfl, rfl, h0, r0⟩ := trodAll_cons hA
  obtain ⟨v1, vs1, d1, ds1, p1, q1, rfl, rfl, rfl, h1, r1⟩ := trodAll_cons r0
  obtain ⟨v2, vs2, d2, ds2, p2, q2, rfl, rfl, rfl, h2, r2⟩ := trodAll_cons r1
  obtain ⟨rfl, rfl, rfl⟩ := trodAll_nil r2
  obtain rfl : args = #[v0, v1, v2] := by cases args; simp_all
  obtain ⟨rfl, rfl⟩ := trodVars_none hV
  have k0 := h0
  obtain ⟨a0, n0, c0, rfl, m0, lt0, w0⟩ := inss_open (hval 0 42 v0 rfl rfl) h0
  obtain ⟨s1, rfl, rfl, rfl, w1⟩ := Go.ChangeMaps.open_string Tryd.underlying9 (hval 1 9 v1 rfl rfl) h1
  obtain ⟨x2, rfl, rfl, rfl, w2⟩ := open_int Tryd.underlying3 (hval 2 3 v2 rfl rfl) h2
  have hE := env_of hL
  clear hA0 hval0
  refine (walk a0 n0 c0 s1 x2 W hE m0 w1 w2 w0).mono fun e W' ⟨he, bel⟩ => ?_
  subst he
  exact ⟨_, rfl, _, _, _, [], _, [], hW', trodAll_mk1 (shut_bool Tryd.underlying4 _), (trodAll_cons_mk (Below.trod laidOut (by kernel_rfl) (of_decide_eq_true (by kernel_rfl)) k0 bel lt0) (trodAll_cons_mk (Go.ChangeMaps.shut_string Tryd.underlying9 w1) (trodAll_cons_mk (shut_int Tryd.underlying3 w2) trodAll_mk0))), rfl, bel.frame _, fun h => by cases h⟩

theorem over : Rows.IsaTextsSaid :=
  OpenClaim.holds_of_wide 5 Tryd.f5 rfl rfl rfl rfl rfl rfl rfl ⟨rfl, rfl, rfl, rfl, rfl⟩ rfl rfl rfl rfl rfl (by kernel_rfl) Tryd.func5 (by kernel_rfl)
    (of_decide_eq_true (by kernel_rfl)) (by unfold Func.isWrapper; first | (rw [if_pos (by decide +kernel)]; kernel_rfl) | (rw [if_neg (by decide +kernel)]; exact ⟨rfl, rfl⟩))
    (fun os started H enc _ => lifted os started H enc)
end Go.Proofs.YtebnjhecopmekaaDoor.isaTexts
namespace Go.Proofs.YtebnjhecopmekaaDoor
open Go
/-- The statement. -/
theorem isaTexts_holds : Rows.IsaTextsCardSaid :=
  Claim7.holds_tied_plain_at .later [] [.data, .data, .data, .sentinel, .sentinel, .data] true _ true
    isaTexts.over (fun _ h => by cases h) (by kernel_rfl) (fun _ h => by cases h) isaTexts_row_tie rfl ⟨rfl, rfl⟩ (by kernel_rfl) rfl
    (fun f fn hf hfn => by
      obtain rfl : f = 5 := Option.some.inj ((show Tryd.prog.funcNamed "warder/warderlaw02.IsaTexts" = some 5 by kernel_rfl).symm.trans hf) |>.symm
      obtain rfl : fn = Tryd.f5 := (Option.some.inj (Tryd.func5.symm.trans hfn)).symm
      exact ⟨by kernel_rfl, fun j t ht => by
        rw [Tryd.params5] at ht
        have hm : t ∈ [42, 9, 3] := by simpa using Array.mem_of_getElem? ht
        have hall : ([42, 9, 3].all fun u => !Tryd.prog.wantsStandIn u) = true := by kernel_rfl
        exact (show Tryd.prog.wantsStandIn t = false by simpa using List.all_eq_true.1 hall t hm)⟩)
    (by kernel_rfl)
#print axioms isaTexts_holds
end Go.Proofs.YtebnjhecopmekaaDoor
