/-
  WheelSteps: a time that is gone to in steps tells the timers that it tells at once, of whatever keeps what a wheel is asked for: for every input true, and the input reads as it did; no condition.
-/
import Derived.Test.YtddiapihopgpbaaWhRow
import Derived.Deep.CutRange
import Derived.Deep.CutBlock
import Derived.Deep.RegionHeld3
import Derived.BigQuiet
namespace Go.Proofs.Ytddiapihopgpbaa
open Go.ChangeShapes Go.WideShapes Go.ChangeAt Go.RowKit Go.Deep
namespace wheelSteps
open Wh
open Ph (Only)
/-- The row's form. -/
theorem own_form {w : World} {base : Nat} {e : TypeId} {size : Nat} {v : Value} {n : Nat} {xs : List Value} (h : w.ownsRow base e size v n xs) : ∃ a cap, v = .slice a n cap := by
  rcases h.2 with ⟨rfl, rfl⟩ | ⟨g, cap, cur, rfl, _⟩
  · exact ⟨_, _, rfl⟩
  · exact ⟨_, _, rfl⟩
/-- The row of what was told lies apart from both wheels. -/
structure Told (K : Wk) (B : Nat) (w0 : World) (p : Nat) (F : List Nat) (t : Nat) (l : List DuT) (q : Nat) (G : List Nat) (s : Nat) (m : List DuT) (C : Nat) (v : Value) (A : List DuT) (w : World) : Prop where
  duo : Duo K B w0 p F t l q G s m w
  row : w.ownsRow C 42 2 v A.length (flatD A)
  ap : ∀ g, v.ownBlock = some g → g ∉ F ∧ g ∉ G
  size : C ≤ w.heap.size
theorem Told.stepA {K : Wk} {B : Nat} {w0 : World} {p : Nat} {F F' : List Nat} {t t' : Nat} {l l' : List DuT} {q : Nat} {G : List Nat} {s : Nat} {m : List DuT} {C : Nat} {v : Value} {A : List DuT} {w w' : World} (h : Told K B w0 p F t l q G s m C v A w)
    (hw : K.Wh w' p F' t' l') (ho : Only F w w') (hf : ∀ x ∈ F', x ∈ F ∨ w.heap.size ≤ x) (hB : B ≤ w0.heap.size) : Told K B w0 p F' t' l' q G s m C v A w' :=
  ⟨h.duo.stepA hw ho hf hB, own_only h.row ho (fun g hg => (h.ap g hg).1), fun g hg => ⟨fun hx => (hf g hx).elim (h.ap g hg).1 (fun h1 => by have := (h.row.lt g hg).2; omega), (h.ap g hg).2⟩, Nat.le_trans h.size ho.size⟩
theorem Told.more {K : Wk} {B : Nat} {w0 : World} {p : Nat} {F : List Nat} {t : Nat} {l : List DuT} {q : Nat} {G : List Nat} {s : Nat} {m : List DuT} {C : Nat} {v v' : Value} {A X : List DuT} {w w' : World} (h : Told K B w0 p F t l q G s m C v A w)
    (hr : w'.ownsRow C 42 2 v' (A ++ X).length (flatD (A ++ X))) (hg : w.grownBy w' v.ownBlock) (ho : v'.ownBlock = v.ownBlock ∨ v'.ownBlock = some w.heap.size) (hB : B ≤ w0.heap.size) (hC : B ≤ C) : Told K B w0 p F t l q G s m C v' (A ++ X) w' := by
  have hO : Only v.ownBlock.toList w w' := ⟨hg.os, hg.tape, hg.output, hg.size, fun k hk hn => hg.block k hk (fun e => hn (by rw [← e]; simp))⟩
  have hFn : ∀ x ∈ F, x ∉ v.ownBlock.toList := fun x hx hn => (h.ap x (by simpa using hn)).1 hx
  have hGn : ∀ x ∈ G, x ∉ v.ownBlock.toList := fun x hx hn => (h.ap x (by simpa using hn)).2 hx
  have hb : Below B w w' := hO.below (h.duo.a.size hB) (fun x hx => Nat.le_trans hC (h.row.lt x (by simpa using hx)).1)
  refine ⟨⟨⟨K.kept h.duo.a.wh hO hFn, h.duo.a.low, h.duo.a.below.trans hb⟩, ⟨K.kept h.duo.b.wh hO hGn, h.duo.b.low, h.duo.b.below.trans hb⟩, h.duo.ap⟩, hr, fun g hgv => ?_, Nat.le_trans h.size hg.size⟩
  rcases ho with e | e
  · rw [e] at hgv; exact h.ap g hgv
  · rw [e] at hgv
    cases hgv
    exact ⟨fun hx => Nat.lt_irrefl _ (K.lt h.duo.a.wh _ hx), fun hx => Nat.lt_irrefl _ (K.lt h.duo.b.wh _ hx)⟩
set_option maxRecDepth 100000 in
set_option maxHeartbeats 8000000 in
theorem walk (K : Wk) (n0 : Nat) (pa : Option Addr) (len cap : Nat) (y : Nat → WCallsT) (pb : Option Addr) (lenb capb : Nat) (yb : Nat → Int) (w : World) (hl : len ≤ cap ∧ cap ≤ maxLen) (hx : WCalls w.heap.size w pa len y) (hlb : lenb ≤ maxLen) (hxb : WSteps w.heap.size w pb lenb yb) :
    Calls Try.prog 4 #[.int .u64 (n0 : Nat), .slice pa len cap, .slice pb lenb capb] w fun e w' => e = .returned (.bool true) ∧ Below w.heap.size w w' := by
  have hz : ∀ w, (zeroValue 42).run Try.prog w = .ok (pV (0, 0)) w := fun _ => by kernel_rfl
  have HX := Lib.hid hx
  have hlm : len ≤ maxLen := by omega
  unfold maxLen at hlm
  clear hx hl
  have HY := Lib.hid hxb
  unfold maxLen at hlb
  clear hxb
  go_enter Try.func4, Try.ntmps4
  go_wp2_with fail
  refine (alive_any K _).mono ?_
  rintro e w0 ⟨rfl, B0⟩
  by_cases g1 : 100 < len
  · have g1' : (100 : Int) < (len : Int) := by omega
    go_wp2
    go_ret
    exact ⟨rfl, B0⟩
  have g1' : ¬ (100 : Int) < (len : Int) := by omega
  have g10 : len ≤ 100 := by omega
  clear g1
  by_cases g4 : 30 < lenb
  · have g4' : (30 : Int) < (lenb : Int) := by omega
    go_wp2
    go_ret
    exact ⟨rfl, B0⟩
  have g4' : ¬ (30 : Int) < (lenb : Int) := by omega
  have g40 : lenb ≤ 30 := by omega
  clear g4
  by_cases g2 : 4611686018427387904 < (n0 : Int)
  · have g2d : decide ((4611686018427387904 : Int) < (n0 : Int)) = true := decide_eq_true (by omega)
    go_wp2
    go_ret
    exact ⟨rfl, B0⟩
  have g2d : decide ((4611686018427387904 : Int) < (n0 : Int)) = false := decide_eq_false (by omega)
  go_wp2_with fail
  refine (K.new_yes n0 w0 (by omega)).mono ?_
  rintro e w1 ⟨p, F1, rfl, hW, hF, hO⟩
  have H1 : On K w.heap.size w p F1 n0 [] w1 := ⟨hW, fun x hx => Nat.le_trans B0.size (hF x hx), B0.trans (hO.below B0.size (by simp))⟩
  clear hW hF hO B0
  go_wp2_with fail
  refine (K.new_yes n0 w1 (by omega)).mono ?_
  rintro e w2 ⟨q, G1, rfl, hW, hF, hO⟩
  have H2 : Duo K w.heap.size w p F1 n0 [] q G1 n0 [] w2 := ⟨H1.quiet hO (Nat.le_refl _), ⟨hW, fun x hx => Nat.le_trans (H1.size (Nat.le_refl _)) (hF x hx), H1.below.trans (hO.below (H1.size (Nat.le_refl _)) (by simp))⟩, fun x hx hn => by have h1 := K.lt H1.wh x hx; have h2 := hF x hn; omega⟩
  clear hW hF hO H1
  clear g1' g2d g4'
  go_wp2_with fail
  go_loopw [11] (fun c wr => ∃ (i : Nat) (F G : List Nat) (l : List DuT), c = .int .i64 i ∧ i ≤ len ∧ l.length ≤ i ∧ Hid (Duo K w.heap.size w p F n0 l q G n0 l wr)) (fun c _ => len - (intOf c).toNat)
  case atStart => exact ⟨0, F1, G1, [], rfl, Nat.zero_le _, Nat.le_refl _, Lib.hid H2⟩
  case round =>
    obtain ⟨i, F, G, l, rfl, hi, hli, HO⟩ := hrel
    clear H2
    by_cases hlt : i < len
    · obtain ⟨b, off, rfl, hbl, _⟩ := HX.out.at HO.out.a.below hlt
      rcases hyi : y i with ⟨a, d, z⟩
      have HS := Lib.hid (fun (w' : World) (h : Below w.heap.size w w') => show (w'.cell? ⟨b, off + i * 3 + 1, none⟩ = some (.int .i64 d) ∧ w'.cell? ⟨b, off + i * 3 + 2, none⟩ = some (.int .u64 z)) ∧ W64 d ∧ 0 ≤ z ∧ z ≤ 18446744073709551615 from by
        obtain ⟨b', off', e, _, hC⟩ := HX.out.at h hlt
        cases e
        rw [hyi] at hC
        exact ⟨⟨hC.c1, hC.c2⟩, hC.w1, bounds_u64 hC.w2⟩)
      obtain ⟨_, u1, u2, u3⟩ := HS.out _ HO.out.a.below
      obtain ⟨zn, rfl⟩ : ∃ zn : Nat, z = (zn : Int) := ⟨z.toNat, by omega⟩
      have hi0 : (0 : Int) ≤ (i : Int) := by omega
      have hil : (i : Int) < (len : Int) := by omega
      clear hyi
      have hd := Only.drewN [] wr 1
      have HD := Lib.hid (HO.out.quiet hd (Nat.le_refl _))
      have hB : Below w.heap.size w wr.drew := HD.out.a.below
      have hW1 := Lib.hid (K.add wr.drew p F n0 l d zn HD.out.a.wh u1 (by omega))
      have dne : (addE d zn l != addE d zn l) = false := by simp
      clear HO hd
      go_upto_region 12 with fail
      go_region_held3 (fun w' => w'.cell? ⟨b, off + i * 3 + 1, none⟩ = some (.int .i64 d) ∧ w'.cell? ⟨b, off + i * 3 + 2, none⟩ = some (.int .u64 (zn : Int))) (exact (HS.out _ hB).1) (first
        | (go_at_call 10; refine hW2.out.mono ?_; rintro e w4 ⟨rfl, G4, hw4, ho4, hf4⟩; have H4 := Lib.hid (H3.out.stepB hw4 ho4 hf4 (Nat.le_refl _)); replace hB := H4.out.a.below)
        | (go_at_call 10; refine hW1.out.mono ?_; rintro e w3 ⟨rfl, F3, hw3, ho3, hf3⟩; have H3 := Lib.hid (HD.out.stepA hw3 ho3 hf3 (Nat.le_refl _)); have hW2 := Lib.hid (K.add w3 q G n0 l d zn H3.out.b.wh u1 (by omega)); replace hB := H3.out.a.below))
      all_goals
        go_wp2_with fail
        go_roundw
        case rel => exact ⟨i + 1, F3, G4, _, by push_cast; rfl, by omega, addL_len hli d zn, H4⟩
        case measure => simp only [intOf]; omega
    · obtain rfl : i = len := by omega
      clear hlt
      have W0 := World.ownsRow_lit (e := 42) (size := 2) wr #[] 0 (Nat.le_refl _) (by unfold maxLen; omega) (by simp)
      have hT : Hid (Told K w.heap.size w p F n0 l q G n0 l wr.heap.size (.slice (some ⟨wr.heap.size, 0, none⟩) 0 0) [] (wr.alloc (.cells #[] 42))) := Lib.hid ⟨HO.out.quiet (Only.alloc [] wr _) (Nat.le_refl _), W0, fun g hg => by
        cases hg
        exact ⟨fun hx => Nat.lt_irrefl _ (K.lt HO.out.a.wh _ hx), fun hx => Nat.lt_irrefl _ (K.lt HO.out.b.wh _ hx)⟩, by simp⟩
      have hC : w.heap.size ≤ wr.heap.size := HO.out.a.size (Nat.le_refl _)
      clear HO W0
      go_wp2_with fail
      generalize wr.heap.size = C at *
      generalize wr.alloc (.cells #[] 42) = wr1 at *
      go_loopw [12, 13, 14] (fun cl v c wx => ∃ (k t : Nat) (F' : List Nat) (A la : List DuT) (vv : Value), c = .int .i64 k ∧ cl = .int .u64 t ∧ vv = v ∧ k ≤ lenb ∧ n0 ≤ t ∧ t ≤ 4611686018427387904 ∧ A ++ la = l ∧ (∀ x ∈ A, x.2 ≤ t) ∧ Hid (Told K w.heap.size w p F' t la q G n0 l C vv A wx)) (fun _ _ c _ => lenb - (intOf c).toNat)
      case atStart => exact ⟨0, n0, F, [], l, _, rfl, rfl, rfl, Nat.zero_le _, Nat.le_refl _, by omega, rfl, (fun x hx => absurd hx (by simp)), hT⟩
      case round =>
        obtain ⟨k, t, F', A, la, vv, rfl, rfl, rfl, hk, hnt, ht, hAl, hAt, HR⟩ := hrel
        clear hT
        by_cases hkl : k < lenb
        · obtain ⟨b, off, rfl, hbl, hcs, hs0, hs1⟩ := HY.out.at HR.out.duo.a.below hkl
          obtain ⟨s, hs⟩ : ∃ s : Nat, yb k = (s : Int) := ⟨(yb k).toNat, by omega⟩
          rw [hs] at hcs hs0 hs1
          have hi0 : (0 : Int) ≤ (k : Int) := by omega
          have hil : (k : Int) < (lenb : Int) := by omega
          have FA := Lib.hid (K.fine HR.out.duo.a.wh)
          have CA := K.adv _ p F' t la s HR.out.duo.a.wh (by omega)
          have hal : A.length + la.length = l.length := by rw [← hAl, List.length_append]
          by_cases hsm : s ≤ 4611686018427387904
          · have ds : decide ((4611686018427387904 : Int) < (s : Int)) = false := decide_eq_false (by omega)
            obtain ⟨n1, n2⟩ := steps_next hsm hAl FA.out.srt hAt
            have hmx : (if (t : Int) < (s : Int) then (s : Int) else (t : Int)) = ((advT t s : Nat) : Int) := by unfold advT; rw [if_pos hsm]; split <;> omega
            have hmxn : (if t < s then (s : Int) else (t : Int)) = ((advT t s : Nat) : Int) := by unfold advT; rw [if_pos hsm]; split <;> omega
            have ht2 : n0 ≤ advT t s ∧ advT t s ≤ 4611686018427387904 := by unfold advT; rw [if_pos hsm]; omega
            have hol := advO_len t s la
            clear hs
            go_wp2_with fail
            refine CA.mono ?_
            rintro e w5 ⟨v5, rfl, F5, ⟨hW, hS⟩, hO, hF⟩
            have H5 := Lib.hid (HR.out.stepA hW hO hF (Nat.le_refl _))
            obtain ⟨xa, xc, rfl⟩ := hS.form
            have S5 := Lib.hid hS
            clear CA hW hO hF hS HR hcs
            generalize advO t s la = X at *
            generalize advL t s la = l5 at *
            generalize advT t s = t5 at *
            go_wp2_with (at_builtin; refine step_dues rfl (.tmp 115) (.tmp 121) rfl C _ A X xa xc _ F5 _ H5.out.row H5.out.size (by omega) S5.out rfl rfl ?_; intro v' w6 hown hgr hob; have H6 := Lib.hid (H5.out.more hown hgr hob (Nat.le_refl _) hC); clear hown hgr hob H5 S5)
            go_roundw
            case rel => exact ⟨k + 1, t5, F5, A ++ X, l5, _, by push_cast; rfl, rfl, rfl, by omega, ht2.1, ht2.2, n1, n2, H6⟩
            case measure => simp only [intOf]; omega
          · have ds : decide ((4611686018427387904 : Int) < (s : Int)) = true := decide_eq_true (by omega)
            have a1 : advO t s la = [] := by unfold advO; rw [if_neg hsm]
            have a2 : advL t s la = la := by unfold advL; rw [if_neg hsm]
            have a3 : advT t s = t := by unfold advT; rw [if_neg hsm]
            rw [a1, a2, a3] at CA
            clear hs a1 a2 a3
            go_wp2_with fail
            refine CA.mono ?_
            rintro e w5 ⟨v5, rfl, F5, ⟨hW, hS⟩, hO, hF⟩
            have H5 := Lib.hid (HR.out.stepA hW hO hF (Nat.le_refl _))
            obtain ⟨xa, xc, rfl⟩ := hS.form
            clear CA hW hO hF hS HR hcs
            go_wp2_with fail
            go_roundw
            case rel => exact ⟨k + 1, t, F5, A, la, _, by push_cast; rfl, rfl, rfl, by omega, hnt, ht, hAl, hAt, H5⟩
            case measure => simp only [intOf]; omega
        · obtain rfl : k = lenb := by omega
          have FA := Lib.hid (K.fine HR.out.duo.b.wh)
          have CA := K.adv _ p F' t la t HR.out.duo.a.wh (by omega)
          obtain ⟨s1, s2, s3⟩ := steps_end (n := n0) ht hnt hAl hAt
          rw [s2, s3] at CA
          have hal : A.length + la.length = l.length := by rw [← hAl, List.length_append]
          have hol := advO_len t t la
          have hwl := advO_len n0 t l
          have hUW : Uni (advO n0 t l) := by unfold advO; split <;> first | exact uni_filter FA.out.uni _ | exact List.Pairwise.nil
          have HU := Lib.hid hUW
          clear hUW s2 s3 hAl
          go_wp2_with fail
          refine CA.mono ?_
          rintro e w5 ⟨v5, rfl, F5, ⟨hW, hS⟩, hO, hF⟩
          have H5 := Lib.hid (HR.out.stepA hW hO hF (Nat.le_refl _))
          obtain ⟨xa, xc, rfl⟩ := hS.form
          have S5 := Lib.hid hS
          clear CA hW hO hF hS HR
          go_wp2_with (at_builtin; refine step_dues rfl (.tmp 123) (.tmp 126) rfl C _ A (advO t t la) xa xc _ F5 _ H5.out.row H5.out.size (by omega) S5.out rfl rfl ?_; intro v' w6 hown hgr hob; have H6 := Lib.hid (H5.out.more hown hgr hob (Nat.le_refl _) hC); clear hown hgr hob H5 S5)
          rw [s1] at H6
          have CB := K.adv w6 q G n0 l t H6.out.duo.b.wh (by omega)
          refine CB.mono ?_
          rintro e w7 ⟨v7, rfl, G7, ⟨hW, hS⟩, hO, hG⟩
          have H7 := Lib.hid (H6.out.duo.stepB hW hO hG (Nat.le_refl _))
          have hrow := own_only H6.out.row hO (fun g hg => (H6.out.ap g hg).2)
          obtain ⟨ya, yc, rfl⟩ := own_form hrow
          obtain ⟨za, zc, rfl⟩ := hS.form
          have SA := Lib.hid (own_seen hrow)
          have SB := Lib.hid hS
          clear CB hW hO hG hrow hS H6
          generalize advO n0 t l = X at *
          generalize advL n0 t l = L2 at *
          generalize advT n0 t = T2 at *
          have d1 : (((X.length : Nat) : Int) != ((X.length : Nat) : Int)) = false := by simp
          have d2 : (((L2.length : Nat) : Int) != ((L2.length : Nat) : Int)) = false := by simp
          have d3 : ((T2 : Int) != (T2 : Int)) = false := by simp
          go_wp2_with fail
          refine (K.lenO w7 p F5 T2 L2 H7.out.a.wh).mono ?_
          rintro e w8 ⟨rfl, hO8⟩
          have H8 := Lib.hid (H7.out.quiet hO8 (Nat.le_refl _))
          go_wp2_with fail
          refine (K.lenO w8 q G7 T2 L2 H8.out.b.wh).mono ?_
          rintro e w9 ⟨rfl, hO9⟩
          have H9 := Lib.hid (H8.out.quiet hO9 (Nat.le_refl _))
          have O9 := hO8.trans hO9
          have SA9 := Lib.hid (SA.out.kept O9 (by simp))
          have SB9 := Lib.hid (SB.out.kept O9 (by simp))
          clear H7 H8 hO8 hO9 O9 SA SB
          go_wp2_with fail
          refine (K.now w9 p F5 T2 L2 H9.out.a.wh).mono ?_
          rintro e wA ⟨rfl, rfl⟩
          go_wp2_with fail
          refine (K.now w9 q G7 T2 L2 H9.out.b.wh).mono ?_
          rintro e wA ⟨rfl, rfl⟩
          have B9 := Lib.hid H9.out.a.below
          clear H9 d1 d2 d3
          go_wp2_with fail
          go_loopw [16, 17] (fun nn c wx => ∃ m : Nat, c = .int .i64 m ∧ nn = .int .i64 m ∧ m ≤ X.length ∧ Hid (Only [] w9 wx)) (fun _ c _ => X.length - (intOf c).toNat)
          case atStart => exact ⟨0, rfl, rfl, Nat.zero_le _, Lib.hid (Only.refl _ _)⟩
          case round =>
            obtain ⟨m, rfl, rfl, hm, OR⟩ := hrel
            obtain ⟨wv, rfl⟩ : ∃ wv, wv = wr := ⟨_, rfl⟩
            by_cases hml : m < X.length
            · obtain ⟨x, hx⟩ : ∃ x, X[m]? = some x := ⟨X[m], List.getElem?_eq_getElem hml⟩
              have HM := Lib.hid hx
              have hxm := List.mem_of_getElem? hx
              have HXM := Lib.hid (hits_all HU.out hxm)
              obtain ⟨xd, xt⟩ := x
              clear hx hxm
              go_wp2_with fail
              go_loopw [16, 18] (fun nn c wx => ∃ k2 : Nat, c = .int .i64 k2 ∧ nn = .int .i64 ((m : Int) + (hits (xd, xt) X k2 : Nat)) ∧ k2 ≤ X.length ∧ Hid (Only [] w9 wx)) (fun _ c _ => X.length - (intOf c).toNat)
              case atStart => exact ⟨0, rfl, by simp [hits], Nat.zero_le _, OR⟩
              case round =>
                obtain ⟨k2, rfl, rfl, hk2, OR2⟩ := hrel
                clear OR
                have hhl := hits_le (xd, xt) X k2
                by_cases hkl2 : k2 < X.length
                · obtain ⟨y2, hy2⟩ : ∃ y2, X[k2]? = some y2 := ⟨X[k2], List.getElem?_eq_getElem hkl2⟩
                  have HN := Lib.hid (hits_next (x := (xd, xt)) hy2)
                  obtain ⟨b1, o1, rfl, lx, -, -, x0, x1⟩ := (SA9.out.kept OR2.out (by simp)).at HM.out
                  obtain ⟨b2, o2, rfl, ly, -, -, y0, y1⟩ := (SB9.out.kept OR2.out (by simp)).at hy2
                  obtain ⟨yd, yt⟩ := y2
                  simp only at x0 x1 y0 y1
                  clear hy2
                  have eE : ∀ w, (binOp .eql 42 (.agg #[.int .i64 (xd : Nat), .int .u64 (xt : Nat)]) (.agg #[.int .i64 (yd : Nat), .int .u64 (yt : Nat)])).run Try.prog w = .ok (.bool (decide ((xd, xt) = (yd, yt)))) w := fun w => eqlDu (xd, xt) (yd, yt) w
                  by_cases hxy : (xd, xt) = (yd, yt)
                  · rw [decide_eq_true hxy] at eE
                    have HN2 := HN.out
                    rw [if_pos hxy.symm] at HN2
                    have HN3 := Lib.hid HN2
                    clear HN2 HN hxy
                    go_upto_region 35 with fail
                    go_quiet (fail)
                    have OQ := Lib.hid (OR2.out.trans (Only.drewN [] wr nq))
                    clear OR2 x0 x1 y0 y1 lx ly eE
                    generalize wr.drewN nq = wq at *
                    go_wp2_with fail
                    go_roundw
                    case rel => exact ⟨k2 + 1, by push_cast; rfl, by rw [HN3.out]; push_cast; first | rfl | (congr 1; done) | (congr 1; omega), by omega, OQ⟩
                    case measure => simp only [intOf]; omega
                  · rw [decide_eq_false hxy] at eE
                    have HN2 := HN.out
                    rw [if_neg (fun h => hxy h.symm), Nat.add_zero] at HN2
                    have HN3 := Lib.hid HN2
                    clear HN2 HN hxy
                    go_upto_region 35 with fail
                    go_quiet (fail)
                    have OQ := Lib.hid (OR2.out.trans (Only.drewN [] wr nq))
                    clear OR2 x0 x1 y0 y1 lx ly eE
                    generalize wr.drewN nq = wq at *
                    go_wp2_with fail
                    go_roundw
                    case rel => exact ⟨k2 + 1, by push_cast; rfl, by rw [HN3.out]; rfl, by omega, OQ⟩
                    case measure => simp only [intOf]; omega
                · obtain rfl : k2 = X.length := by omega
                  go_wp2_with fail
                  go_roundw
                  case rel => first | exact ⟨m + 1, by push_cast; rfl, by rw [HXM.out]; rfl, by omega, OR2⟩ | ((repeat apply Exists.intro); exact ⟨⟨m + 1, by push_cast; rfl, by rw [HXM.out]; rfl, by omega, OR2⟩, rfl⟩)
                  case measure => simp [intOf]; omega
            · obtain rfl : m = X.length := by omega
              go_wp2_with fail
              go_ret
              exact ⟨rfl, B9.out.trans (OR.out.below (B := w.heap.size) B9.out.size (by simp))⟩
end wheelSteps
end Go.Proofs.Ytddiapihopgpbaa
