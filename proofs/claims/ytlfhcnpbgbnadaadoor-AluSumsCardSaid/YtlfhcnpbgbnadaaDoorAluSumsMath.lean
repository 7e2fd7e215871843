/-
  What Run answers of the two programs of AluSums: the third register is the product; the conditions: the first register is 1 to 50, the code lies in the world, the table of operations lies as the program's text lays it.
-/
import Derived.Test.YtlfhcnpbgbnadaaDoorAluAlive
namespace Go.Proofs.YtlfhcnpbgbnadaaDoor
open Go.RowKit Isa
namespace Alu

/-- The first state. -/
def rs (a b : Int) : Nat → Int := fun j => if j = 1 then a else if j = 2 then b else 0
theorem run_go {g : Int → Option Int} {m : Nat} {r : Nat → Int} {pc v : Int} {n : Nat} (hg : g pc = some v) (hk : sK v = 0) : runV g (m + 1) r pc n = runV g m (sR r pc v) (sP r pc v) (n + 1) := by
  simp only [runV, hg, if_pos hk]
theorem run_halt {g : Int → Option Int} {m : Nat} {r : Nat → Int} {pc v : Int} {n : Nat} (hg : g pc = some v) (hk : sK v = 11) (hG : sG v = 0) (hA : sA r v = 0) (hV : sV r v = 0) :
    runV g (m + 1) r pc n = .tuple #[.agg (stL (sR r pc v) (sP r pc v)).toArray, .agg #[.int .i64 11, .int .i64 0, .int .u32 0, .int .u32 0], .int .i64 n] := by
  simp only [runV, hg]
  rw [if_neg (by rw [hk]; decide), hk, hG, hA, hV]
/-- What both runs answer. -/
def Halts (V : Value) (s : Int) : Prop := ∃ (R : Nat → Int) (P : Int) (k : Nat), V = .tuple #[.agg (stL R P).toArray, .agg #[.int .i64 11, .int .i64 0, .int .u32 0, .int .u32 0], .int .i64 k] ∧ R 3 = s
def g1 : Int → Option Int := gW (zT P1) 20
def g2 : Int → Option Int := gW (zT P2) 8
theorem g1_0 : g1 0 = some (enc 1 3 0 0) := gW_at P1 0 (by decide) _ rfl
theorem g1_4 : g1 4 = some (enc 3 3 3 2) := gW_at P1 1 (by decide) _ rfl
theorem g1_8 : g1 8 = some (enc 11 1 1 65535) := gW_at P1 2 (by decide) _ rfl
theorem g1_12 : g1 12 = some (enc 17 1 0 65534) := gW_at P1 3 (by decide) _ rfl
theorem g1_16 : g1 16 = some (enc 27 0 0 0) := gW_at P1 4 (by decide) _ rfl
theorem g2_0 : g2 0 = some (enc 10 3 1 2) := gW_at P2 0 (by decide) _ rfl
theorem g2_4 : g2 4 = some (enc 27 0 0 0) := gW_at P2 1 (by decide) _ rfl
theorem sums_loop (b : Int) : ∀ (c : Nat) (r : Nat → Int) (e n : Nat), c ≤ 50 → r 0 = 0 → r 1 = (c : Int) + 1 → r 2 = b → Halts (runV g1 (3 * c + 4 + e) r 4 n) ((r 3 + ((c : Int) + 1) * b) % 4294967296)
  | c, r, e, n, hc, h0, h1, h2 => by
    rw [show 3 * c + 4 + e = (3 * c + 3 + e) + 1 by omega, run_go g1_4 (by decide)]
    rw [show sP r 4 (enc 3 3 3 2) = 8 from rfl, show 3 * c + 3 + e = (3 * c + 2 + e) + 1 by omega, run_go g1_8 (by decide)]
    rw [show sP (sR r 4 (enc 3 3 3 2)) 8 (enc 11 1 1 65535) = 12 from rfl, show 3 * c + 2 + e = (3 * c + 1 + e) + 1 by omega, run_go g1_12 (by decide)]
    have k0 : sR (sR (sR r 4 (enc 3 3 3 2)) 8 (enc 11 1 1 65535)) 12 (enc 17 1 0 65534) 0 = r 0 := rfl
    have k1 : sR (sR (sR r 4 (enc 3 3 3 2)) 8 (enc 11 1 1 65535)) 12 (enc 17 1 0 65534) 1 = (r 1 + sw 65535) % 4294967296 := rfl
    have k2 : sR (sR (sR r 4 (enc 3 3 3 2)) 8 (enc 11 1 1 65535)) 12 (enc 17 1 0 65534) 2 = r 2 := rfl
    have k3 : sR (sR (sR r 4 (enc 3 3 3 2)) 8 (enc 11 1 1 65535)) 12 (enc 17 1 0 65534) 3 = (r 3 + r 2) % 4294967296 := rfl
    have kp : sP (sR (sR r 4 (enc 3 3 3 2)) 8 (enc 11 1 1 65535)) 12 (enc 17 1 0 65534) = if ((r 1 + sw 65535) % 4294967296 != r 0) = true then (12 + 4 * sw 65534 % 4294967296) % 4294967296 else (12 + 4) % 4294967296 := rfl
    have q1 : sw 65535 = 4294967295 := rfl
    have q2 : (12 + 4 * sw 65534 % 4294967296) % 4294967296 = 4 := rfl
    generalize sR (sR (sR r 4 (enc 3 3 3 2)) 8 (enc 11 1 1 65535)) 12 (enc 17 1 0 65534) = r' at *
    have k1' : r' 1 = (c : Int) := by rw [k1, q1, h1]; omega
    have k1'' : (r 1 + sw 65535) % 4294967296 = (c : Int) := by rw [q1, h1]; omega
    rw [k1'', h0, q2] at kp
    match c with
    | 0 =>
      rw [kp, if_neg (by decide), show ((12 + 4) % 4294967296 : Int) = 16 from rfl, show 3 * 0 + 1 + e = e + 1 by omega, run_halt g1_16 (by decide) (by decide) rfl rfl]
      refine ⟨_, _, _, rfl, ?_⟩
      show r' 3 = _
      rw [k3, h2]
      congr 1
      simp
    | c + 1 =>
      rw [kp, if_pos (by simp; omega), show 3 * (c + 1) + 1 + e = 3 * c + 4 + e by omega]
      have := sums_loop b c r' e (n + 1 + 1 + 1) (by omega) (by rw [k0, h0]) (by rw [k1']; omega) (by rw [k2, h2])
      rw [k3, h2] at this
      have e1 : ((r 3 + b) % 4294967296 + ((c : Int) + 1) * b) % 4294967296 = (r 3 + (((c + 1 : Nat) : Int) + 1) * b) % 4294967296 := by
        rw [Int.emod_add_emod]
        congr 1
        rw [show (((c + 1 : Nat) : Int) + 1) = ((c : Int) + 1) + 1 by omega, Int.add_mul ((c : Int) + 1) 1 b]
        omega
      rw [e1] at this
      exact this
theorem sums_run (a b : Int) (h1 : 1 ≤ a) (h2 : a ≤ 50) : Halts (runV g1 300 (rs a b) 0 0) (a * b % 4294967296) := by
  obtain ⟨c, hc⟩ := Int.eq_ofNat_of_zero_le (show 0 ≤ a - 1 by omega)
  have := sums_loop b c (sR (rs a b) 0 (enc 1 3 0 0)) (299 - (3 * c + 4)) 1 (by omega) rfl (show a = (c : Int) + 1 by omega) rfl
  rw [show 300 = 299 + 1 from rfl, run_go g1_0 (by decide), show sP (rs a b) 0 (enc 1 3 0 0) = 4 from rfl]
  rw [show 3 * c + 4 + (299 - (3 * c + 4)) = 299 by omega, show sR (rs a b) 0 (enc 1 3 0 0) 3 = 0 from rfl, Int.zero_add, show (c : Int) + 1 = a by omega] at this
  exact this
theorem mul_run (a b : Int) : Halts (runV g2 5 (rs a b) 0 0) (a * b % 4294967296) := by
  rw [show 5 = 4 + 1 from rfl, run_go g2_0 (by decide), show sP (rs a b) 0 (enc 10 3 1 2) = 4 from rfl, show 4 = 3 + 1 from rfl, run_halt g2_4 (by decide) (by decide) rfl rfl]
  exact ⟨_, _, _, rfl, rfl⟩
end Alu
end Go.Proofs.YtlfhcnpbgbnadaaDoor
