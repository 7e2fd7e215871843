/-
  What the document's own Step answers, at every state and word; no condition.
-/
import Derived.Test.YtlfhcnpbgbnadaaDoorAluRSA
import Derived.Test.YtlfhcnpbgbnadaaDoorAluRSB
import Derived.Test.YtlfhcnpbgbnadaaDoorAluRSC
import Derived.Test.YtlfhcnpbgbnadaaDoorAluRSD
import Derived.Test.YtlfhcnpbgbnadaaDoorAluRSE
import Derived.Test.YtlfhcnpbgbnadaaDoorAluRSF
namespace Go.Proofs.YtlfhcnpbgbnadaaDoor
open Go.RowKit Isa Nt
namespace Alu
theorem rstep_good (r : Nat → Int) (pc v : Int) (op a b imm : Nat) (w : World) (hR : R32 r) (hv : W32 v) (hd : decV v = .tuple #[.agg #[.int .i64 op, .int .i64 a, .int .i64 b, .int .i64 imm], .bool true])
    (ho : op < 28) (ha : a < 16) (hb : b < 16) (hi : imm < 65536) (h3 : 3 ≤ op → op ≤ 10 → imm < 16) :
    Calls Tryd.prog 11 #[.agg (stL r pc).toArray, .int .u32 v] w fun e w' => e = .returned (.tuple #[.agg (stL (rNew r pc op a b imm) (nxt r pc op a b imm)).toArray, effV r op a b imm]) ∧ Below w.heap.size w w' := by
  by_cases h1 : op = 0 ∨ op = 1 ∨ op = 2 ∨ op = 11 ∨ op = 16
  · exact rstep_A r pc v op a b imm w hR hv hd ho ha hb hi h3 h1
  by_cases h2 : op = 17 ∨ op = 18 ∨ op = 19 ∨ op = 20
  · exact rstep_B r pc v op a b imm w hR hv hd ho ha hb hi h3 h2
  by_cases h4 : op = 12 ∨ op = 13 ∨ op = 14 ∨ op = 15 ∨ op = 21 ∨ op = 22
  · exact rstep_C r pc v op a b imm w hR hv hd ho ha hb hi h3 h4
  by_cases h5 : op = 23 ∨ op = 24 ∨ op = 25 ∨ op = 26 ∨ op = 27
  · exact rstep_D r pc v op a b imm w hR hv hd ho ha hb hi h3 h5
  by_cases h6 : op = 3 ∨ op = 4 ∨ op = 5 ∨ op = 6
  · exact rstep_E r pc v op a b imm w hR hv hd ho ha hb hi h3 h6
  · exact rstep_F r pc v op a b imm w hR hv hd ho ha hb hi h3 (by omega)
theorem rstep_any (r : Nat → Int) (pc v : Int) (w : World) (hR : R32 r) (hv : W32 v) :
    Calls Tryd.prog 11 #[.agg (stL r pc).toArray, .int .u32 v] w fun e w' => e = .returned (stepV r pc v) ∧ Below w.heap.size w w' := by
  cases h : isI v
  · refine (rstep_bad (stL r pc) r pc v w (stL_is _ _) hv h).mono ?_
    rintro e w' ⟨rfl, hb⟩
    refine ⟨?_, hb⟩
    unfold stepV sR sP sK sG sA sV
    rw [h]
    rfl
  · obtain ⟨ho, ha, hb, hi, e1, e2, e3, e4⟩ := isI_nums h
    have hd : decV v = .tuple #[.agg #[.int .i64 (oN v : Nat), .int .i64 (aN v : Nat), .int .i64 (bN v : Nat), .int .i64 (iN v : Nat)], .bool true] := by
      unfold decV
      rw [if_pos (show right (dOp v) (dA v) (dB v) (dI v) = true from h), e1, e2, e3, e4]
    refine (rstep_good r pc v (oN v) (aN v) (bN v) (iN v) w hR hv hd ho ha hb hi (isI_imm h)).mono ?_
    rintro e w' ⟨rfl, hb'⟩
    refine ⟨?_, hb'⟩
    unfold stepV sR sP sK sG sA sV effV
    rw [h]
    rfl
end Alu
end Go.Proofs.YtlfhcnpbgbnadaaDoor
