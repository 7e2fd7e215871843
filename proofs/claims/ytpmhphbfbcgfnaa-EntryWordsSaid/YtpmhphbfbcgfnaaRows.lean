/-
  No cell of these rows narrows 'for every input' (looked for: loops, veiled, ifaces, maps, wideKeys, modest, calm, conditions, laid).
  DERIVED. THE GIVEN ROWS OF THIS SEAT. 4 by the template 'for every input the law returns true; each argument reads behind the call as it read before'; 0 by the template 'total and deterministic' (their statements: YtpmhphbfbcgfnaaTotals.lean).
  GIVEN WITH THE SEED: the statements are not yours to turn. If you find one false, say at which input.
  Laid BY PROGRAM, IN A SANDBOX (cutbox-rows.mjs): the forced cells as the released guide's own fill.sh prints them over the translation 659df827c62325a2… (all of the seat's roots in one cut). By AI agents, Wed Nov 11 2026. No macro, syntax, notation, axiom, sorry.
-/
import Derived.Test.YtpmhphbfbcgfnaaChecked
import GoSem.Claim
import GoSem.ClaimJoined
import GoSem.ClaimMapViews
import Derived.JoinedTies
import Derived.KernelRfl
namespace Go.Proofs.Ytpmhphbfbcgfnaa
/- THE CELL 'sum', in the pinned program and in every row, IS THE sha256 OF THE DUMP (.gsa) THAT YtpmhphbfbcgfnaaProg.lean LOADS. Nothing in Lean hashes anything: it is a label: what it is worth is what the hold of that sum in a sandbox is worth. -/
noncomputable def Try.pinned : Pinned := { name := "ytpmhphbfbcgfnaa", sum := "659df827c62325a2a8d873444d8bb795c31ab02220b3a92b9e8727f8f3652908", checked := Try.checked }
namespace Rows
def none {H : Type} : Left H := { results := [], args := [] }

/-- 'warderlaw06.EntryWords': WHATEVER THE INPUT: true; the input reads as it did. -/
def entryWordsSpec : ChangeSpec := { name := "entryWords", fn := fun _ => fun
  | [d1, d2, d3] => { results := [.lit (.bool true)], args := [d1, d2, d3] }
  | _ => none }
def entryWordsRow : OpenClaim := { program := "ytpmhphbfbcgfnaa", sum := "659df827c62325a2a8d873444d8bb795c31ab02220b3a92b9e8727f8f3652908", func := "warder/warderlaw06.EntryWords", spec := "entryWords", unfollowed := true, recurses := true, apart := false }
def EntryWordsSaid : Prop := entryWordsRow.holds Try.pinned (OpenSpec.ofChange entryWordsSpec)

/-- ITS FALSE NEIGHBOUR: 'it returns false'. Refute it at one input. -/
def entryWordsWrong : ChangeSpec := { name := "entryWords", fn := fun _ => fun
  | [d1, d2, d3] => { results := [.lit (.bool false)], args := [d1, d2, d3] }
  | _ => none }
def EntryWordsWrongFalsely : Prop := entryWordsRow.holds Try.pinned (OpenSpec.ofChange entryWordsWrong)

/-- 'warderlaw06.EntryBoth': WHATEVER THE INPUT: true; the input reads as it did. -/
def entryBothSpec : ChangeSpec := { name := "entryBoth", fn := fun _ => fun
  | [d1, d2] => { results := [.lit (.bool true)], args := [d1, d2] }
  | _ => none }
def entryBothRow : OpenClaim := { program := "ytpmhphbfbcgfnaa", sum := "659df827c62325a2a8d873444d8bb795c31ab02220b3a92b9e8727f8f3652908", func := "warder/warderlaw06.EntryBoth", spec := "entryBoth", unfollowed := true, recurses := true, apart := false }
def EntryBothSaid : Prop := entryBothRow.holds Try.pinned (OpenSpec.ofChange entryBothSpec)

/-- ITS FALSE NEIGHBOUR: 'it returns false'. Refute it at one input. -/
def entryBothWrong : ChangeSpec := { name := "entryBoth", fn := fun _ => fun
  | [d1, d2] => { results := [.lit (.bool false)], args := [d1, d2] }
  | _ => none }
def EntryBothWrongFalsely : Prop := entryBothRow.holds Try.pinned (OpenSpec.ofChange entryBothWrong)

/-- 'warderlaw06.EntryParts': WHATEVER THE INPUT: true; the input reads as it did. -/
def entryPartsSpec : ChangeSpec := { name := "entryParts", fn := fun _ => fun
  | [d1, d2, d3] => { results := [.lit (.bool true)], args := [d1, d2, d3] }
  | _ => none }
def entryPartsRow : OpenClaim := { program := "ytpmhphbfbcgfnaa", sum := "659df827c62325a2a8d873444d8bb795c31ab02220b3a92b9e8727f8f3652908", func := "warder/warderlaw06.EntryParts", spec := "entryParts", unfollowed := true, recurses := true, apart := false }
def EntryPartsSaid : Prop := entryPartsRow.holds Try.pinned (OpenSpec.ofChange entryPartsSpec)

/-- ITS FALSE NEIGHBOUR: 'it returns false'. Refute it at one input. -/
def entryPartsWrong : ChangeSpec := { name := "entryParts", fn := fun _ => fun
  | [d1, d2, d3] => { results := [.lit (.bool false)], args := [d1, d2, d3] }
  | _ => none }
def EntryPartsWrongFalsely : Prop := entryPartsRow.holds Try.pinned (OpenSpec.ofChange entryPartsWrong)

/-- 'warderlaw06.EntryBits': WHATEVER THE INPUT: true; the input reads as it did. -/
def entryBitsSpec : ChangeSpec := { name := "entryBits", fn := fun _ => fun
  | [d1, d2] => { results := [.lit (.bool true)], args := [d1, d2] }
  | _ => none }
def entryBitsRow : OpenClaim := { program := "ytpmhphbfbcgfnaa", sum := "659df827c62325a2a8d873444d8bb795c31ab02220b3a92b9e8727f8f3652908", func := "warder/warderlaw06.EntryBits", spec := "entryBits", unfollowed := true, recurses := true, apart := false }
def EntryBitsSaid : Prop := entryBitsRow.holds Try.pinned (OpenSpec.ofChange entryBitsSpec)

/-- ITS FALSE NEIGHBOUR: 'it returns false'. Refute it at one input. -/
def entryBitsWrong : ChangeSpec := { name := "entryBits", fn := fun _ => fun
  | [d1, d2] => { results := [.lit (.bool false)], args := [d1, d2] }
  | _ => none }
def EntryBitsWrongFalsely : Prop := entryBitsRow.holds Try.pinned (OpenSpec.ofChange entryBitsWrong)

/- THE SECOND FORM. 'bulk': how many values and letters a reading holds, each counted each time it is reached (what is shared counts as often as it is met; a slice's spare places count too). A statement '..UptoSaid' is the law's where the arguments, and the package variables that the reading takes, are together of bulk at most 1048576: NARROWER than '..Said'. Prove '..Said' where nothing that the law and all that it calls make is longer than what came in: it says more and counts as full. Else prove '..UptoSaid'. A law counts once. -/
mutual
def uptoBulk {H : Type} : DataW H → Nat
  | .lit (.string bytes) => bytes.length + 1
  | .lit _ => 1
  | .nil => 1
  | .ptr d => uptoBulk d + 1
  | .slice elems spare => uptoBulkAll elems + uptoBulkAll spare + 1
  | .agg parts => uptoBulkAll parts + 1
  | .iface _ d => uptoBulk d + 1
  | .map entries => uptoBulkEntries entries + 1
  | .held _ => 1
def uptoBulkAll {H : Type} : List (DataW H) → Nat
  | [] => 0
  | d :: r => uptoBulk d + uptoBulkAll r
def uptoBulkEntries {H : Type} : List (Lit × DataW H) → Nat
  | [] => 0
  | x :: r => uptoBulkEntry x + uptoBulkEntries r
def uptoBulkEntry {H : Type} : Lit × DataW H → Nat
  | (.string bytes, d) => bytes.length + uptoBulk d + 1
  | (_, d) => uptoBulk d + 1
 end
def uptoSmall : (H : Type) → List (DataW H) → Bool := fun _ ds => decide (uptoBulkAll ds ≤ 1048576)
def OpenSpec.upto (s : _root_.Go.ChangeSpec) : _root_.Go.OpenSpec := { _root_.Go.OpenSpec.ofChange s with cond := some uptoSmall }

/-- 'warderlaw06.EntryWords', WHERE WHAT IT READS IS OF BULK AT MOST 1048576: true; the input reads as it did. -/
def entryWordsUptoRow : OpenClaim := { program := "ytpmhphbfbcgfnaa", sum := "659df827c62325a2a8d873444d8bb795c31ab02220b3a92b9e8727f8f3652908", func := "warder/warderlaw06.EntryWords", spec := "entryWords", unfollowed := true, recurses := true, apart := false, narrowed := true }
def EntryWordsUptoSaid : Prop := entryWordsUptoRow.holds Try.pinned (OpenSpec.upto entryWordsSpec)

/-- 'warderlaw06.EntryBoth', WHERE WHAT IT READS IS OF BULK AT MOST 1048576: true; the input reads as it did. -/
def entryBothUptoRow : OpenClaim := { program := "ytpmhphbfbcgfnaa", sum := "659df827c62325a2a8d873444d8bb795c31ab02220b3a92b9e8727f8f3652908", func := "warder/warderlaw06.EntryBoth", spec := "entryBoth", unfollowed := true, recurses := true, apart := false, narrowed := true }
def EntryBothUptoSaid : Prop := entryBothUptoRow.holds Try.pinned (OpenSpec.upto entryBothSpec)

/-- 'warderlaw06.EntryParts', WHERE WHAT IT READS IS OF BULK AT MOST 1048576: true; the input reads as it did. -/
def entryPartsUptoRow : OpenClaim := { program := "ytpmhphbfbcgfnaa", sum := "659df827c62325a2a8d873444d8bb795c31ab02220b3a92b9e8727f8f3652908", func := "warder/warderlaw06.EntryParts", spec := "entryParts", unfollowed := true, recurses := true, apart := false, narrowed := true }
def EntryPartsUptoSaid : Prop := entryPartsUptoRow.holds Try.pinned (OpenSpec.upto entryPartsSpec)

/-- 'warderlaw06.EntryBits', WHERE WHAT IT READS IS OF BULK AT MOST 1048576: true; the input reads as it did. -/
def entryBitsUptoRow : OpenClaim := { program := "ytpmhphbfbcgfnaa", sum := "659df827c62325a2a8d873444d8bb795c31ab02220b3a92b9e8727f8f3652908", func := "warder/warderlaw06.EntryBits", spec := "entryBits", unfollowed := true, recurses := true, apart := false, narrowed := true }
def EntryBitsUptoSaid : Prop := entryBitsUptoRow.holds Try.pinned (OpenSpec.upto entryBitsSpec)

end Rows
end Go.Proofs.Ytpmhphbfbcgfnaa
