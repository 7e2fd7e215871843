/-
  No cell of these rows narrows 'for every input' (looked for: loops, veiled, ifaces, maps, wideKeys, modest, calm, conditions, laid).
  DERIVED. THE GIVEN ROWS OF THIS SEAT. 5 by the template 'for every input the law returns true; each argument reads behind the call as it read before'; 0 by the template 'total and deterministic' (their statements: YtgeagnpgcjjifaaTotals.lean).
  GIVEN WITH THE SEED: the statements are not yours to turn. If you find one false, say at which input.
  Laid BY PROGRAM, IN A SANDBOX (cutbox-rows.mjs): the forced cells as the released guide's own fill.sh prints them over the translation 00084bb3e08188f6… (all of the seat's roots in one cut). By AI agents, Wed Nov 11 2026. No macro, syntax, notation, axiom, sorry.
-/
import Derived.Test.YtgeagnpgcjjifaaChecked
import GoSem.Claim
import GoSem.ClaimJoined
import GoSem.ClaimMapViews
import Derived.JoinedTies
import Derived.KernelRfl
namespace Go.Proofs.Ytgeagnpgcjjifaa
/- THE CELL 'sum', in the pinned program and in every row, IS THE sha256 OF THE DUMP (.gsa) THAT YtgeagnpgcjjifaaProg.lean LOADS. Nothing in Lean hashes anything: it is a label: what it is worth is what the hold of that sum in a sandbox is worth. -/
noncomputable def Try.pinned : Pinned := { name := "ytgeagnpgcjjifaa", sum := "00084bb3e08188f6c9a9e762137d5ab8480fbc72cf46bd88034d541537819476", checked := Try.checked }
namespace Rows
def none {H : Type} : Left H := { results := [], args := [] }

/-- 'warderlaw10.FramesCalls': WHATEVER THE INPUT: true; the input reads as it did. -/
def framesCallsSpec : ChangeSpec := { name := "framesCalls", fn := fun _ => fun
  | [d1, d2, d3, d4] => { results := [.lit (.bool true)], args := [d1, d2, d3, d4] }
  | _ => none }
def framesCallsRow : OpenClaim := { program := "ytgeagnpgcjjifaa", sum := "00084bb3e08188f6c9a9e762137d5ab8480fbc72cf46bd88034d541537819476", func := "warder/warderlaw10.FramesCalls", spec := "framesCalls", apart := false }
def FramesCallsSaid : Prop := framesCallsRow.holds Try.pinned (OpenSpec.ofChange framesCallsSpec)

/-- ITS FALSE NEIGHBOUR: 'it returns false'. Refute it at one input. -/
def framesCallsWrong : ChangeSpec := { name := "framesCalls", fn := fun _ => fun
  | [d1, d2, d3, d4] => { results := [.lit (.bool false)], args := [d1, d2, d3, d4] }
  | _ => none }
def FramesCallsWrongFalsely : Prop := framesCallsRow.holds Try.pinned (OpenSpec.ofChange framesCallsWrong)

/-- 'warderlaw10.FramesParts': WHATEVER THE INPUT: true; the input reads as it did. -/
def framesPartsSpec : ChangeSpec := { name := "framesParts", fn := fun _ => fun
  | [d1, d2] => { results := [.lit (.bool true)], args := [d1, d2] }
  | _ => none }
def framesPartsRow : OpenClaim := { program := "ytgeagnpgcjjifaa", sum := "00084bb3e08188f6c9a9e762137d5ab8480fbc72cf46bd88034d541537819476", func := "warder/warderlaw10.FramesParts", spec := "framesParts", apart := false }
def FramesPartsSaid : Prop := framesPartsRow.holds Try.pinned (OpenSpec.ofChange framesPartsSpec)

/-- ITS FALSE NEIGHBOUR: 'it returns false'. Refute it at one input. -/
def framesPartsWrong : ChangeSpec := { name := "framesParts", fn := fun _ => fun
  | [d1, d2] => { results := [.lit (.bool false)], args := [d1, d2] }
  | _ => none }
def FramesPartsWrongFalsely : Prop := framesPartsRow.holds Try.pinned (OpenSpec.ofChange framesPartsWrong)

/-- 'warderlaw10.FramesAll': WHATEVER THE INPUT: true; the input reads as it did. -/
def framesAllSpec : ChangeSpec := { name := "framesAll", fn := fun _ => fun
  | [d1, d2] => { results := [.lit (.bool true)], args := [d1, d2] }
  | _ => none }
def framesAllRow : OpenClaim := { program := "ytgeagnpgcjjifaa", sum := "00084bb3e08188f6c9a9e762137d5ab8480fbc72cf46bd88034d541537819476", func := "warder/warderlaw10.FramesAll", spec := "framesAll", apart := false }
def FramesAllSaid : Prop := framesAllRow.holds Try.pinned (OpenSpec.ofChange framesAllSpec)

/-- ITS FALSE NEIGHBOUR: 'it returns false'. Refute it at one input. -/
def framesAllWrong : ChangeSpec := { name := "framesAll", fn := fun _ => fun
  | [d1, d2] => { results := [.lit (.bool false)], args := [d1, d2] }
  | _ => none }
def FramesAllWrongFalsely : Prop := framesAllRow.holds Try.pinned (OpenSpec.ofChange framesAllWrong)

/-- 'warderlaw10.FramesRuns': WHATEVER THE INPUT: true; the input reads as it did. -/
def framesRunsSpec : ChangeSpec := { name := "framesRuns", fn := fun _ => fun
  | [d1, d2, d3] => { results := [.lit (.bool true)], args := [d1, d2, d3] }
  | _ => none }
def framesRunsRow : OpenClaim := { program := "ytgeagnpgcjjifaa", sum := "00084bb3e08188f6c9a9e762137d5ab8480fbc72cf46bd88034d541537819476", func := "warder/warderlaw10.FramesRuns", spec := "framesRuns", apart := false }
def FramesRunsSaid : Prop := framesRunsRow.holds Try.pinned (OpenSpec.ofChange framesRunsSpec)

/-- ITS FALSE NEIGHBOUR: 'it returns false'. Refute it at one input. -/
def framesRunsWrong : ChangeSpec := { name := "framesRuns", fn := fun _ => fun
  | [d1, d2, d3] => { results := [.lit (.bool false)], args := [d1, d2, d3] }
  | _ => none }
def FramesRunsWrongFalsely : Prop := framesRunsRow.holds Try.pinned (OpenSpec.ofChange framesRunsWrong)

/-- 'warderlaw10.FramesGives': WHATEVER THE INPUT: true; the input reads as it did. -/
def framesGivesSpec : ChangeSpec := { name := "framesGives", fn := fun _ => fun
  | [d1, d2, d3] => { results := [.lit (.bool true)], args := [d1, d2, d3] }
  | _ => none }
def framesGivesRow : OpenClaim := { program := "ytgeagnpgcjjifaa", sum := "00084bb3e08188f6c9a9e762137d5ab8480fbc72cf46bd88034d541537819476", func := "warder/warderlaw10.FramesGives", spec := "framesGives", apart := false }
def FramesGivesSaid : Prop := framesGivesRow.holds Try.pinned (OpenSpec.ofChange framesGivesSpec)

/-- ITS FALSE NEIGHBOUR: 'it returns false'. Refute it at one input. -/
def framesGivesWrong : ChangeSpec := { name := "framesGives", fn := fun _ => fun
  | [d1, d2, d3] => { results := [.lit (.bool false)], args := [d1, d2, d3] }
  | _ => none }
def FramesGivesWrongFalsely : Prop := framesGivesRow.holds Try.pinned (OpenSpec.ofChange framesGivesWrong)

/- THE SECOND FORM. 'bulk': how many values and letters a reading holds, each counted each time it is reached (what is shared counts as often as it is met; a slice's spare places count too). A statement '..UptoSaid' is the law's where the arguments, and the package variables that the reading takes, are together of bulk at most 1048576: NARROWER than '..Said'. Prove '..Said' where nothing that the law and all that it calls make is longer than what came in: it says more and counts as full. Else prove '..UptoSaid'. A law counts once. -/
mutual
def uptoBulk {H : Type} : DataW H → Nat
  | .lit (.string bytes) => bytes.length + 1
  | .lit _ => 1
  | .nil => 1
  | .ptr d => uptoBulk d + 1
  | .slice elems spare => uptoBulkAll elems + uptoBulkAll spare + 1
  | .agg parts => uptoBulkAll parts + 1
  | .iface _ d => uptoBulk d + 1
  | .map entries => uptoBulkEntries entries + 1
  | .held _ => 1
def uptoBulkAll {H : Type} : List (DataW H) → Nat
  | [] => 0
  | d :: r => uptoBulk d + uptoBulkAll r
def uptoBulkEntries {H : Type} : List (Lit × DataW H) → Nat
  | [] => 0
  | x :: r => uptoBulkEntry x + uptoBulkEntries r
def uptoBulkEntry {H : Type} : Lit × DataW H → Nat
  | (.string bytes, d) => bytes.length + uptoBulk d + 1
  | (_, d) => uptoBulk d + 1
 end
def uptoSmall : (H : Type) → List (DataW H) → Bool := fun _ ds => decide (uptoBulkAll ds ≤ 1048576)
def OpenSpec.upto (s : _root_.Go.ChangeSpec) : _root_.Go.OpenSpec := { _root_.Go.OpenSpec.ofChange s with cond := some uptoSmall }

/-- 'warderlaw10.FramesCalls', WHERE WHAT IT READS IS OF BULK AT MOST 1048576: true; the input reads as it did. -/
def framesCallsUptoRow : OpenClaim := { program := "ytgeagnpgcjjifaa", sum := "00084bb3e08188f6c9a9e762137d5ab8480fbc72cf46bd88034d541537819476", func := "warder/warderlaw10.FramesCalls", spec := "framesCalls", apart := false, narrowed := true }
def FramesCallsUptoSaid : Prop := framesCallsUptoRow.holds Try.pinned (OpenSpec.upto framesCallsSpec)

/-- 'warderlaw10.FramesParts', WHERE WHAT IT READS IS OF BULK AT MOST 1048576: true; the input reads as it did. -/
def framesPartsUptoRow : OpenClaim := { program := "ytgeagnpgcjjifaa", sum := "00084bb3e08188f6c9a9e762137d5ab8480fbc72cf46bd88034d541537819476", func := "warder/warderlaw10.FramesParts", spec := "framesParts", apart := false, narrowed := true }
def FramesPartsUptoSaid : Prop := framesPartsUptoRow.holds Try.pinned (OpenSpec.upto framesPartsSpec)

/-- 'warderlaw10.FramesAll', WHERE WHAT IT READS IS OF BULK AT MOST 1048576: true; the input reads as it did. -/
def framesAllUptoRow : OpenClaim := { program := "ytgeagnpgcjjifaa", sum := "00084bb3e08188f6c9a9e762137d5ab8480fbc72cf46bd88034d541537819476", func := "warder/warderlaw10.FramesAll", spec := "framesAll", apart := false, narrowed := true }
def FramesAllUptoSaid : Prop := framesAllUptoRow.holds Try.pinned (OpenSpec.upto framesAllSpec)

/-- 'warderlaw10.FramesRuns', WHERE WHAT IT READS IS OF BULK AT MOST 1048576: true; the input reads as it did. -/
def framesRunsUptoRow : OpenClaim := { program := "ytgeagnpgcjjifaa", sum := "00084bb3e08188f6c9a9e762137d5ab8480fbc72cf46bd88034d541537819476", func := "warder/warderlaw10.FramesRuns", spec := "framesRuns", apart := false, narrowed := true }
def FramesRunsUptoSaid : Prop := framesRunsUptoRow.holds Try.pinned (OpenSpec.upto framesRunsSpec)

/-- 'warderlaw10.FramesGives', WHERE WHAT IT READS IS OF BULK AT MOST 1048576: true; the input reads as it did. -/
def framesGivesUptoRow : OpenClaim := { program := "ytgeagnpgcjjifaa", sum := "00084bb3e08188f6c9a9e762137d5ab8480fbc72cf46bd88034d541537819476", func := "warder/warderlaw10.FramesGives", spec := "framesGives", apart := false, narrowed := true }
def FramesGivesUptoSaid : Prop := framesGivesUptoRow.holds Try.pinned (OpenSpec.upto framesGivesSpec)

end Rows
end Go.Proofs.Ytgeagnpgcjjifaa
