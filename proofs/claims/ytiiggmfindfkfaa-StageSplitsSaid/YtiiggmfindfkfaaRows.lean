/-
  No cell of these rows narrows 'for every input' (looked for: loops, veiled, ifaces, maps, wideKeys, modest, calm, conditions, laid).
  DERIVED. THE GIVEN ROWS OF THIS SEAT. 4 by the template 'for every input the law returns true; each argument reads behind the call as it read before'; 0 by the template 'total and deterministic' (their statements: YtiiggmfindfkfaaTotals.lean).
  GIVEN WITH THE SEED: the statements are not yours to turn. If you find one false, say at which input.
  Laid BY PROGRAM, IN A SANDBOX (cutbox-rows.mjs): the forced cells as the released guide's own fill.sh prints them over the translation 4f9a46ed9c27ca0f… (all of the seat's roots in one cut). By AI agents, Wed Nov 11 2026. No macro, syntax, notation, axiom, sorry.
-/
import Derived.Test.YtiiggmfindfkfaaChecked
import GoSem.Claim
import GoSem.ClaimJoined
import GoSem.ClaimMapViews
import Derived.JoinedTies
import Derived.KernelRfl
namespace Go.Proofs.Ytiiggmfindfkfaa
/- THE CELL 'sum', in the pinned program and in every row, IS THE sha256 OF THE DUMP (.gsa) THAT YtiiggmfindfkfaaProg.lean LOADS. Nothing in Lean hashes anything: it is a label: what it is worth is what the hold of that sum in a sandbox is worth. -/
noncomputable def Try.pinned : Pinned := { name := "ytiiggmfindfkfaa", sum := "4f9a46ed9c27ca0f8bb2922587c544d1ae984dae5568b17cd7ce0fb71c370328", checked := Try.checked }
namespace Rows
def none {H : Type} : Left H := { results := [], args := [] }

/-- 'warderlaw11.StageOwn': WHATEVER THE INPUT: true; the input reads as it did. -/
def stageOwnSpec : ChangeSpec := { name := "stageOwn", fn := fun _ => fun
  | [d1, d2, d3, d4] => { results := [.lit (.bool true)], args := [d1, d2, d3, d4] }
  | _ => none }
def stageOwnRow : OpenClaim := { program := "ytiiggmfindfkfaa", sum := "4f9a46ed9c27ca0f8bb2922587c544d1ae984dae5568b17cd7ce0fb71c370328", func := "warder/warderlaw11.StageOwn", spec := "stageOwn", unfollowed := true, recurses := true, plainKeys := false, apart := false }
def StageOwnSaid : Prop := stageOwnRow.holds Try.pinned (OpenSpec.ofChange stageOwnSpec)

/-- ITS FALSE NEIGHBOUR: 'it returns false'. Refute it at one input. -/
def stageOwnWrong : ChangeSpec := { name := "stageOwn", fn := fun _ => fun
  | [d1, d2, d3, d4] => { results := [.lit (.bool false)], args := [d1, d2, d3, d4] }
  | _ => none }
def StageOwnWrongFalsely : Prop := stageOwnRow.holds Try.pinned (OpenSpec.ofChange stageOwnWrong)

/-- 'warderlaw11.StageGone': WHATEVER THE INPUT: true; the input reads as it did. -/
def stageGoneSpec : ChangeSpec := { name := "stageGone", fn := fun _ => fun
  | [d1, d2, d3, d4] => { results := [.lit (.bool true)], args := [d1, d2, d3, d4] }
  | _ => none }
def stageGoneRow : OpenClaim := { program := "ytiiggmfindfkfaa", sum := "4f9a46ed9c27ca0f8bb2922587c544d1ae984dae5568b17cd7ce0fb71c370328", func := "warder/warderlaw11.StageGone", spec := "stageGone", unfollowed := true, recurses := true, plainKeys := false, apart := false }
def StageGoneSaid : Prop := stageGoneRow.holds Try.pinned (OpenSpec.ofChange stageGoneSpec)

/-- ITS FALSE NEIGHBOUR: 'it returns false'. Refute it at one input. -/
def stageGoneWrong : ChangeSpec := { name := "stageGone", fn := fun _ => fun
  | [d1, d2, d3, d4] => { results := [.lit (.bool false)], args := [d1, d2, d3, d4] }
  | _ => none }
def StageGoneWrongFalsely : Prop := stageGoneRow.holds Try.pinned (OpenSpec.ofChange stageGoneWrong)

/-- 'warderlaw11.StageWalks': WHATEVER THE INPUT: true; the input reads as it did. -/
def stageWalksSpec : ChangeSpec := { name := "stageWalks", fn := fun _ => fun
  | [d1, d2, d3, d4] => { results := [.lit (.bool true)], args := [d1, d2, d3, d4] }
  | _ => none }
def stageWalksRow : OpenClaim := { program := "ytiiggmfindfkfaa", sum := "4f9a46ed9c27ca0f8bb2922587c544d1ae984dae5568b17cd7ce0fb71c370328", func := "warder/warderlaw11.StageWalks", spec := "stageWalks", unfollowed := true, recurses := true, plainKeys := false, apart := false }
def StageWalksSaid : Prop := stageWalksRow.holds Try.pinned (OpenSpec.ofChange stageWalksSpec)

/-- ITS FALSE NEIGHBOUR: 'it returns false'. Refute it at one input. -/
def stageWalksWrong : ChangeSpec := { name := "stageWalks", fn := fun _ => fun
  | [d1, d2, d3, d4] => { results := [.lit (.bool false)], args := [d1, d2, d3, d4] }
  | _ => none }
def StageWalksWrongFalsely : Prop := stageWalksRow.holds Try.pinned (OpenSpec.ofChange stageWalksWrong)

/-- 'warderlaw11.StageSplits': WHATEVER THE INPUT: true; the input reads as it did. -/
def stageSplitsSpec : ChangeSpec := { name := "stageSplits", fn := fun _ => fun
  | [d1, d2, d3, d4, d5] => { results := [.lit (.bool true)], args := [d1, d2, d3, d4, d5] }
  | _ => none }
def stageSplitsRow : OpenClaim := { program := "ytiiggmfindfkfaa", sum := "4f9a46ed9c27ca0f8bb2922587c544d1ae984dae5568b17cd7ce0fb71c370328", func := "warder/warderlaw11.StageSplits", spec := "stageSplits", unfollowed := true, recurses := true, plainKeys := false, apart := false }
def StageSplitsSaid : Prop := stageSplitsRow.holds Try.pinned (OpenSpec.ofChange stageSplitsSpec)

/-- ITS FALSE NEIGHBOUR: 'it returns false'. Refute it at one input. -/
def stageSplitsWrong : ChangeSpec := { name := "stageSplits", fn := fun _ => fun
  | [d1, d2, d3, d4, d5] => { results := [.lit (.bool false)], args := [d1, d2, d3, d4, d5] }
  | _ => none }
def StageSplitsWrongFalsely : Prop := stageSplitsRow.holds Try.pinned (OpenSpec.ofChange stageSplitsWrong)

/- THE SECOND FORM. 'bulk': how many values and letters a reading holds, each counted each time it is reached (what is shared counts as often as it is met; a slice's spare places count too). A statement '..UptoSaid' is the law's where the arguments, and the package variables that the reading takes, are together of bulk at most 1048576: NARROWER than '..Said'. Prove '..Said' where nothing that the law and all that it calls make is longer than what came in: it says more and counts as full. Else prove '..UptoSaid'. A law counts once. -/
mutual
def uptoBulk {H : Type} : DataW H → Nat
  | .lit (.string bytes) => bytes.length + 1
  | .lit _ => 1
  | .nil => 1
  | .ptr d => uptoBulk d + 1
  | .slice elems spare => uptoBulkAll elems + uptoBulkAll spare + 1
  | .agg parts => uptoBulkAll parts + 1
  | .iface _ d => uptoBulk d + 1
  | .map entries => uptoBulkEntries entries + 1
  | .held _ => 1
def uptoBulkAll {H : Type} : List (DataW H) → Nat
  | [] => 0
  | d :: r => uptoBulk d + uptoBulkAll r
def uptoBulkEntries {H : Type} : List (Lit × DataW H) → Nat
  | [] => 0
  | x :: r => uptoBulkEntry x + uptoBulkEntries r
def uptoBulkEntry {H : Type} : Lit × DataW H → Nat
  | (.string bytes, d) => bytes.length + uptoBulk d + 1
  | (_, d) => uptoBulk d + 1
 end
def uptoSmall : (H : Type) → List (DataW H) → Bool := fun _ ds => decide (uptoBulkAll ds ≤ 1048576)
def OpenSpec.upto (s : _root_.Go.ChangeSpec) : _root_.Go.OpenSpec := { _root_.Go.OpenSpec.ofChange s with cond := some uptoSmall }

/-- 'warderlaw11.StageOwn', WHERE WHAT IT READS IS OF BULK AT MOST 1048576: true; the input reads as it did. -/
def stageOwnUptoRow : OpenClaim := { program := "ytiiggmfindfkfaa", sum := "4f9a46ed9c27ca0f8bb2922587c544d1ae984dae5568b17cd7ce0fb71c370328", func := "warder/warderlaw11.StageOwn", spec := "stageOwn", unfollowed := true, recurses := true, plainKeys := false, apart := false, narrowed := true }
def StageOwnUptoSaid : Prop := stageOwnUptoRow.holds Try.pinned (OpenSpec.upto stageOwnSpec)

/-- 'warderlaw11.StageGone', WHERE WHAT IT READS IS OF BULK AT MOST 1048576: true; the input reads as it did. -/
def stageGoneUptoRow : OpenClaim := { program := "ytiiggmfindfkfaa", sum := "4f9a46ed9c27ca0f8bb2922587c544d1ae984dae5568b17cd7ce0fb71c370328", func := "warder/warderlaw11.StageGone", spec := "stageGone", unfollowed := true, recurses := true, plainKeys := false, apart := false, narrowed := true }
def StageGoneUptoSaid : Prop := stageGoneUptoRow.holds Try.pinned (OpenSpec.upto stageGoneSpec)

/-- 'warderlaw11.StageWalks', WHERE WHAT IT READS IS OF BULK AT MOST 1048576: true; the input reads as it did. -/
def stageWalksUptoRow : OpenClaim := { program := "ytiiggmfindfkfaa", sum := "4f9a46ed9c27ca0f8bb2922587c544d1ae984dae5568b17cd7ce0fb71c370328", func := "warder/warderlaw11.StageWalks", spec := "stageWalks", unfollowed := true, recurses := true, plainKeys := false, apart := false, narrowed := true }
def StageWalksUptoSaid : Prop := stageWalksUptoRow.holds Try.pinned (OpenSpec.upto stageWalksSpec)

/-- 'warderlaw11.StageSplits', WHERE WHAT IT READS IS OF BULK AT MOST 1048576: true; the input reads as it did. -/
def stageSplitsUptoRow : OpenClaim := { program := "ytiiggmfindfkfaa", sum := "4f9a46ed9c27ca0f8bb2922587c544d1ae984dae5568b17cd7ce0fb71c370328", func := "warder/warderlaw11.StageSplits", spec := "stageSplits", unfollowed := true, recurses := true, plainKeys := false, apart := false, narrowed := true }
def StageSplitsUptoSaid : Prop := stageSplitsUptoRow.holds Try.pinned (OpenSpec.upto stageSplitsSpec)

end Rows
end Go.Proofs.Ytiiggmfindfkfaa
