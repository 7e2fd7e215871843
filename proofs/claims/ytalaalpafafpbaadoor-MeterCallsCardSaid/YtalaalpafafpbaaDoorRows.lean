/-
  NARROWER THAN 'FOR EVERY INPUT', by the rows' own cells (each row's printed sentence says how): MeterCalls: laid · MeterSums: laid · MeterLeast: laid · MeterApart: laid.
  DERIVED. THE GIVEN ROWS OF THIS SEAT. 4 by the template 'for every input the law returns true; each argument reads behind the call as it read before'; 0 by the template 'total and deterministic' (their statements: YtalaalpafafpbaaDoorTotals.lean).
  GIVEN WITH THE SEED: the statements are not yours to turn. If you find one false, say at which input.
  Laid BY PROGRAM, IN A SANDBOX (cutbox-rows.mjs): the forced cells as the released guide's own fill.sh prints them over the translation aabc3251c5a633ef… (all of the seat's roots in one cut). By AI agents, Wed Nov 11 2026. No macro, syntax, notation, axiom, sorry.
-/
import Derived.Test.YtalaalpafafpbaaDoorChecked
import GoSem.Claim
import GoSem.ClaimJoined
import GoSem.ClaimMapViews
import Derived.JoinedTies
import Derived.KernelRfl
namespace Go.Proofs.YtalaalpafafpbaaDoor
/- THE CELL 'sum', in the pinned program and in every row, IS THE sha256 OF THE DUMP (.gsa) THAT YtalaalpafafpbaaDoorProg.lean LOADS. Nothing in Lean hashes anything: it is a label: what it is worth is what the hold of that sum in a sandbox is worth. -/
noncomputable def Tryd.pinned : Pinned := { name := "ytalaalpafafpbaadoor", sum := "aabc3251c5a633ef5fbad816ef1a7b64475095878ea61688b0286d2f9c6d3c2c", checked := Tryd.checked }
namespace Rows
def none {H : Type} : Left H := { results := [], args := [] }

/- WHAT THE LISTED PACKAGE-LEVEL VARIABLES READ AS WHEN THE CALL BEGINS. Each datum BY PROGRAM (the guide's laid-datum.mjs) off the statement by which the dump's own 'gosem.cut.vars' lays the variable. In a bare row this is a premise. The card (YtalaalpafafpbaaDoorCards.lean) ties it to the program's text. -/
def laid_warder_meter_costs {H : Type} : DataW H := .agg [.lit (.int .u64 0), .lit (.int .u64 1), .lit (.int .u64 2), .lit (.int .u64 3), .lit (.int .u64 20), .lit (.int .u64 50), .lit (.int .u64 30), .lit (.int .u64 40), .lit (.int .u64 64)]

/-- 'warderlaw05.MeterCalls': WHATEVER THE INPUT: true; the input reads as it did. -/
def meterCallsSpec : ChangeSpec := { name := "meterCalls", fn := fun _ => fun
  | [d1, d2, d3, d4] => { results := [.lit (.bool true)], args := [d1, d2, d3, d4] }
  | _ => none }
def meterCallsRow : OpenClaim := { program := "ytalaalpafafpbaadoor", sum := "aabc3251c5a633ef5fbad816ef1a7b64475095878ea61688b0286d2f9c6d3c2c", func := "warder/warderlaw05.MeterCalls", spec := "meterCalls", named := ["warder/meter.costs"], apart := false, laid := [("warder/meter.costs", laid_warder_meter_costs)] }
def MeterCallsSaid : Prop := meterCallsRow.holds Tryd.pinned (OpenSpec.ofChange meterCallsSpec)

/-- ITS FALSE NEIGHBOUR: 'it returns false'. Refute it at one input. -/
def meterCallsWrong : ChangeSpec := { name := "meterCalls", fn := fun _ => fun
  | [d1, d2, d3, d4] => { results := [.lit (.bool false)], args := [d1, d2, d3, d4] }
  | _ => none }
def MeterCallsWrongFalsely : Prop := meterCallsRow.holds Tryd.pinned (OpenSpec.ofChange meterCallsWrong)

/-- 'warderlaw05.MeterSums': WHATEVER THE INPUT: true; the input reads as it did. -/
def meterSumsSpec : ChangeSpec := { name := "meterSums", fn := fun _ => fun
  | [d] => { results := [.lit (.bool true)], args := [d] }
  | _ => none }
def meterSumsRow : OpenClaim := { program := "ytalaalpafafpbaadoor", sum := "aabc3251c5a633ef5fbad816ef1a7b64475095878ea61688b0286d2f9c6d3c2c", func := "warder/warderlaw05.MeterSums", spec := "meterSums", named := ["warder/meter.costs"], apart := false, laid := [("warder/meter.costs", laid_warder_meter_costs)] }
def MeterSumsSaid : Prop := meterSumsRow.holds Tryd.pinned (OpenSpec.ofChange meterSumsSpec)

/-- ITS FALSE NEIGHBOUR: 'it returns false'. Refute it at one input. -/
def meterSumsWrong : ChangeSpec := { name := "meterSums", fn := fun _ => fun
  | [d] => { results := [.lit (.bool false)], args := [d] }
  | _ => none }
def MeterSumsWrongFalsely : Prop := meterSumsRow.holds Tryd.pinned (OpenSpec.ofChange meterSumsWrong)

/-- 'warderlaw05.MeterLeast': WHATEVER THE INPUT: true; the input reads as it did. -/
def meterLeastSpec : ChangeSpec := { name := "meterLeast", fn := fun _ => fun
  | [d1, d2] => { results := [.lit (.bool true)], args := [d1, d2] }
  | _ => none }
def meterLeastRow : OpenClaim := { program := "ytalaalpafafpbaadoor", sum := "aabc3251c5a633ef5fbad816ef1a7b64475095878ea61688b0286d2f9c6d3c2c", func := "warder/warderlaw05.MeterLeast", spec := "meterLeast", named := ["warder/meter.costs"], apart := false, laid := [("warder/meter.costs", laid_warder_meter_costs)] }
def MeterLeastSaid : Prop := meterLeastRow.holds Tryd.pinned (OpenSpec.ofChange meterLeastSpec)

/-- ITS FALSE NEIGHBOUR: 'it returns false'. Refute it at one input. -/
def meterLeastWrong : ChangeSpec := { name := "meterLeast", fn := fun _ => fun
  | [d1, d2] => { results := [.lit (.bool false)], args := [d1, d2] }
  | _ => none }
def MeterLeastWrongFalsely : Prop := meterLeastRow.holds Tryd.pinned (OpenSpec.ofChange meterLeastWrong)

/-- 'warderlaw05.MeterApart': WHATEVER THE INPUT: true; the input reads as it did. -/
def meterApartSpec : ChangeSpec := { name := "meterApart", fn := fun _ => fun
  | [d1, d2] => { results := [.lit (.bool true)], args := [d1, d2] }
  | _ => none }
def meterApartRow : OpenClaim := { program := "ytalaalpafafpbaadoor", sum := "aabc3251c5a633ef5fbad816ef1a7b64475095878ea61688b0286d2f9c6d3c2c", func := "warder/warderlaw05.MeterApart", spec := "meterApart", named := ["warder/meter.costs"], apart := false, laid := [("warder/meter.costs", laid_warder_meter_costs)] }
def MeterApartSaid : Prop := meterApartRow.holds Tryd.pinned (OpenSpec.ofChange meterApartSpec)

/-- ITS FALSE NEIGHBOUR: 'it returns false'. Refute it at one input. -/
def meterApartWrong : ChangeSpec := { name := "meterApart", fn := fun _ => fun
  | [d1, d2] => { results := [.lit (.bool false)], args := [d1, d2] }
  | _ => none }
def MeterApartWrongFalsely : Prop := meterApartRow.holds Tryd.pinned (OpenSpec.ofChange meterApartWrong)

/- THE SECOND FORM. 'bulk': how many values and letters a reading holds, each counted each time it is reached (what is shared counts as often as it is met; a slice's spare places count too). A statement '..UptoSaid' is the law's where the arguments, and the package variables that the reading takes, are together of bulk at most 1048576: NARROWER than '..Said'. Prove '..Said' where nothing that the law and all that it calls make is longer than what came in: it says more and counts as full. Else prove '..UptoSaid'. A law counts once. -/
mutual
def uptoBulk {H : Type} : DataW H → Nat
  | .lit (.string bytes) => bytes.length + 1
  | .lit _ => 1
  | .nil => 1
  | .ptr d => uptoBulk d + 1
  | .slice elems spare => uptoBulkAll elems + uptoBulkAll spare + 1
  | .agg parts => uptoBulkAll parts + 1
  | .iface _ d => uptoBulk d + 1
  | .map entries => uptoBulkEntries entries + 1
  | .held _ => 1
def uptoBulkAll {H : Type} : List (DataW H) → Nat
  | [] => 0
  | d :: r => uptoBulk d + uptoBulkAll r
def uptoBulkEntries {H : Type} : List (Lit × DataW H) → Nat
  | [] => 0
  | x :: r => uptoBulkEntry x + uptoBulkEntries r
def uptoBulkEntry {H : Type} : Lit × DataW H → Nat
  | (.string bytes, d) => bytes.length + uptoBulk d + 1
  | (_, d) => uptoBulk d + 1
 end
def uptoSmall : (H : Type) → List (DataW H) → Bool := fun _ ds => decide (uptoBulkAll ds ≤ 1048576)
def OpenSpec.upto (s : _root_.Go.ChangeSpec) : _root_.Go.OpenSpec := { _root_.Go.OpenSpec.ofChange s with cond := some uptoSmall }

/-- 'warderlaw05.MeterCalls', WHERE WHAT IT READS IS OF BULK AT MOST 1048576: true; the input reads as it did. -/
def meterCallsUptoRow : OpenClaim := { program := "ytalaalpafafpbaadoor", sum := "aabc3251c5a633ef5fbad816ef1a7b64475095878ea61688b0286d2f9c6d3c2c", func := "warder/warderlaw05.MeterCalls", spec := "meterCalls", named := ["warder/meter.costs"], apart := false, laid := [("warder/meter.costs", laid_warder_meter_costs)], narrowed := true }
def MeterCallsUptoSaid : Prop := meterCallsUptoRow.holds Tryd.pinned (OpenSpec.upto meterCallsSpec)

/-- 'warderlaw05.MeterSums', WHERE WHAT IT READS IS OF BULK AT MOST 1048576: true; the input reads as it did. -/
def meterSumsUptoRow : OpenClaim := { program := "ytalaalpafafpbaadoor", sum := "aabc3251c5a633ef5fbad816ef1a7b64475095878ea61688b0286d2f9c6d3c2c", func := "warder/warderlaw05.MeterSums", spec := "meterSums", named := ["warder/meter.costs"], apart := false, laid := [("warder/meter.costs", laid_warder_meter_costs)], narrowed := true }
def MeterSumsUptoSaid : Prop := meterSumsUptoRow.holds Tryd.pinned (OpenSpec.upto meterSumsSpec)

/-- 'warderlaw05.MeterLeast', WHERE WHAT IT READS IS OF BULK AT MOST 1048576: true; the input reads as it did. -/
def meterLeastUptoRow : OpenClaim := { program := "ytalaalpafafpbaadoor", sum := "aabc3251c5a633ef5fbad816ef1a7b64475095878ea61688b0286d2f9c6d3c2c", func := "warder/warderlaw05.MeterLeast", spec := "meterLeast", named := ["warder/meter.costs"], apart := false, laid := [("warder/meter.costs", laid_warder_meter_costs)], narrowed := true }
def MeterLeastUptoSaid : Prop := meterLeastUptoRow.holds Tryd.pinned (OpenSpec.upto meterLeastSpec)

/-- 'warderlaw05.MeterApart', WHERE WHAT IT READS IS OF BULK AT MOST 1048576: true; the input reads as it did. -/
def meterApartUptoRow : OpenClaim := { program := "ytalaalpafafpbaadoor", sum := "aabc3251c5a633ef5fbad816ef1a7b64475095878ea61688b0286d2f9c6d3c2c", func := "warder/warderlaw05.MeterApart", spec := "meterApart", named := ["warder/meter.costs"], apart := false, laid := [("warder/meter.costs", laid_warder_meter_costs)], narrowed := true }
def MeterApartUptoSaid : Prop := meterApartUptoRow.holds Tryd.pinned (OpenSpec.upto meterApartSpec)

end Rows
end Go.Proofs.YtalaalpafafpbaaDoor
