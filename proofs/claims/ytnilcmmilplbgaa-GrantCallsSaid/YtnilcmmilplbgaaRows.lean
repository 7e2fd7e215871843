/-
  No cell of these rows narrows 'for every input' (looked for: loops, veiled, ifaces, maps, wideKeys, modest, calm, conditions, laid).
  DERIVED. THE GIVEN ROWS OF THIS SEAT. 5 by the template 'for every input the law returns true; each argument reads behind the call as it read before'; 0 by the template 'total and deterministic' (their statements: YtnilcmmilplbgaaTotals.lean).
  GIVEN WITH THE SEED: the statements are not yours to turn. If you find one false, say at which input.
  Laid BY PROGRAM, IN A SANDBOX (cutbox-rows.mjs): the forced cells as the released guide's own fill.sh prints them over the translation 7e0c86f509a15ac6… (all of the seat's roots in one cut). By AI agents, Wed Nov 11 2026. No macro, syntax, notation, axiom, sorry.
-/
import Derived.Test.YtnilcmmilplbgaaChecked
import GoSem.Claim
import GoSem.ClaimJoined
import GoSem.ClaimMapViews
import Derived.JoinedTies
import Derived.KernelRfl
namespace Go.Proofs.Ytnilcmmilplbgaa
/- THE CELL 'sum', in the pinned program and in every row, IS THE sha256 OF THE DUMP (.gsa) THAT YtnilcmmilplbgaaProg.lean LOADS. Nothing in Lean hashes anything: it is a label: what it is worth is what the hold of that sum in a sandbox is worth. -/
noncomputable def Try.pinned : Pinned := { name := "ytnilcmmilplbgaa", sum := "7e0c86f509a15ac660bc31043a35af5340e0eb2a64f4aa11b4a2687aef60120c", checked := Try.checked }
namespace Rows
def none {H : Type} : Left H := { results := [], args := [] }

/-- 'warderlaw12.GrantCalls': WHATEVER THE INPUT: true; the input reads as it did. -/
def grantCallsSpec : ChangeSpec := { name := "grantCalls", fn := fun _ => fun
  | [d1, d2, d3, d4] => { results := [.lit (.bool true)], args := [d1, d2, d3, d4] }
  | _ => none }
def grantCallsRow : OpenClaim := { program := "ytnilcmmilplbgaa", sum := "7e0c86f509a15ac660bc31043a35af5340e0eb2a64f4aa11b4a2687aef60120c", func := "warder/warderlaw12.GrantCalls", spec := "grantCalls", unfollowed := true, recurses := true, apart := false }
def GrantCallsSaid : Prop := grantCallsRow.holds Try.pinned (OpenSpec.ofChange grantCallsSpec)

/-- ITS FALSE NEIGHBOUR: 'it returns false'. Refute it at one input. -/
def grantCallsWrong : ChangeSpec := { name := "grantCalls", fn := fun _ => fun
  | [d1, d2, d3, d4] => { results := [.lit (.bool false)], args := [d1, d2, d3, d4] }
  | _ => none }
def GrantCallsWrongFalsely : Prop := grantCallsRow.holds Try.pinned (OpenSpec.ofChange grantCallsWrong)

/-- 'warderlaw12.GrantMay': WHATEVER THE INPUT: true; the input reads as it did. -/
def grantMaySpec : ChangeSpec := { name := "grantMay", fn := fun _ => fun
  | [d] => { results := [.lit (.bool true)], args := [d] }
  | _ => none }
def grantMayRow : OpenClaim := { program := "ytnilcmmilplbgaa", sum := "7e0c86f509a15ac660bc31043a35af5340e0eb2a64f4aa11b4a2687aef60120c", func := "warder/warderlaw12.GrantMay", spec := "grantMay", unfollowed := true, recurses := true, apart := false }
def GrantMaySaid : Prop := grantMayRow.holds Try.pinned (OpenSpec.ofChange grantMaySpec)

/-- ITS FALSE NEIGHBOUR: 'it returns false'. Refute it at one input. -/
def grantMayWrong : ChangeSpec := { name := "grantMay", fn := fun _ => fun
  | [d] => { results := [.lit (.bool false)], args := [d] }
  | _ => none }
def GrantMayWrongFalsely : Prop := grantMayRow.holds Try.pinned (OpenSpec.ofChange grantMayWrong)

/-- 'warderlaw12.GrantAll': WHATEVER THE INPUT: true; the input reads as it did. -/
def grantAllSpec : ChangeSpec := { name := "grantAll", fn := fun _ => fun
  | [d1, d2, d3] => { results := [.lit (.bool true)], args := [d1, d2, d3] }
  | _ => none }
def grantAllRow : OpenClaim := { program := "ytnilcmmilplbgaa", sum := "7e0c86f509a15ac660bc31043a35af5340e0eb2a64f4aa11b4a2687aef60120c", func := "warder/warderlaw12.GrantAll", spec := "grantAll", unfollowed := true, recurses := true, apart := false }
def GrantAllSaid : Prop := grantAllRow.holds Try.pinned (OpenSpec.ofChange grantAllSpec)

/-- ITS FALSE NEIGHBOUR: 'it returns false'. Refute it at one input. -/
def grantAllWrong : ChangeSpec := { name := "grantAll", fn := fun _ => fun
  | [d1, d2, d3] => { results := [.lit (.bool false)], args := [d1, d2, d3] }
  | _ => none }
def GrantAllWrongFalsely : Prop := grantAllRow.holds Try.pinned (OpenSpec.ofChange grantAllWrong)

/-- 'warderlaw12.GrantApart': WHATEVER THE INPUT: true; the input reads as it did. -/
def grantApartSpec : ChangeSpec := { name := "grantApart", fn := fun _ => fun
  | [d1, d2] => { results := [.lit (.bool true)], args := [d1, d2] }
  | _ => none }
def grantApartRow : OpenClaim := { program := "ytnilcmmilplbgaa", sum := "7e0c86f509a15ac660bc31043a35af5340e0eb2a64f4aa11b4a2687aef60120c", func := "warder/warderlaw12.GrantApart", spec := "grantApart", unfollowed := true, recurses := true, apart := false }
def GrantApartSaid : Prop := grantApartRow.holds Try.pinned (OpenSpec.ofChange grantApartSpec)

/-- ITS FALSE NEIGHBOUR: 'it returns false'. Refute it at one input. -/
def grantApartWrong : ChangeSpec := { name := "grantApart", fn := fun _ => fun
  | [d1, d2] => { results := [.lit (.bool false)], args := [d1, d2] }
  | _ => none }
def GrantApartWrongFalsely : Prop := grantApartRow.holds Try.pinned (OpenSpec.ofChange grantApartWrong)

/-- 'warderlaw12.GrantPages': WHATEVER THE INPUT: true; the input reads as it did. -/
def grantPagesSpec : ChangeSpec := { name := "grantPages", fn := fun _ => fun
  | [d1, d2] => { results := [.lit (.bool true)], args := [d1, d2] }
  | _ => none }
def grantPagesRow : OpenClaim := { program := "ytnilcmmilplbgaa", sum := "7e0c86f509a15ac660bc31043a35af5340e0eb2a64f4aa11b4a2687aef60120c", func := "warder/warderlaw12.GrantPages", spec := "grantPages", unfollowed := true, recurses := true, apart := false }
def GrantPagesSaid : Prop := grantPagesRow.holds Try.pinned (OpenSpec.ofChange grantPagesSpec)

/-- ITS FALSE NEIGHBOUR: 'it returns false'. Refute it at one input. -/
def grantPagesWrong : ChangeSpec := { name := "grantPages", fn := fun _ => fun
  | [d1, d2] => { results := [.lit (.bool false)], args := [d1, d2] }
  | _ => none }
def GrantPagesWrongFalsely : Prop := grantPagesRow.holds Try.pinned (OpenSpec.ofChange grantPagesWrong)

/- THE SECOND FORM. 'bulk': how many values and letters a reading holds, each counted each time it is reached (what is shared counts as often as it is met; a slice's spare places count too). A statement '..UptoSaid' is the law's where the arguments, and the package variables that the reading takes, are together of bulk at most 1048576: NARROWER than '..Said'. Prove '..Said' where nothing that the law and all that it calls make is longer than what came in: it says more and counts as full. Else prove '..UptoSaid'. A law counts once. -/
mutual
def uptoBulk {H : Type} : DataW H → Nat
  | .lit (.string bytes) => bytes.length + 1
  | .lit _ => 1
  | .nil => 1
  | .ptr d => uptoBulk d + 1
  | .slice elems spare => uptoBulkAll elems + uptoBulkAll spare + 1
  | .agg parts => uptoBulkAll parts + 1
  | .iface _ d => uptoBulk d + 1
  | .map entries => uptoBulkEntries entries + 1
  | .held _ => 1
def uptoBulkAll {H : Type} : List (DataW H) → Nat
  | [] => 0
  | d :: r => uptoBulk d + uptoBulkAll r
def uptoBulkEntries {H : Type} : List (Lit × DataW H) → Nat
  | [] => 0
  | x :: r => uptoBulkEntry x + uptoBulkEntries r
def uptoBulkEntry {H : Type} : Lit × DataW H → Nat
  | (.string bytes, d) => bytes.length + uptoBulk d + 1
  | (_, d) => uptoBulk d + 1
 end
def uptoSmall : (H : Type) → List (DataW H) → Bool := fun _ ds => decide (uptoBulkAll ds ≤ 1048576)
def OpenSpec.upto (s : _root_.Go.ChangeSpec) : _root_.Go.OpenSpec := { _root_.Go.OpenSpec.ofChange s with cond := some uptoSmall }

/-- 'warderlaw12.GrantCalls', WHERE WHAT IT READS IS OF BULK AT MOST 1048576: true; the input reads as it did. -/
def grantCallsUptoRow : OpenClaim := { program := "ytnilcmmilplbgaa", sum := "7e0c86f509a15ac660bc31043a35af5340e0eb2a64f4aa11b4a2687aef60120c", func := "warder/warderlaw12.GrantCalls", spec := "grantCalls", unfollowed := true, recurses := true, apart := false, narrowed := true }
def GrantCallsUptoSaid : Prop := grantCallsUptoRow.holds Try.pinned (OpenSpec.upto grantCallsSpec)

/-- 'warderlaw12.GrantMay', WHERE WHAT IT READS IS OF BULK AT MOST 1048576: true; the input reads as it did. -/
def grantMayUptoRow : OpenClaim := { program := "ytnilcmmilplbgaa", sum := "7e0c86f509a15ac660bc31043a35af5340e0eb2a64f4aa11b4a2687aef60120c", func := "warder/warderlaw12.GrantMay", spec := "grantMay", unfollowed := true, recurses := true, apart := false, narrowed := true }
def GrantMayUptoSaid : Prop := grantMayUptoRow.holds Try.pinned (OpenSpec.upto grantMaySpec)

/-- 'warderlaw12.GrantAll', WHERE WHAT IT READS IS OF BULK AT MOST 1048576: true; the input reads as it did. -/
def grantAllUptoRow : OpenClaim := { program := "ytnilcmmilplbgaa", sum := "7e0c86f509a15ac660bc31043a35af5340e0eb2a64f4aa11b4a2687aef60120c", func := "warder/warderlaw12.GrantAll", spec := "grantAll", unfollowed := true, recurses := true, apart := false, narrowed := true }
def GrantAllUptoSaid : Prop := grantAllUptoRow.holds Try.pinned (OpenSpec.upto grantAllSpec)

/-- 'warderlaw12.GrantApart', WHERE WHAT IT READS IS OF BULK AT MOST 1048576: true; the input reads as it did. -/
def grantApartUptoRow : OpenClaim := { program := "ytnilcmmilplbgaa", sum := "7e0c86f509a15ac660bc31043a35af5340e0eb2a64f4aa11b4a2687aef60120c", func := "warder/warderlaw12.GrantApart", spec := "grantApart", unfollowed := true, recurses := true, apart := false, narrowed := true }
def GrantApartUptoSaid : Prop := grantApartUptoRow.holds Try.pinned (OpenSpec.upto grantApartSpec)

/-- 'warderlaw12.GrantPages', WHERE WHAT IT READS IS OF BULK AT MOST 1048576: true; the input reads as it did. -/
def grantPagesUptoRow : OpenClaim := { program := "ytnilcmmilplbgaa", sum := "7e0c86f509a15ac660bc31043a35af5340e0eb2a64f4aa11b4a2687aef60120c", func := "warder/warderlaw12.GrantPages", spec := "grantPages", unfollowed := true, recurses := true, apart := false, narrowed := true }
def GrantPagesUptoSaid : Prop := grantPagesUptoRow.holds Try.pinned (OpenSpec.upto grantPagesSpec)

end Rows
end Go.Proofs.Ytnilcmmilplbgaa
