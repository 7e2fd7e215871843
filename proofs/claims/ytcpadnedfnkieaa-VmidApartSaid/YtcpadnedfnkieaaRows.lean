/-
  No cell of these rows narrows 'for every input' (looked for: loops, veiled, ifaces, maps, wideKeys, modest, calm, conditions, laid).
  DERIVED. THE GIVEN ROWS OF THIS SEAT. 4 by the template 'for every input the law returns true; each argument reads behind the call as it read before'; 0 by the template 'total and deterministic' (their statements: YtcpadnedfnkieaaTotals.lean).
  GIVEN WITH THE SEED: the statements are not yours to turn. If you find one false, say at which input.
  Laid BY PROGRAM, IN A SANDBOX (cutbox-rows.mjs): the forced cells as the released guide's own fill.sh prints them over the translation f14d384d5b36c82d… (all of the seat's roots in one cut). By AI agents, Wed Nov 11 2026. No macro, syntax, notation, axiom, sorry.
-/
import Derived.Test.YtcpadnedfnkieaaChecked
import GoSem.Claim
import GoSem.ClaimJoined
import GoSem.ClaimMapViews
import Derived.JoinedTies
import Derived.KernelRfl
namespace Go.Proofs.Ytcpadnedfnkieaa
/- THE CELL 'sum', in the pinned program and in every row, IS THE sha256 OF THE DUMP (.gsa) THAT YtcpadnedfnkieaaProg.lean LOADS. Nothing in Lean hashes anything: it is a label: what it is worth is what the hold of that sum in a sandbox is worth. -/
noncomputable def Try.pinned : Pinned := { name := "ytcpadnedfnkieaa", sum := "f14d384d5b36c82da7cdd25d9bb0573f362b472031e302b532ecf7ae6b48c44c", checked := Try.checked }
namespace Rows
def none {H : Type} : Left H := { results := [], args := [] }

/-- 'warderlaw13.VmidCalls': WHATEVER THE INPUT: true; the input reads as it did. -/
def vmidCallsSpec : ChangeSpec := { name := "vmidCalls", fn := fun _ => fun
  | [d1, d2, d3] => { results := [.lit (.bool true)], args := [d1, d2, d3] }
  | _ => none }
def vmidCallsRow : OpenClaim := { program := "ytcpadnedfnkieaa", sum := "f14d384d5b36c82da7cdd25d9bb0573f362b472031e302b532ecf7ae6b48c44c", func := "warder/warderlaw13.VmidCalls", spec := "vmidCalls", unfollowed := true, recurses := true, plainKeys := false, apart := false }
def VmidCallsSaid : Prop := vmidCallsRow.holds Try.pinned (OpenSpec.ofChange vmidCallsSpec)

/-- ITS FALSE NEIGHBOUR: 'it returns false'. Refute it at one input. -/
def vmidCallsWrong : ChangeSpec := { name := "vmidCalls", fn := fun _ => fun
  | [d1, d2, d3] => { results := [.lit (.bool false)], args := [d1, d2, d3] }
  | _ => none }
def VmidCallsWrongFalsely : Prop := vmidCallsRow.holds Try.pinned (OpenSpec.ofChange vmidCallsWrong)

/-- 'warderlaw13.VmidApart': WHATEVER THE INPUT: true; the input reads as it did. -/
def vmidApartSpec : ChangeSpec := { name := "vmidApart", fn := fun _ => fun
  | [d1, d2] => { results := [.lit (.bool true)], args := [d1, d2] }
  | _ => none }
def vmidApartRow : OpenClaim := { program := "ytcpadnedfnkieaa", sum := "f14d384d5b36c82da7cdd25d9bb0573f362b472031e302b532ecf7ae6b48c44c", func := "warder/warderlaw13.VmidApart", spec := "vmidApart", unfollowed := true, recurses := true, plainKeys := false, apart := false }
def VmidApartSaid : Prop := vmidApartRow.holds Try.pinned (OpenSpec.ofChange vmidApartSpec)

/-- ITS FALSE NEIGHBOUR: 'it returns false'. Refute it at one input. -/
def vmidApartWrong : ChangeSpec := { name := "vmidApart", fn := fun _ => fun
  | [d1, d2] => { results := [.lit (.bool false)], args := [d1, d2] }
  | _ => none }
def VmidApartWrongFalsely : Prop := vmidApartRow.holds Try.pinned (OpenSpec.ofChange vmidApartWrong)

/-- 'warderlaw13.VmidAll': WHATEVER THE INPUT: true; the input reads as it did. -/
def vmidAllSpec : ChangeSpec := { name := "vmidAll", fn := fun _ => fun
  | [d1, d2] => { results := [.lit (.bool true)], args := [d1, d2] }
  | _ => none }
def vmidAllRow : OpenClaim := { program := "ytcpadnedfnkieaa", sum := "f14d384d5b36c82da7cdd25d9bb0573f362b472031e302b532ecf7ae6b48c44c", func := "warder/warderlaw13.VmidAll", spec := "vmidAll", unfollowed := true, recurses := true, plainKeys := false, apart := false }
def VmidAllSaid : Prop := vmidAllRow.holds Try.pinned (OpenSpec.ofChange vmidAllSpec)

/-- ITS FALSE NEIGHBOUR: 'it returns false'. Refute it at one input. -/
def vmidAllWrong : ChangeSpec := { name := "vmidAll", fn := fun _ => fun
  | [d1, d2] => { results := [.lit (.bool false)], args := [d1, d2] }
  | _ => none }
def VmidAllWrongFalsely : Prop := vmidAllRow.holds Try.pinned (OpenSpec.ofChange vmidAllWrong)

/-- 'warderlaw13.VmidStale': WHATEVER THE INPUT: true; the input reads as it did. -/
def vmidStaleSpec : ChangeSpec := { name := "vmidStale", fn := fun _ => fun
  | [d1, d2] => { results := [.lit (.bool true)], args := [d1, d2] }
  | _ => none }
def vmidStaleRow : OpenClaim := { program := "ytcpadnedfnkieaa", sum := "f14d384d5b36c82da7cdd25d9bb0573f362b472031e302b532ecf7ae6b48c44c", func := "warder/warderlaw13.VmidStale", spec := "vmidStale", unfollowed := true, recurses := true, plainKeys := false, apart := false }
def VmidStaleSaid : Prop := vmidStaleRow.holds Try.pinned (OpenSpec.ofChange vmidStaleSpec)

/-- ITS FALSE NEIGHBOUR: 'it returns false'. Refute it at one input. -/
def vmidStaleWrong : ChangeSpec := { name := "vmidStale", fn := fun _ => fun
  | [d1, d2] => { results := [.lit (.bool false)], args := [d1, d2] }
  | _ => none }
def VmidStaleWrongFalsely : Prop := vmidStaleRow.holds Try.pinned (OpenSpec.ofChange vmidStaleWrong)

/- THE SECOND FORM. 'bulk': how many values and letters a reading holds, each counted each time it is reached (what is shared counts as often as it is met; a slice's spare places count too). A statement '..UptoSaid' is the law's where the arguments, and the package variables that the reading takes, are together of bulk at most 1048576: NARROWER than '..Said'. Prove '..Said' where nothing that the law and all that it calls make is longer than what came in: it says more and counts as full. Else prove '..UptoSaid'. A law counts once. -/
mutual
def uptoBulk {H : Type} : DataW H → Nat
  | .lit (.string bytes) => bytes.length + 1
  | .lit _ => 1
  | .nil => 1
  | .ptr d => uptoBulk d + 1
  | .slice elems spare => uptoBulkAll elems + uptoBulkAll spare + 1
  | .agg parts => uptoBulkAll parts + 1
  | .iface _ d => uptoBulk d + 1
  | .map entries => uptoBulkEntries entries + 1
  | .held _ => 1
def uptoBulkAll {H : Type} : List (DataW H) → Nat
  | [] => 0
  | d :: r => uptoBulk d + uptoBulkAll r
def uptoBulkEntries {H : Type} : List (Lit × DataW H) → Nat
  | [] => 0
  | x :: r => uptoBulkEntry x + uptoBulkEntries r
def uptoBulkEntry {H : Type} : Lit × DataW H → Nat
  | (.string bytes, d) => bytes.length + uptoBulk d + 1
  | (_, d) => uptoBulk d + 1
 end
def uptoSmall : (H : Type) → List (DataW H) → Bool := fun _ ds => decide (uptoBulkAll ds ≤ 1048576)
def OpenSpec.upto (s : _root_.Go.ChangeSpec) : _root_.Go.OpenSpec := { _root_.Go.OpenSpec.ofChange s with cond := some uptoSmall }

/-- 'warderlaw13.VmidCalls', WHERE WHAT IT READS IS OF BULK AT MOST 1048576: true; the input reads as it did. -/
def vmidCallsUptoRow : OpenClaim := { program := "ytcpadnedfnkieaa", sum := "f14d384d5b36c82da7cdd25d9bb0573f362b472031e302b532ecf7ae6b48c44c", func := "warder/warderlaw13.VmidCalls", spec := "vmidCalls", unfollowed := true, recurses := true, plainKeys := false, apart := false, narrowed := true }
def VmidCallsUptoSaid : Prop := vmidCallsUptoRow.holds Try.pinned (OpenSpec.upto vmidCallsSpec)

/-- 'warderlaw13.VmidApart', WHERE WHAT IT READS IS OF BULK AT MOST 1048576: true; the input reads as it did. -/
def vmidApartUptoRow : OpenClaim := { program := "ytcpadnedfnkieaa", sum := "f14d384d5b36c82da7cdd25d9bb0573f362b472031e302b532ecf7ae6b48c44c", func := "warder/warderlaw13.VmidApart", spec := "vmidApart", unfollowed := true, recurses := true, plainKeys := false, apart := false, narrowed := true }
def VmidApartUptoSaid : Prop := vmidApartUptoRow.holds Try.pinned (OpenSpec.upto vmidApartSpec)

/-- 'warderlaw13.VmidAll', WHERE WHAT IT READS IS OF BULK AT MOST 1048576: true; the input reads as it did. -/
def vmidAllUptoRow : OpenClaim := { program := "ytcpadnedfnkieaa", sum := "f14d384d5b36c82da7cdd25d9bb0573f362b472031e302b532ecf7ae6b48c44c", func := "warder/warderlaw13.VmidAll", spec := "vmidAll", unfollowed := true, recurses := true, plainKeys := false, apart := false, narrowed := true }
def VmidAllUptoSaid : Prop := vmidAllUptoRow.holds Try.pinned (OpenSpec.upto vmidAllSpec)

/-- 'warderlaw13.VmidStale', WHERE WHAT IT READS IS OF BULK AT MOST 1048576: true; the input reads as it did. -/
def vmidStaleUptoRow : OpenClaim := { program := "ytcpadnedfnkieaa", sum := "f14d384d5b36c82da7cdd25d9bb0573f362b472031e302b532ecf7ae6b48c44c", func := "warder/warderlaw13.VmidStale", spec := "vmidStale", unfollowed := true, recurses := true, plainKeys := false, apart := false, narrowed := true }
def VmidStaleUptoSaid : Prop := vmidStaleUptoRow.holds Try.pinned (OpenSpec.upto vmidStaleSpec)

end Rows
end Go.Proofs.Ytcpadnedfnkieaa
