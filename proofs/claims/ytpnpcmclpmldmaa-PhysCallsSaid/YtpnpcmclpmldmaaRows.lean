/-
  No cell of these rows narrows 'for every input' (looked for: loops, veiled, ifaces, maps, wideKeys, modest, calm, conditions, laid).
  DERIVED. THE GIVEN ROWS OF THIS SEAT. 5 by the template 'for every input the law returns true; each argument reads behind the call as it read before'; 0 by the template 'total and deterministic' (their statements: YtpnpcmclpmldmaaTotals.lean).
  GIVEN WITH THE SEED: the statements are not yours to turn. If you find one false, say at which input.
  Laid BY PROGRAM, IN A SANDBOX (cutbox-rows.mjs): the forced cells as the released guide's own fill.sh prints them over the translation af06545d6ec3269d… (all of the seat's roots in one cut). By AI agents, Wed Nov 11 2026. No macro, syntax, notation, axiom, sorry.
-/
import Derived.Test.YtpnpcmclpmldmaaChecked
import GoSem.Claim
import GoSem.ClaimJoined
import GoSem.ClaimMapViews
import Derived.JoinedTies
import Derived.KernelRfl
namespace Go.Proofs.Ytpnpcmclpmldmaa
/- THE CELL 'sum', in the pinned program and in every row, IS THE sha256 OF THE DUMP (.gsa) THAT YtpnpcmclpmldmaaProg.lean LOADS. Nothing in Lean hashes anything: it is a label: what it is worth is what the hold of that sum in a sandbox is worth. -/
noncomputable def Try.pinned : Pinned := { name := "ytpnpcmclpmldmaa", sum := "af06545d6ec3269d53ddc76832a0c5fe787d975b0490d7d9c71cc3499edd8d0c", checked := Try.checked }
namespace Rows
def none {H : Type} : Left H := { results := [], args := [] }

/-- 'warderlaw04.PhysCalls': WHATEVER THE INPUT: true; the input reads as it did. -/
def physCallsSpec : ChangeSpec := { name := "physCalls", fn := fun _ => fun
  | [d1, d2, d3, d4] => { results := [.lit (.bool true)], args := [d1, d2, d3, d4] }
  | _ => none }
def physCallsRow : OpenClaim := { program := "ytpnpcmclpmldmaa", sum := "af06545d6ec3269d53ddc76832a0c5fe787d975b0490d7d9c71cc3499edd8d0c", func := "warder/warderlaw04.PhysCalls", spec := "physCalls", apart := false }
def PhysCallsSaid : Prop := physCallsRow.holds Try.pinned (OpenSpec.ofChange physCallsSpec)

/-- ITS FALSE NEIGHBOUR: 'it returns false'. Refute it at one input. -/
def physCallsWrong : ChangeSpec := { name := "physCalls", fn := fun _ => fun
  | [d1, d2, d3, d4] => { results := [.lit (.bool false)], args := [d1, d2, d3, d4] }
  | _ => none }
def PhysCallsWrongFalsely : Prop := physCallsRow.holds Try.pinned (OpenSpec.ofChange physCallsWrong)

/-- 'warderlaw04.PhysClones': WHATEVER THE INPUT: true; the input reads as it did. -/
def physClonesSpec : ChangeSpec := { name := "physClones", fn := fun _ => fun
  | [d1, d2, d3] => { results := [.lit (.bool true)], args := [d1, d2, d3] }
  | _ => none }
def physClonesRow : OpenClaim := { program := "ytpnpcmclpmldmaa", sum := "af06545d6ec3269d53ddc76832a0c5fe787d975b0490d7d9c71cc3499edd8d0c", func := "warder/warderlaw04.PhysClones", spec := "physClones", apart := false }
def PhysClonesSaid : Prop := physClonesRow.holds Try.pinned (OpenSpec.ofChange physClonesSpec)

/-- ITS FALSE NEIGHBOUR: 'it returns false'. Refute it at one input. -/
def physClonesWrong : ChangeSpec := { name := "physClones", fn := fun _ => fun
  | [d1, d2, d3] => { results := [.lit (.bool false)], args := [d1, d2, d3] }
  | _ => none }
def PhysClonesWrongFalsely : Prop := physClonesRow.holds Try.pinned (OpenSpec.ofChange physClonesWrong)

/-- 'warderlaw04.PhysWords': WHATEVER THE INPUT: true; the input reads as it did. -/
def physWordsSpec : ChangeSpec := { name := "physWords", fn := fun _ => fun
  | [d1, d2, d3] => { results := [.lit (.bool true)], args := [d1, d2, d3] }
  | _ => none }
def physWordsRow : OpenClaim := { program := "ytpnpcmclpmldmaa", sum := "af06545d6ec3269d53ddc76832a0c5fe787d975b0490d7d9c71cc3499edd8d0c", func := "warder/warderlaw04.PhysWords", spec := "physWords", apart := false }
def PhysWordsSaid : Prop := physWordsRow.holds Try.pinned (OpenSpec.ofChange physWordsSpec)

/-- ITS FALSE NEIGHBOUR: 'it returns false'. Refute it at one input. -/
def physWordsWrong : ChangeSpec := { name := "physWords", fn := fun _ => fun
  | [d1, d2, d3] => { results := [.lit (.bool false)], args := [d1, d2, d3] }
  | _ => none }
def PhysWordsWrongFalsely : Prop := physWordsRow.holds Try.pinned (OpenSpec.ofChange physWordsWrong)

/-- 'warderlaw04.PhysApart': WHATEVER THE INPUT: true; the input reads as it did. -/
def physApartSpec : ChangeSpec := { name := "physApart", fn := fun _ => fun
  | [d1, d2, d3] => { results := [.lit (.bool true)], args := [d1, d2, d3] }
  | _ => none }
def physApartRow : OpenClaim := { program := "ytpnpcmclpmldmaa", sum := "af06545d6ec3269d53ddc76832a0c5fe787d975b0490d7d9c71cc3499edd8d0c", func := "warder/warderlaw04.PhysApart", spec := "physApart", apart := false }
def PhysApartSaid : Prop := physApartRow.holds Try.pinned (OpenSpec.ofChange physApartSpec)

/-- ITS FALSE NEIGHBOUR: 'it returns false'. Refute it at one input. -/
def physApartWrong : ChangeSpec := { name := "physApart", fn := fun _ => fun
  | [d1, d2, d3] => { results := [.lit (.bool false)], args := [d1, d2, d3] }
  | _ => none }
def PhysApartWrongFalsely : Prop := physApartRow.holds Try.pinned (OpenSpec.ofChange physApartWrong)

/-- 'warderlaw04.PhysFills': WHATEVER THE INPUT: true; the input reads as it did. -/
def physFillsSpec : ChangeSpec := { name := "physFills", fn := fun _ => fun
  | [d1, d2, d3] => { results := [.lit (.bool true)], args := [d1, d2, d3] }
  | _ => none }
def physFillsRow : OpenClaim := { program := "ytpnpcmclpmldmaa", sum := "af06545d6ec3269d53ddc76832a0c5fe787d975b0490d7d9c71cc3499edd8d0c", func := "warder/warderlaw04.PhysFills", spec := "physFills", apart := false }
def PhysFillsSaid : Prop := physFillsRow.holds Try.pinned (OpenSpec.ofChange physFillsSpec)

/-- ITS FALSE NEIGHBOUR: 'it returns false'. Refute it at one input. -/
def physFillsWrong : ChangeSpec := { name := "physFills", fn := fun _ => fun
  | [d1, d2, d3] => { results := [.lit (.bool false)], args := [d1, d2, d3] }
  | _ => none }
def PhysFillsWrongFalsely : Prop := physFillsRow.holds Try.pinned (OpenSpec.ofChange physFillsWrong)

/- THE SECOND FORM. 'bulk': how many values and letters a reading holds, each counted each time it is reached (what is shared counts as often as it is met; a slice's spare places count too). A statement '..UptoSaid' is the law's where the arguments, and the package variables that the reading takes, are together of bulk at most 1048576: NARROWER than '..Said'. Prove '..Said' where nothing that the law and all that it calls make is longer than what came in: it says more and counts as full. Else prove '..UptoSaid'. A law counts once. -/
mutual
def uptoBulk {H : Type} : DataW H → Nat
  | .lit (.string bytes) => bytes.length + 1
  | .lit _ => 1
  | .nil => 1
  | .ptr d => uptoBulk d + 1
  | .slice elems spare => uptoBulkAll elems + uptoBulkAll spare + 1
  | .agg parts => uptoBulkAll parts + 1
  | .iface _ d => uptoBulk d + 1
  | .map entries => uptoBulkEntries entries + 1
  | .held _ => 1
def uptoBulkAll {H : Type} : List (DataW H) → Nat
  | [] => 0
  | d :: r => uptoBulk d + uptoBulkAll r
def uptoBulkEntries {H : Type} : List (Lit × DataW H) → Nat
  | [] => 0
  | x :: r => uptoBulkEntry x + uptoBulkEntries r
def uptoBulkEntry {H : Type} : Lit × DataW H → Nat
  | (.string bytes, d) => bytes.length + uptoBulk d + 1
  | (_, d) => uptoBulk d + 1
 end
def uptoSmall : (H : Type) → List (DataW H) → Bool := fun _ ds => decide (uptoBulkAll ds ≤ 1048576)
def OpenSpec.upto (s : _root_.Go.ChangeSpec) : _root_.Go.OpenSpec := { _root_.Go.OpenSpec.ofChange s with cond := some uptoSmall }

/-- 'warderlaw04.PhysCalls', WHERE WHAT IT READS IS OF BULK AT MOST 1048576: true; the input reads as it did. -/
def physCallsUptoRow : OpenClaim := { program := "ytpnpcmclpmldmaa", sum := "af06545d6ec3269d53ddc76832a0c5fe787d975b0490d7d9c71cc3499edd8d0c", func := "warder/warderlaw04.PhysCalls", spec := "physCalls", apart := false, narrowed := true }
def PhysCallsUptoSaid : Prop := physCallsUptoRow.holds Try.pinned (OpenSpec.upto physCallsSpec)

/-- 'warderlaw04.PhysClones', WHERE WHAT IT READS IS OF BULK AT MOST 1048576: true; the input reads as it did. -/
def physClonesUptoRow : OpenClaim := { program := "ytpnpcmclpmldmaa", sum := "af06545d6ec3269d53ddc76832a0c5fe787d975b0490d7d9c71cc3499edd8d0c", func := "warder/warderlaw04.PhysClones", spec := "physClones", apart := false, narrowed := true }
def PhysClonesUptoSaid : Prop := physClonesUptoRow.holds Try.pinned (OpenSpec.upto physClonesSpec)

/-- 'warderlaw04.PhysWords', WHERE WHAT IT READS IS OF BULK AT MOST 1048576: true; the input reads as it did. -/
def physWordsUptoRow : OpenClaim := { program := "ytpnpcmclpmldmaa", sum := "af06545d6ec3269d53ddc76832a0c5fe787d975b0490d7d9c71cc3499edd8d0c", func := "warder/warderlaw04.PhysWords", spec := "physWords", apart := false, narrowed := true }
def PhysWordsUptoSaid : Prop := physWordsUptoRow.holds Try.pinned (OpenSpec.upto physWordsSpec)

/-- 'warderlaw04.PhysApart', WHERE WHAT IT READS IS OF BULK AT MOST 1048576: true; the input reads as it did. -/
def physApartUptoRow : OpenClaim := { program := "ytpnpcmclpmldmaa", sum := "af06545d6ec3269d53ddc76832a0c5fe787d975b0490d7d9c71cc3499edd8d0c", func := "warder/warderlaw04.PhysApart", spec := "physApart", apart := false, narrowed := true }
def PhysApartUptoSaid : Prop := physApartUptoRow.holds Try.pinned (OpenSpec.upto physApartSpec)

/-- 'warderlaw04.PhysFills', WHERE WHAT IT READS IS OF BULK AT MOST 1048576: true; the input reads as it did. -/
def physFillsUptoRow : OpenClaim := { program := "ytpnpcmclpmldmaa", sum := "af06545d6ec3269d53ddc76832a0c5fe787d975b0490d7d9c71cc3499edd8d0c", func := "warder/warderlaw04.PhysFills", spec := "physFills", apart := false, narrowed := true }
def PhysFillsUptoSaid : Prop := physFillsUptoRow.holds Try.pinned (OpenSpec.upto physFillsSpec)

end Rows
end Go.Proofs.Ytpnpcmclpmldmaa
