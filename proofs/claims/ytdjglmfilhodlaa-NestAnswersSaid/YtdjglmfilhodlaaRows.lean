/-
  No cell of these rows narrows 'for every input' (looked for: loops, veiled, ifaces, maps, wideKeys, modest, calm, conditions, laid).
  DERIVED. THE GIVEN ROWS OF THIS SEAT. 5 by the template 'for every input the law returns true; each argument reads behind the call as it read before'; 0 by the template 'total and deterministic' (their statements: YtdjglmfilhodlaaTotals.lean).
  GIVEN WITH THE SEED: the statements are not yours to turn. If you find one false, say at which input.
  Laid BY PROGRAM, IN A SANDBOX (cutbox-rows.mjs): the forced cells as the released guide's own fill.sh prints them over the translation e989e08d4e99dc96… (all of the seat's roots in one cut). By AI agents, Wed Nov 11 2026. No macro, syntax, notation, axiom, sorry.
-/
import Derived.Test.YtdjglmfilhodlaaChecked
import GoSem.Claim
import GoSem.ClaimJoined
import GoSem.ClaimMapViews
import Derived.JoinedTies
import Derived.KernelRfl
namespace Go.Proofs.Ytdjglmfilhodlaa
/- THE CELL 'sum', in the pinned program and in every row, IS THE sha256 OF THE DUMP (.gsa) THAT YtdjglmfilhodlaaProg.lean LOADS. Nothing in Lean hashes anything: it is a label: what it is worth is what the hold of that sum in a sandbox is worth. -/
noncomputable def Try.pinned : Pinned := { name := "ytdjglmfilhodlaa", sum := "e989e08d4e99dc96cef77681d3ff5b02fa1144c4fe607c0b837285b07251fb3f", checked := Try.checked }
namespace Rows
def none {H : Type} : Left H := { results := [], args := [] }

/-- 'warderlaw08.NestAnswers': WHATEVER THE INPUT: true; the input reads as it did. -/
def nestAnswersSpec : ChangeSpec := { name := "nestAnswers", fn := fun _ => fun
  | [d1, d2, d3, d4, d5, d6] => { results := [.lit (.bool true)], args := [d1, d2, d3, d4, d5, d6] }
  | _ => none }
def nestAnswersRow : OpenClaim := { program := "ytdjglmfilhodlaa", sum := "e989e08d4e99dc96cef77681d3ff5b02fa1144c4fe607c0b837285b07251fb3f", func := "warder/warderlaw08.NestAnswers", spec := "nestAnswers", unfollowed := true, recurses := true, apart := false }
def NestAnswersSaid : Prop := nestAnswersRow.holds Try.pinned (OpenSpec.ofChange nestAnswersSpec)

/-- ITS FALSE NEIGHBOUR: 'it returns false'. Refute it at one input. -/
def nestAnswersWrong : ChangeSpec := { name := "nestAnswers", fn := fun _ => fun
  | [d1, d2, d3, d4, d5, d6] => { results := [.lit (.bool false)], args := [d1, d2, d3, d4, d5, d6] }
  | _ => none }
def NestAnswersWrongFalsely : Prop := nestAnswersRow.holds Try.pinned (OpenSpec.ofChange nestAnswersWrong)

/-- 'warderlaw08.NestReach': WHATEVER THE INPUT: true; the input reads as it did. -/
def nestReachSpec : ChangeSpec := { name := "nestReach", fn := fun _ => fun
  | [d1, d2, d3, d4, d5, d6] => { results := [.lit (.bool true)], args := [d1, d2, d3, d4, d5, d6] }
  | _ => none }
def nestReachRow : OpenClaim := { program := "ytdjglmfilhodlaa", sum := "e989e08d4e99dc96cef77681d3ff5b02fa1144c4fe607c0b837285b07251fb3f", func := "warder/warderlaw08.NestReach", spec := "nestReach", unfollowed := true, recurses := true, apart := false }
def NestReachSaid : Prop := nestReachRow.holds Try.pinned (OpenSpec.ofChange nestReachSpec)

/-- ITS FALSE NEIGHBOUR: 'it returns false'. Refute it at one input. -/
def nestReachWrong : ChangeSpec := { name := "nestReach", fn := fun _ => fun
  | [d1, d2, d3, d4, d5, d6] => { results := [.lit (.bool false)], args := [d1, d2, d3, d4, d5, d6] }
  | _ => none }
def NestReachWrongFalsely : Prop := nestReachRow.holds Try.pinned (OpenSpec.ofChange nestReachWrong)

/-- 'warderlaw08.NestTables': WHATEVER THE INPUT: true; the input reads as it did. -/
def nestTablesSpec : ChangeSpec := { name := "nestTables", fn := fun _ => fun
  | [d1, d2, d3, d4, d5, d6] => { results := [.lit (.bool true)], args := [d1, d2, d3, d4, d5, d6] }
  | _ => none }
def nestTablesRow : OpenClaim := { program := "ytdjglmfilhodlaa", sum := "e989e08d4e99dc96cef77681d3ff5b02fa1144c4fe607c0b837285b07251fb3f", func := "warder/warderlaw08.NestTables", spec := "nestTables", unfollowed := true, recurses := true, apart := false }
def NestTablesSaid : Prop := nestTablesRow.holds Try.pinned (OpenSpec.ofChange nestTablesSpec)

/-- ITS FALSE NEIGHBOUR: 'it returns false'. Refute it at one input. -/
def nestTablesWrong : ChangeSpec := { name := "nestTables", fn := fun _ => fun
  | [d1, d2, d3, d4, d5, d6] => { results := [.lit (.bool false)], args := [d1, d2, d3, d4, d5, d6] }
  | _ => none }
def NestTablesWrongFalsely : Prop := nestTablesRow.holds Try.pinned (OpenSpec.ofChange nestTablesWrong)

/-- 'warderlaw08.NestOff': WHATEVER THE INPUT: true; the input reads as it did. -/
def nestOffSpec : ChangeSpec := { name := "nestOff", fn := fun _ => fun
  | [d1, d2, d3] => { results := [.lit (.bool true)], args := [d1, d2, d3] }
  | _ => none }
def nestOffRow : OpenClaim := { program := "ytdjglmfilhodlaa", sum := "e989e08d4e99dc96cef77681d3ff5b02fa1144c4fe607c0b837285b07251fb3f", func := "warder/warderlaw08.NestOff", spec := "nestOff", unfollowed := true, recurses := true, apart := false }
def NestOffSaid : Prop := nestOffRow.holds Try.pinned (OpenSpec.ofChange nestOffSpec)

/-- ITS FALSE NEIGHBOUR: 'it returns false'. Refute it at one input. -/
def nestOffWrong : ChangeSpec := { name := "nestOff", fn := fun _ => fun
  | [d1, d2, d3] => { results := [.lit (.bool false)], args := [d1, d2, d3] }
  | _ => none }
def NestOffWrongFalsely : Prop := nestOffRow.holds Try.pinned (OpenSpec.ofChange nestOffWrong)

/-- 'warderlaw08.NestRights': WHATEVER THE INPUT: true; the input reads as it did. -/
def nestRightsSpec : ChangeSpec := { name := "nestRights", fn := fun _ => fun
  | [d1, d2, d3] => { results := [.lit (.bool true)], args := [d1, d2, d3] }
  | _ => none }
def nestRightsRow : OpenClaim := { program := "ytdjglmfilhodlaa", sum := "e989e08d4e99dc96cef77681d3ff5b02fa1144c4fe607c0b837285b07251fb3f", func := "warder/warderlaw08.NestRights", spec := "nestRights", unfollowed := true, recurses := true, apart := false }
def NestRightsSaid : Prop := nestRightsRow.holds Try.pinned (OpenSpec.ofChange nestRightsSpec)

/-- ITS FALSE NEIGHBOUR: 'it returns false'. Refute it at one input. -/
def nestRightsWrong : ChangeSpec := { name := "nestRights", fn := fun _ => fun
  | [d1, d2, d3] => { results := [.lit (.bool false)], args := [d1, d2, d3] }
  | _ => none }
def NestRightsWrongFalsely : Prop := nestRightsRow.holds Try.pinned (OpenSpec.ofChange nestRightsWrong)

/- THE SECOND FORM. 'bulk': how many values and letters a reading holds, each counted each time it is reached (what is shared counts as often as it is met; a slice's spare places count too). A statement '..UptoSaid' is the law's where the arguments, and the package variables that the reading takes, are together of bulk at most 1048576: NARROWER than '..Said'. Prove '..Said' where nothing that the law and all that it calls make is longer than what came in: it says more and counts as full. Else prove '..UptoSaid'. A law counts once. -/
mutual
def uptoBulk {H : Type} : DataW H → Nat
  | .lit (.string bytes) => bytes.length + 1
  | .lit _ => 1
  | .nil => 1
  | .ptr d => uptoBulk d + 1
  | .slice elems spare => uptoBulkAll elems + uptoBulkAll spare + 1
  | .agg parts => uptoBulkAll parts + 1
  | .iface _ d => uptoBulk d + 1
  | .map entries => uptoBulkEntries entries + 1
  | .held _ => 1
def uptoBulkAll {H : Type} : List (DataW H) → Nat
  | [] => 0
  | d :: r => uptoBulk d + uptoBulkAll r
def uptoBulkEntries {H : Type} : List (Lit × DataW H) → Nat
  | [] => 0
  | x :: r => uptoBulkEntry x + uptoBulkEntries r
def uptoBulkEntry {H : Type} : Lit × DataW H → Nat
  | (.string bytes, d) => bytes.length + uptoBulk d + 1
  | (_, d) => uptoBulk d + 1
 end
def uptoSmall : (H : Type) → List (DataW H) → Bool := fun _ ds => decide (uptoBulkAll ds ≤ 1048576)
def OpenSpec.upto (s : _root_.Go.ChangeSpec) : _root_.Go.OpenSpec := { _root_.Go.OpenSpec.ofChange s with cond := some uptoSmall }

/-- 'warderlaw08.NestAnswers', WHERE WHAT IT READS IS OF BULK AT MOST 1048576: true; the input reads as it did. -/
def nestAnswersUptoRow : OpenClaim := { program := "ytdjglmfilhodlaa", sum := "e989e08d4e99dc96cef77681d3ff5b02fa1144c4fe607c0b837285b07251fb3f", func := "warder/warderlaw08.NestAnswers", spec := "nestAnswers", unfollowed := true, recurses := true, apart := false, narrowed := true }
def NestAnswersUptoSaid : Prop := nestAnswersUptoRow.holds Try.pinned (OpenSpec.upto nestAnswersSpec)

/-- 'warderlaw08.NestReach', WHERE WHAT IT READS IS OF BULK AT MOST 1048576: true; the input reads as it did. -/
def nestReachUptoRow : OpenClaim := { program := "ytdjglmfilhodlaa", sum := "e989e08d4e99dc96cef77681d3ff5b02fa1144c4fe607c0b837285b07251fb3f", func := "warder/warderlaw08.NestReach", spec := "nestReach", unfollowed := true, recurses := true, apart := false, narrowed := true }
def NestReachUptoSaid : Prop := nestReachUptoRow.holds Try.pinned (OpenSpec.upto nestReachSpec)

/-- 'warderlaw08.NestTables', WHERE WHAT IT READS IS OF BULK AT MOST 1048576: true; the input reads as it did. -/
def nestTablesUptoRow : OpenClaim := { program := "ytdjglmfilhodlaa", sum := "e989e08d4e99dc96cef77681d3ff5b02fa1144c4fe607c0b837285b07251fb3f", func := "warder/warderlaw08.NestTables", spec := "nestTables", unfollowed := true, recurses := true, apart := false, narrowed := true }
def NestTablesUptoSaid : Prop := nestTablesUptoRow.holds Try.pinned (OpenSpec.upto nestTablesSpec)

/-- 'warderlaw08.NestOff', WHERE WHAT IT READS IS OF BULK AT MOST 1048576: true; the input reads as it did. -/
def nestOffUptoRow : OpenClaim := { program := "ytdjglmfilhodlaa", sum := "e989e08d4e99dc96cef77681d3ff5b02fa1144c4fe607c0b837285b07251fb3f", func := "warder/warderlaw08.NestOff", spec := "nestOff", unfollowed := true, recurses := true, apart := false, narrowed := true }
def NestOffUptoSaid : Prop := nestOffUptoRow.holds Try.pinned (OpenSpec.upto nestOffSpec)

/-- 'warderlaw08.NestRights', WHERE WHAT IT READS IS OF BULK AT MOST 1048576: true; the input reads as it did. -/
def nestRightsUptoRow : OpenClaim := { program := "ytdjglmfilhodlaa", sum := "e989e08d4e99dc96cef77681d3ff5b02fa1144c4fe607c0b837285b07251fb3f", func := "warder/warderlaw08.NestRights", spec := "nestRights", unfollowed := true, recurses := true, apart := false, narrowed := true }
def NestRightsUptoSaid : Prop := nestRightsUptoRow.holds Try.pinned (OpenSpec.upto nestRightsSpec)

end Rows
end Go.Proofs.Ytdjglmfilhodlaa
