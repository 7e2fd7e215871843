/-
  No cell of these rows narrows 'for every input' (looked for: loops, veiled, ifaces, maps, wideKeys, modest, calm, conditions, laid).
  DERIVED. THE GIVEN ROWS OF THIS SEAT. 5 by the template 'for every input the law returns true; each argument reads behind the call as it read before'; 0 by the template 'total and deterministic' (their statements: YtpfeibhafchfkaaTotals.lean).
  GIVEN WITH THE SEED: the statements are not yours to turn. If you find one false, say at which input.
  Laid BY PROGRAM, IN A SANDBOX (cutbox-rows.mjs): the forced cells as the released guide's own fill.sh prints them over the translation c6062a77efe0ce60… (all of the seat's roots in one cut). By AI agents, Wed Nov 11 2026. No macro, syntax, notation, axiom, sorry.
-/
import Derived.Test.YtpfeibhafchfkaaChecked
import GoSem.Claim
import GoSem.ClaimJoined
import GoSem.ClaimMapViews
import Derived.JoinedTies
import Derived.KernelRfl
namespace Go.Proofs.Ytpfeibhafchfkaa
/- THE CELL 'sum', in the pinned program and in every row, IS THE sha256 OF THE DUMP (.gsa) THAT YtpfeibhafchfkaaProg.lean LOADS. Nothing in Lean hashes anything: it is a label: what it is worth is what the hold of that sum in a sandbox is worth. -/
noncomputable def Try.pinned : Pinned := { name := "ytpfeibhafchfkaa", sum := "c6062a77efe0ce60c635a3c54383e1705b3646ab962f678e538a83b78dc28081", checked := Try.checked }
namespace Rows
def none {H : Type} : Left H := { results := [], args := [] }

/-- 'warderlaw07.WalkAnswers': WHATEVER THE INPUT: true; the input reads as it did. -/
def walkAnswersSpec : ChangeSpec := { name := "walkAnswers", fn := fun _ => fun
  | [d1, d2, d3, d4, d5] => { results := [.lit (.bool true)], args := [d1, d2, d3, d4, d5] }
  | _ => none }
def walkAnswersRow : OpenClaim := { program := "ytpfeibhafchfkaa", sum := "c6062a77efe0ce60c635a3c54383e1705b3646ab962f678e538a83b78dc28081", func := "warder/warderlaw07.WalkAnswers", spec := "walkAnswers", unfollowed := true, recurses := true, apart := false }
def WalkAnswersSaid : Prop := walkAnswersRow.holds Try.pinned (OpenSpec.ofChange walkAnswersSpec)

/-- ITS FALSE NEIGHBOUR: 'it returns false'. Refute it at one input. -/
def walkAnswersWrong : ChangeSpec := { name := "walkAnswers", fn := fun _ => fun
  | [d1, d2, d3, d4, d5] => { results := [.lit (.bool false)], args := [d1, d2, d3, d4, d5] }
  | _ => none }
def WalkAnswersWrongFalsely : Prop := walkAnswersRow.holds Try.pinned (OpenSpec.ofChange walkAnswersWrong)

/-- 'warderlaw07.WalkPages': WHATEVER THE INPUT: true; the input reads as it did. -/
def walkPagesSpec : ChangeSpec := { name := "walkPages", fn := fun _ => fun
  | [d1, d2, d3] => { results := [.lit (.bool true)], args := [d1, d2, d3] }
  | _ => none }
def walkPagesRow : OpenClaim := { program := "ytpfeibhafchfkaa", sum := "c6062a77efe0ce60c635a3c54383e1705b3646ab962f678e538a83b78dc28081", func := "warder/warderlaw07.WalkPages", spec := "walkPages", unfollowed := true, recurses := true, apart := false }
def WalkPagesSaid : Prop := walkPagesRow.holds Try.pinned (OpenSpec.ofChange walkPagesSpec)

/-- ITS FALSE NEIGHBOUR: 'it returns false'. Refute it at one input. -/
def walkPagesWrong : ChangeSpec := { name := "walkPages", fn := fun _ => fun
  | [d1, d2, d3] => { results := [.lit (.bool false)], args := [d1, d2, d3] }
  | _ => none }
def WalkPagesWrongFalsely : Prop := walkPagesRow.holds Try.pinned (OpenSpec.ofChange walkPagesWrong)

/-- 'warderlaw07.WalkRights': WHATEVER THE INPUT: true; the input reads as it did. -/
def walkRightsSpec : ChangeSpec := { name := "walkRights", fn := fun _ => fun
  | [d1, d2, d3, d4, d5] => { results := [.lit (.bool true)], args := [d1, d2, d3, d4, d5] }
  | _ => none }
def walkRightsRow : OpenClaim := { program := "ytpfeibhafchfkaa", sum := "c6062a77efe0ce60c635a3c54383e1705b3646ab962f678e538a83b78dc28081", func := "warder/warderlaw07.WalkRights", spec := "walkRights", unfollowed := true, recurses := true, apart := false }
def WalkRightsSaid : Prop := walkRightsRow.holds Try.pinned (OpenSpec.ofChange walkRightsSpec)

/-- ITS FALSE NEIGHBOUR: 'it returns false'. Refute it at one input. -/
def walkRightsWrong : ChangeSpec := { name := "walkRights", fn := fun _ => fun
  | [d1, d2, d3, d4, d5] => { results := [.lit (.bool false)], args := [d1, d2, d3, d4, d5] }
  | _ => none }
def WalkRightsWrongFalsely : Prop := walkRightsRow.holds Try.pinned (OpenSpec.ofChange walkRightsWrong)

/-- 'warderlaw07.WalkLook': WHATEVER THE INPUT: true; the input reads as it did. -/
def walkLookSpec : ChangeSpec := { name := "walkLook", fn := fun _ => fun
  | [d1, d2, d3] => { results := [.lit (.bool true)], args := [d1, d2, d3] }
  | _ => none }
def walkLookRow : OpenClaim := { program := "ytpfeibhafchfkaa", sum := "c6062a77efe0ce60c635a3c54383e1705b3646ab962f678e538a83b78dc28081", func := "warder/warderlaw07.WalkLook", spec := "walkLook", unfollowed := true, recurses := true, apart := false }
def WalkLookSaid : Prop := walkLookRow.holds Try.pinned (OpenSpec.ofChange walkLookSpec)

/-- ITS FALSE NEIGHBOUR: 'it returns false'. Refute it at one input. -/
def walkLookWrong : ChangeSpec := { name := "walkLook", fn := fun _ => fun
  | [d1, d2, d3] => { results := [.lit (.bool false)], args := [d1, d2, d3] }
  | _ => none }
def WalkLookWrongFalsely : Prop := walkLookRow.holds Try.pinned (OpenSpec.ofChange walkLookWrong)

/-- 'warderlaw07.WalkApart': WHATEVER THE INPUT: true; the input reads as it did. -/
def walkApartSpec : ChangeSpec := { name := "walkApart", fn := fun _ => fun
  | [d1, d2, d3] => { results := [.lit (.bool true)], args := [d1, d2, d3] }
  | _ => none }
def walkApartRow : OpenClaim := { program := "ytpfeibhafchfkaa", sum := "c6062a77efe0ce60c635a3c54383e1705b3646ab962f678e538a83b78dc28081", func := "warder/warderlaw07.WalkApart", spec := "walkApart", unfollowed := true, recurses := true, apart := false }
def WalkApartSaid : Prop := walkApartRow.holds Try.pinned (OpenSpec.ofChange walkApartSpec)

/-- ITS FALSE NEIGHBOUR: 'it returns false'. Refute it at one input. -/
def walkApartWrong : ChangeSpec := { name := "walkApart", fn := fun _ => fun
  | [d1, d2, d3] => { results := [.lit (.bool false)], args := [d1, d2, d3] }
  | _ => none }
def WalkApartWrongFalsely : Prop := walkApartRow.holds Try.pinned (OpenSpec.ofChange walkApartWrong)

/- THE SECOND FORM. 'bulk': how many values and letters a reading holds, each counted each time it is reached (what is shared counts as often as it is met; a slice's spare places count too). A statement '..UptoSaid' is the law's where the arguments, and the package variables that the reading takes, are together of bulk at most 1048576: NARROWER than '..Said'. Prove '..Said' where nothing that the law and all that it calls make is longer than what came in: it says more and counts as full. Else prove '..UptoSaid'. A law counts once. -/
mutual
def uptoBulk {H : Type} : DataW H → Nat
  | .lit (.string bytes) => bytes.length + 1
  | .lit _ => 1
  | .nil => 1
  | .ptr d => uptoBulk d + 1
  | .slice elems spare => uptoBulkAll elems + uptoBulkAll spare + 1
  | .agg parts => uptoBulkAll parts + 1
  | .iface _ d => uptoBulk d + 1
  | .map entries => uptoBulkEntries entries + 1
  | .held _ => 1
def uptoBulkAll {H : Type} : List (DataW H) → Nat
  | [] => 0
  | d :: r => uptoBulk d + uptoBulkAll r
def uptoBulkEntries {H : Type} : List (Lit × DataW H) → Nat
  | [] => 0
  | x :: r => uptoBulkEntry x + uptoBulkEntries r
def uptoBulkEntry {H : Type} : Lit × DataW H → Nat
  | (.string bytes, d) => bytes.length + uptoBulk d + 1
  | (_, d) => uptoBulk d + 1
 end
def uptoSmall : (H : Type) → List (DataW H) → Bool := fun _ ds => decide (uptoBulkAll ds ≤ 1048576)
def OpenSpec.upto (s : _root_.Go.ChangeSpec) : _root_.Go.OpenSpec := { _root_.Go.OpenSpec.ofChange s with cond := some uptoSmall }

/-- 'warderlaw07.WalkAnswers', WHERE WHAT IT READS IS OF BULK AT MOST 1048576: true; the input reads as it did. -/
def walkAnswersUptoRow : OpenClaim := { program := "ytpfeibhafchfkaa", sum := "c6062a77efe0ce60c635a3c54383e1705b3646ab962f678e538a83b78dc28081", func := "warder/warderlaw07.WalkAnswers", spec := "walkAnswers", unfollowed := true, recurses := true, apart := false, narrowed := true }
def WalkAnswersUptoSaid : Prop := walkAnswersUptoRow.holds Try.pinned (OpenSpec.upto walkAnswersSpec)

/-- 'warderlaw07.WalkPages', WHERE WHAT IT READS IS OF BULK AT MOST 1048576: true; the input reads as it did. -/
def walkPagesUptoRow : OpenClaim := { program := "ytpfeibhafchfkaa", sum := "c6062a77efe0ce60c635a3c54383e1705b3646ab962f678e538a83b78dc28081", func := "warder/warderlaw07.WalkPages", spec := "walkPages", unfollowed := true, recurses := true, apart := false, narrowed := true }
def WalkPagesUptoSaid : Prop := walkPagesUptoRow.holds Try.pinned (OpenSpec.upto walkPagesSpec)

/-- 'warderlaw07.WalkRights', WHERE WHAT IT READS IS OF BULK AT MOST 1048576: true; the input reads as it did. -/
def walkRightsUptoRow : OpenClaim := { program := "ytpfeibhafchfkaa", sum := "c6062a77efe0ce60c635a3c54383e1705b3646ab962f678e538a83b78dc28081", func := "warder/warderlaw07.WalkRights", spec := "walkRights", unfollowed := true, recurses := true, apart := false, narrowed := true }
def WalkRightsUptoSaid : Prop := walkRightsUptoRow.holds Try.pinned (OpenSpec.upto walkRightsSpec)

/-- 'warderlaw07.WalkLook', WHERE WHAT IT READS IS OF BULK AT MOST 1048576: true; the input reads as it did. -/
def walkLookUptoRow : OpenClaim := { program := "ytpfeibhafchfkaa", sum := "c6062a77efe0ce60c635a3c54383e1705b3646ab962f678e538a83b78dc28081", func := "warder/warderlaw07.WalkLook", spec := "walkLook", unfollowed := true, recurses := true, apart := false, narrowed := true }
def WalkLookUptoSaid : Prop := walkLookUptoRow.holds Try.pinned (OpenSpec.upto walkLookSpec)

/-- 'warderlaw07.WalkApart', WHERE WHAT IT READS IS OF BULK AT MOST 1048576: true; the input reads as it did. -/
def walkApartUptoRow : OpenClaim := { program := "ytpfeibhafchfkaa", sum := "c6062a77efe0ce60c635a3c54383e1705b3646ab962f678e538a83b78dc28081", func := "warder/warderlaw07.WalkApart", spec := "walkApart", unfollowed := true, recurses := true, apart := false, narrowed := true }
def WalkApartUptoSaid : Prop := walkApartUptoRow.holds Try.pinned (OpenSpec.upto walkApartSpec)

end Rows
end Go.Proofs.Ytpfeibhafchfkaa
