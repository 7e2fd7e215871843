/-
  DERIVED. GIVEN WITH THE SEED: THE CARDS: each row of YtalaalpafafpbaaDoorRows.lean that lists a variable, with what it lists TIED to the program's text (the seventh form; the later family's looks); each row that meets fmt, with fmt's text TOLD by the authors' own Lean function (tested against real Go, not proved from fmt's source: count such statements apart). THE CARD IS WHAT COUNTS. Prove the row's statement (the work); the ties are given (YtalaalpafafpbaaDoorTie.lean); close each card by the builder's one call (the guide's Derived/Test/ToyasCard.lean, 'card_holds'). Laid BY PROGRAM, IN A SANDBOX (cutbox-door.mjs). By AI agents, Wed Nov 11 2026. No macro, syntax, notation, axiom, sorry.
-/
import Derived.Test.YtalaalpafafpbaaDoorRows
import GoSem.ClaimSeven
namespace Go.Proofs.YtalaalpafafpbaaDoor
namespace Rows

/-- THE TIED CARD OF 'warderlaw05.MeterCalls'. -/
def meterCallsCard : Claim7 := { stood := { row := meterCallsRow, standIns := [], harness := (true, "492277e39a67a138ae17ae549cfcebcb21a2e284a292690a66cb3a0ddfee043a"), looks := false }, kinds := [], alts := [], laidByText := true, laidKinds := [.data], laidTests := true, laidLooks := .later }
def MeterCallsCardSaid : Prop := Claim7.holds Tryd.pinned (.plain (OpenSpec.ofChange meterCallsSpec)) meterCallsCard

/-- THE TIED CARD OF 'warderlaw05.MeterSums'. -/
def meterSumsCard : Claim7 := { stood := { row := meterSumsRow, standIns := [], harness := (true, "492277e39a67a138ae17ae549cfcebcb21a2e284a292690a66cb3a0ddfee043a"), looks := false }, kinds := [], alts := [], laidByText := true, laidKinds := [.data], laidTests := true, laidLooks := .later }
def MeterSumsCardSaid : Prop := Claim7.holds Tryd.pinned (.plain (OpenSpec.ofChange meterSumsSpec)) meterSumsCard

/-- THE TIED CARD OF 'warderlaw05.MeterLeast'. -/
def meterLeastCard : Claim7 := { stood := { row := meterLeastRow, standIns := [], harness := (true, "492277e39a67a138ae17ae549cfcebcb21a2e284a292690a66cb3a0ddfee043a"), looks := false }, kinds := [], alts := [], laidByText := true, laidKinds := [.data], laidTests := true, laidLooks := .later }
def MeterLeastCardSaid : Prop := Claim7.holds Tryd.pinned (.plain (OpenSpec.ofChange meterLeastSpec)) meterLeastCard

/-- THE TIED CARD OF 'warderlaw05.MeterApart'. -/
def meterApartCard : Claim7 := { stood := { row := meterApartRow, standIns := [], harness := (true, "492277e39a67a138ae17ae549cfcebcb21a2e284a292690a66cb3a0ddfee043a"), looks := false }, kinds := [], alts := [], laidByText := true, laidKinds := [.data], laidTests := true, laidLooks := .later }
def MeterApartCardSaid : Prop := Claim7.holds Tryd.pinned (.plain (OpenSpec.ofChange meterApartSpec)) meterApartCard

/-- THE SECOND FORM's CARD OF 'warderlaw05.MeterCalls'. -/
def meterCallsUptoCard : Claim7 := { stood := { row := meterCallsUptoRow, standIns := [], harness := (true, "492277e39a67a138ae17ae549cfcebcb21a2e284a292690a66cb3a0ddfee043a"), looks := false }, kinds := [], alts := [], laidByText := true, laidKinds := [.data], laidTests := true, laidLooks := .later }
def MeterCallsUptoCardSaid : Prop := Claim7.holds Tryd.pinned (.plain (OpenSpec.upto meterCallsSpec)) meterCallsUptoCard

/-- THE SECOND FORM's CARD OF 'warderlaw05.MeterSums'. -/
def meterSumsUptoCard : Claim7 := { stood := { row := meterSumsUptoRow, standIns := [], harness := (true, "492277e39a67a138ae17ae549cfcebcb21a2e284a292690a66cb3a0ddfee043a"), looks := false }, kinds := [], alts := [], laidByText := true, laidKinds := [.data], laidTests := true, laidLooks := .later }
def MeterSumsUptoCardSaid : Prop := Claim7.holds Tryd.pinned (.plain (OpenSpec.upto meterSumsSpec)) meterSumsUptoCard

/-- THE SECOND FORM's CARD OF 'warderlaw05.MeterLeast'. -/
def meterLeastUptoCard : Claim7 := { stood := { row := meterLeastUptoRow, standIns := [], harness := (true, "492277e39a67a138ae17ae549cfcebcb21a2e284a292690a66cb3a0ddfee043a"), looks := false }, kinds := [], alts := [], laidByText := true, laidKinds := [.data], laidTests := true, laidLooks := .later }
def MeterLeastUptoCardSaid : Prop := Claim7.holds Tryd.pinned (.plain (OpenSpec.upto meterLeastSpec)) meterLeastUptoCard

/-- THE SECOND FORM's CARD OF 'warderlaw05.MeterApart'. -/
def meterApartUptoCard : Claim7 := { stood := { row := meterApartUptoRow, standIns := [], harness := (true, "492277e39a67a138ae17ae549cfcebcb21a2e284a292690a66cb3a0ddfee043a"), looks := false }, kinds := [], alts := [], laidByText := true, laidKinds := [.data], laidTests := true, laidLooks := .later }
def MeterApartUptoCardSaid : Prop := Claim7.holds Tryd.pinned (.plain (OpenSpec.upto meterApartSpec)) meterApartUptoCard
end Rows
end Go.Proofs.YtalaalpafafpbaaDoor
