/-
  DERIVED. GIVEN WITH THE SEED: THE CARDS: each row of YthngeponcdeneaaGreatDoorRows.lean that lists a variable, with what it lists TIED to the program's text (the seventh form; the later family's looks); each row that meets fmt, with fmt's text TOLD by the authors' own Lean function (tested against real Go, not proved from fmt's source: count such statements apart). THE CARD IS WHAT COUNTS. Prove the row's statement (the work); the ties are given (YthngeponcdeneaaGreatDoorTie.lean); close each card by the builder's one call (the guide's Derived/Test/ToyasCard.lean, 'card_holds'). Laid BY PROGRAM, IN A SANDBOX (cutbox-door.mjs). By AI agents, Wed Nov 11 2026. No macro, syntax, notation, axiom, sorry.
-/
import Derived.Test.YthngeponcdeneaaGreatDoorRows
import GoSem.ClaimSeven
namespace Go.Proofs.YthngeponcdeneaaGreatDoor
namespace Rows

/-- THE TIED CARD OF 'sextonlaw11.CursorRuns'. -/
def cursorRunsCard : Claim7 := { stood := { row := cursorRunsRow, standIns := [], harness := (true, "ac9520592df02f7da5842c9c6e3a4654a2524d3be53000cb38c4299a8917bf36"), looks := true }, kinds := [], alts := [], laidByText := true, laidKinds := [.data, .pinned], laidTests := true, laidLooks := .later }
def CursorRunsCardSaid : Prop := Claim7.holds Tryz.pinned (.plain (OpenSpec.ofChange cursorRunsSpec)) cursorRunsCard

/-- THE TIED CARD OF 'sextonlaw11.CursorRanges'. -/
def cursorRangesCard : Claim7 := { stood := { row := cursorRangesRow, standIns := [], harness := (true, "ac9520592df02f7da5842c9c6e3a4654a2524d3be53000cb38c4299a8917bf36"), looks := true }, kinds := [], alts := [], laidByText := true, laidKinds := [.data, .pinned], laidTests := true, laidLooks := .later }
def CursorRangesCardSaid : Prop := Claim7.holds Tryz.pinned (.plain (OpenSpec.ofChange cursorRangesSpec)) cursorRangesCard

/-- THE TIED CARD OF 'sextonlaw11.CursorParts'. -/
def cursorPartsCard : Claim7 := { stood := { row := cursorPartsRow, standIns := [], harness := (true, "ac9520592df02f7da5842c9c6e3a4654a2524d3be53000cb38c4299a8917bf36"), looks := true }, kinds := [], alts := [], laidByText := true, laidKinds := [.data, .pinned], laidTests := true, laidLooks := .later }
def CursorPartsCardSaid : Prop := Claim7.holds Tryz.pinned (.plain (OpenSpec.ofChange cursorPartsSpec)) cursorPartsCard

/-- THE SECOND FORM's CARD OF 'sextonlaw11.CursorRuns'. -/
def cursorRunsUptoCard : Claim7 := { stood := { row := cursorRunsUptoRow, standIns := [], harness := (true, "ac9520592df02f7da5842c9c6e3a4654a2524d3be53000cb38c4299a8917bf36"), looks := true }, kinds := [], alts := [], laidByText := true, laidKinds := [.data, .pinned], laidTests := true, laidLooks := .later }
def CursorRunsUptoCardSaid : Prop := Claim7.holds Tryz.pinned (.plain (OpenSpec.upto cursorRunsSpec)) cursorRunsUptoCard

/-- THE SECOND FORM's CARD OF 'sextonlaw11.CursorRanges'. -/
def cursorRangesUptoCard : Claim7 := { stood := { row := cursorRangesUptoRow, standIns := [], harness := (true, "ac9520592df02f7da5842c9c6e3a4654a2524d3be53000cb38c4299a8917bf36"), looks := true }, kinds := [], alts := [], laidByText := true, laidKinds := [.data, .pinned], laidTests := true, laidLooks := .later }
def CursorRangesUptoCardSaid : Prop := Claim7.holds Tryz.pinned (.plain (OpenSpec.upto cursorRangesSpec)) cursorRangesUptoCard

/-- THE SECOND FORM's CARD OF 'sextonlaw11.CursorParts'. -/
def cursorPartsUptoCard : Claim7 := { stood := { row := cursorPartsUptoRow, standIns := [], harness := (true, "ac9520592df02f7da5842c9c6e3a4654a2524d3be53000cb38c4299a8917bf36"), looks := true }, kinds := [], alts := [], laidByText := true, laidKinds := [.data, .pinned], laidTests := true, laidLooks := .later }
def CursorPartsUptoCardSaid : Prop := Claim7.holds Tryz.pinned (.plain (OpenSpec.upto cursorPartsSpec)) cursorPartsUptoCard
end Rows
end Go.Proofs.YthngeponcdeneaaGreatDoor
