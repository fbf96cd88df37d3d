/-
  DERIVED. GIVEN WITH THE SEED: THE CARDS: each row of YtabciahegdaeoaaDoorRows.lean that lists a variable, with what it lists TIED to the program's text (the seventh form; the later family's looks); each row that meets fmt, with fmt's text TOLD by the authors' own Lean function (tested against real Go, not proved from fmt's source: count such statements apart). THE CARD IS WHAT COUNTS. Prove the row's statement (the work); the ties are given (YtabciahegdaeoaaDoorTie.lean); close each card by the builder's one call (the guide's Derived/Test/ToyasCard.lean, 'card_holds'). Laid BY PROGRAM, IN A SANDBOX (cutbox-door.mjs). By AI agents, Wed Nov 11 2026. No macro, syntax, notation, axiom, sorry.
-/
import Derived.Test.YtabciahegdaeoaaDoorRows
import GoSem.ClaimSeven
namespace Go.Proofs.YtabciahegdaeoaaDoor
namespace Rows

/-- THE TIED CARD OF 'sextonlaw05.TwinBack'. -/
def twinBackCard : Claim7 := { stood := { row := twinBackRow, standIns := [], harness := (true, "bb9cc640c7489bbc09e9f450f87bca08a14fabae6ea0cbcda17c1dcc4c909c7a"), looks := false }, kinds := [], alts := [], laidByText := true, laidKinds := [.data], laidTests := true, laidLooks := .later }
def TwinBackCardSaid : Prop := Claim7.holds Tryd.pinned (.plain (OpenSpec.ofChange twinBackSpec)) twinBackCard

/-- THE TIED CARD OF 'sextonlaw05.TwinCrash'. -/
def twinCrashCard : Claim7 := { stood := { row := twinCrashRow, standIns := [], harness := (true, "bb9cc640c7489bbc09e9f450f87bca08a14fabae6ea0cbcda17c1dcc4c909c7a"), looks := false }, kinds := [], alts := [], laidByText := true, laidKinds := [.data], laidTests := true, laidLooks := .later }
def TwinCrashCardSaid : Prop := Claim7.holds Tryd.pinned (.plain (OpenSpec.ofChange twinCrashSpec)) twinCrashCard

/-- THE TIED CARD OF 'sextonlaw05.TwinRow'. -/
def twinRowCard : Claim7 := { stood := { row := twinRowRow, standIns := [], harness := (true, "bb9cc640c7489bbc09e9f450f87bca08a14fabae6ea0cbcda17c1dcc4c909c7a"), looks := false }, kinds := [], alts := [], laidByText := true, laidKinds := [.data], laidTests := true, laidLooks := .later }
def TwinRowCardSaid : Prop := Claim7.holds Tryd.pinned (.plain (OpenSpec.ofChange twinRowSpec)) twinRowCard

/-- THE TIED CARD OF 'sextonlaw05.TwinOthers'. -/
def twinOthersCard : Claim7 := { stood := { row := twinOthersRow, standIns := [], harness := (true, "bb9cc640c7489bbc09e9f450f87bca08a14fabae6ea0cbcda17c1dcc4c909c7a"), looks := false }, kinds := [], alts := [], laidByText := true, laidKinds := [.data], laidTests := true, laidLooks := .later }
def TwinOthersCardSaid : Prop := Claim7.holds Tryd.pinned (.plain (OpenSpec.ofChange twinOthersSpec)) twinOthersCard

/-- THE SECOND FORM's CARD OF 'sextonlaw05.TwinBack'. -/
def twinBackUptoCard : Claim7 := { stood := { row := twinBackUptoRow, standIns := [], harness := (true, "bb9cc640c7489bbc09e9f450f87bca08a14fabae6ea0cbcda17c1dcc4c909c7a"), looks := false }, kinds := [], alts := [], laidByText := true, laidKinds := [.data], laidTests := true, laidLooks := .later }
def TwinBackUptoCardSaid : Prop := Claim7.holds Tryd.pinned (.plain (OpenSpec.upto twinBackSpec)) twinBackUptoCard

/-- THE SECOND FORM's CARD OF 'sextonlaw05.TwinCrash'. -/
def twinCrashUptoCard : Claim7 := { stood := { row := twinCrashUptoRow, standIns := [], harness := (true, "bb9cc640c7489bbc09e9f450f87bca08a14fabae6ea0cbcda17c1dcc4c909c7a"), looks := false }, kinds := [], alts := [], laidByText := true, laidKinds := [.data], laidTests := true, laidLooks := .later }
def TwinCrashUptoCardSaid : Prop := Claim7.holds Tryd.pinned (.plain (OpenSpec.upto twinCrashSpec)) twinCrashUptoCard

/-- THE SECOND FORM's CARD OF 'sextonlaw05.TwinRow'. -/
def twinRowUptoCard : Claim7 := { stood := { row := twinRowUptoRow, standIns := [], harness := (true, "bb9cc640c7489bbc09e9f450f87bca08a14fabae6ea0cbcda17c1dcc4c909c7a"), looks := false }, kinds := [], alts := [], laidByText := true, laidKinds := [.data], laidTests := true, laidLooks := .later }
def TwinRowUptoCardSaid : Prop := Claim7.holds Tryd.pinned (.plain (OpenSpec.upto twinRowSpec)) twinRowUptoCard

/-- THE SECOND FORM's CARD OF 'sextonlaw05.TwinOthers'. -/
def twinOthersUptoCard : Claim7 := { stood := { row := twinOthersUptoRow, standIns := [], harness := (true, "bb9cc640c7489bbc09e9f450f87bca08a14fabae6ea0cbcda17c1dcc4c909c7a"), looks := false }, kinds := [], alts := [], laidByText := true, laidKinds := [.data], laidTests := true, laidLooks := .later }
def TwinOthersUptoCardSaid : Prop := Claim7.holds Tryd.pinned (.plain (OpenSpec.upto twinOthersSpec)) twinOthersUptoCard
end Rows
end Go.Proofs.YtabciahegdaeoaaDoor
