/-
  DERIVED. GIVEN WITH THE SEED: THE CARDS: each row of YtcipdmdliobdmaaDoorRows.lean that lists a variable, with what it lists TIED to the program's text (the seventh form; the later family's looks); each row that meets fmt, with fmt's text TOLD by the authors' own Lean function (tested against real Go, not proved from fmt's source: count such statements apart). THE CARD IS WHAT COUNTS. Prove the row's statement (the work); the ties are given (YtcipdmdliobdmaaDoorTie.lean); close each card by the builder's one call (the guide's Derived/Test/ToyasCard.lean, 'card_holds'). Laid BY PROGRAM, IN A SANDBOX (cutbox-door.mjs). By AI agents, Wed Nov 11 2026. No macro, syntax, notation, axiom, sorry.
-/
import Derived.Test.YtcipdmdliobdmaaDoorRows
import GoSem.ClaimSeven
namespace Go.Proofs.YtcipdmdliobdmaaDoor
namespace Rows

/-- THE TIED CARD OF 'sextonlaw07.WalDoes'. -/
def walDoesCard : Claim7 := { stood := { row := walDoesRow, standIns := [], harness := (true, "09cfeff1d33e6c5d810b238531cc4bdaaa6cfc5f580ecf4275804c66c9239848"), looks := false }, kinds := [], alts := [], laidByText := true, laidKinds := [.data], laidTests := true, laidLooks := .later }
def WalDoesCardSaid : Prop := Claim7.holds Tryd.pinned (.plain (OpenSpec.ofChange walDoesSpec)) walDoesCard

/-- THE TIED CARD OF 'sextonlaw07.WalCrash'. -/
def walCrashCard : Claim7 := { stood := { row := walCrashRow, standIns := [], harness := (true, "09cfeff1d33e6c5d810b238531cc4bdaaa6cfc5f580ecf4275804c66c9239848"), looks := false }, kinds := [], alts := [], laidByText := true, laidKinds := [.data], laidTests := true, laidLooks := .later }
def WalCrashCardSaid : Prop := Claim7.holds Tryd.pinned (.plain (OpenSpec.ofChange walCrashSpec)) walCrashCard

/-- THE TIED CARD OF 'sextonlaw07.WalEpoch'. -/
def walEpochCard : Claim7 := { stood := { row := walEpochRow, standIns := [], harness := (true, "09cfeff1d33e6c5d810b238531cc4bdaaa6cfc5f580ecf4275804c66c9239848"), looks := false }, kinds := [], alts := [], laidByText := true, laidKinds := [.data], laidTests := true, laidLooks := .later }
def WalEpochCardSaid : Prop := Claim7.holds Tryd.pinned (.plain (OpenSpec.ofChange walEpochSpec)) walEpochCard

/-- THE SECOND FORM's CARD OF 'sextonlaw07.WalDoes'. -/
def walDoesUptoCard : Claim7 := { stood := { row := walDoesUptoRow, standIns := [], harness := (true, "09cfeff1d33e6c5d810b238531cc4bdaaa6cfc5f580ecf4275804c66c9239848"), looks := false }, kinds := [], alts := [], laidByText := true, laidKinds := [.data], laidTests := true, laidLooks := .later }
def WalDoesUptoCardSaid : Prop := Claim7.holds Tryd.pinned (.plain (OpenSpec.upto walDoesSpec)) walDoesUptoCard

/-- THE SECOND FORM's CARD OF 'sextonlaw07.WalCrash'. -/
def walCrashUptoCard : Claim7 := { stood := { row := walCrashUptoRow, standIns := [], harness := (true, "09cfeff1d33e6c5d810b238531cc4bdaaa6cfc5f580ecf4275804c66c9239848"), looks := false }, kinds := [], alts := [], laidByText := true, laidKinds := [.data], laidTests := true, laidLooks := .later }
def WalCrashUptoCardSaid : Prop := Claim7.holds Tryd.pinned (.plain (OpenSpec.upto walCrashSpec)) walCrashUptoCard

/-- THE SECOND FORM's CARD OF 'sextonlaw07.WalEpoch'. -/
def walEpochUptoCard : Claim7 := { stood := { row := walEpochUptoRow, standIns := [], harness := (true, "09cfeff1d33e6c5d810b238531cc4bdaaa6cfc5f580ecf4275804c66c9239848"), looks := false }, kinds := [], alts := [], laidByText := true, laidKinds := [.data], laidTests := true, laidLooks := .later }
def WalEpochUptoCardSaid : Prop := Claim7.holds Tryd.pinned (.plain (OpenSpec.upto walEpochSpec)) walEpochUptoCard
end Rows
end Go.Proofs.YtcipdmdliobdmaaDoor
