/-
  DERIVED. GIVEN WITH THE SEED: THE CARDS: each row of YtogicnciheedoaaGreatDoorRows.lean that lists a variable, with what it lists TIED to the program's text (the seventh form; the later family's looks); each row that meets fmt, with fmt's text TOLD by the authors' own Lean function (tested against real Go, not proved from fmt's source: count such statements apart). THE CARD IS WHAT COUNTS. Prove the row's statement (the work); the ties are given (YtogicnciheedoaaGreatDoorTie.lean); close each card by the builder's one call (the guide's Derived/Test/ToyasCard.lean, 'card_holds'). Laid BY PROGRAM, IN A SANDBOX (cutbox-door.mjs). By AI agents, Wed Nov 11 2026. No macro, syntax, notation, axiom, sorry.
-/
import Derived.Test.YtogicnciheedoaaGreatDoorRows
import GoSem.ClaimSeven
namespace Go.Proofs.YtogicnciheedoaaGreatDoor
namespace Rows

/-- THE TIED CARD OF 'sextonlaw16.DiffOf'. -/
def diffOfCard : Claim7 := { stood := { row := diffOfRow, standIns := [], harness := (true, "87db64df11a276311ced969140e1c8b1b4fa072a2a44fa853c5f7974a72298e2"), looks := true }, kinds := [], alts := [], laidByText := true, laidKinds := [.data, .data, .data, .pinned], laidTests := true, laidLooks := .later }
def DiffOfCardSaid : Prop := Claim7.holds Tryz.pinned (.plain (OpenSpec.ofChange diffOfSpec)) diffOfCard

/-- THE TIED CARD OF 'sextonlaw16.DiffBack'. -/
def diffBackCard : Claim7 := { stood := { row := diffBackRow, standIns := [], harness := (true, "87db64df11a276311ced969140e1c8b1b4fa072a2a44fa853c5f7974a72298e2"), looks := true }, kinds := [], alts := [], laidByText := true, laidKinds := [.data, .data, .data, .pinned], laidTests := true, laidLooks := .later }
def DiffBackCardSaid : Prop := Claim7.holds Tryz.pinned (.plain (OpenSpec.ofChange diffBackSpec)) diffBackCard

/-- THE TIED CARD OF 'sextonlaw16.DiffThen'. -/
def diffThenCard : Claim7 := { stood := { row := diffThenRow, standIns := [], harness := (true, "87db64df11a276311ced969140e1c8b1b4fa072a2a44fa853c5f7974a72298e2"), looks := true }, kinds := [], alts := [], laidByText := true, laidKinds := [.data, .data, .data, .pinned], laidTests := true, laidLooks := .later }
def DiffThenCardSaid : Prop := Claim7.holds Tryz.pinned (.plain (OpenSpec.ofChange diffThenSpec)) diffThenCard

/-- THE TIED CARD OF 'sextonlaw16.DiffTells'. -/
def diffTellsCard : Claim7 := { stood := { row := diffTellsRow, standIns := [], harness := (true, "87db64df11a276311ced969140e1c8b1b4fa072a2a44fa853c5f7974a72298e2"), looks := true }, kinds := [], alts := [], laidByText := true, laidKinds := [.data, .data, .data, .pinned], laidTests := true, laidLooks := .later }
def DiffTellsCardSaid : Prop := Claim7.holds Tryz.pinned (.plain (OpenSpec.ofChange diffTellsSpec)) diffTellsCard

/-- THE SECOND FORM's CARD OF 'sextonlaw16.DiffOf'. -/
def diffOfUptoCard : Claim7 := { stood := { row := diffOfUptoRow, standIns := [], harness := (true, "87db64df11a276311ced969140e1c8b1b4fa072a2a44fa853c5f7974a72298e2"), looks := true }, kinds := [], alts := [], laidByText := true, laidKinds := [.data, .data, .data, .pinned], laidTests := true, laidLooks := .later }
def DiffOfUptoCardSaid : Prop := Claim7.holds Tryz.pinned (.plain (OpenSpec.upto diffOfSpec)) diffOfUptoCard

/-- THE SECOND FORM's CARD OF 'sextonlaw16.DiffBack'. -/
def diffBackUptoCard : Claim7 := { stood := { row := diffBackUptoRow, standIns := [], harness := (true, "87db64df11a276311ced969140e1c8b1b4fa072a2a44fa853c5f7974a72298e2"), looks := true }, kinds := [], alts := [], laidByText := true, laidKinds := [.data, .data, .data, .pinned], laidTests := true, laidLooks := .later }
def DiffBackUptoCardSaid : Prop := Claim7.holds Tryz.pinned (.plain (OpenSpec.upto diffBackSpec)) diffBackUptoCard

/-- THE SECOND FORM's CARD OF 'sextonlaw16.DiffThen'. -/
def diffThenUptoCard : Claim7 := { stood := { row := diffThenUptoRow, standIns := [], harness := (true, "87db64df11a276311ced969140e1c8b1b4fa072a2a44fa853c5f7974a72298e2"), looks := true }, kinds := [], alts := [], laidByText := true, laidKinds := [.data, .data, .data, .pinned], laidTests := true, laidLooks := .later }
def DiffThenUptoCardSaid : Prop := Claim7.holds Tryz.pinned (.plain (OpenSpec.upto diffThenSpec)) diffThenUptoCard

/-- THE SECOND FORM's CARD OF 'sextonlaw16.DiffTells'. -/
def diffTellsUptoCard : Claim7 := { stood := { row := diffTellsUptoRow, standIns := [], harness := (true, "87db64df11a276311ced969140e1c8b1b4fa072a2a44fa853c5f7974a72298e2"), looks := true }, kinds := [], alts := [], laidByText := true, laidKinds := [.data, .data, .data, .pinned], laidTests := true, laidLooks := .later }
def DiffTellsUptoCardSaid : Prop := Claim7.holds Tryz.pinned (.plain (OpenSpec.upto diffTellsSpec)) diffTellsUptoCard
end Rows
end Go.Proofs.YtogicnciheedoaaGreatDoor
