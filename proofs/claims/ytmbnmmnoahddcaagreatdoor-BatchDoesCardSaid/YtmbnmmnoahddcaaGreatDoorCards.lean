/-
  DERIVED. GIVEN WITH THE SEED: THE CARDS: each row of YtmbnmmnoahddcaaGreatDoorRows.lean that lists a variable, with what it lists TIED to the program's text (the seventh form; the later family's looks); each row that meets fmt, with fmt's text TOLD by the authors' own Lean function (tested against real Go, not proved from fmt's source: count such statements apart). THE CARD IS WHAT COUNTS. Prove the row's statement (the work); the ties are given (YtmbnmmnoahddcaaGreatDoorTie.lean); close each card by the builder's one call (the guide's Derived/Test/ToyasCard.lean, 'card_holds'). Laid BY PROGRAM, IN A SANDBOX (cutbox-door.mjs). By AI agents, Wed Nov 11 2026. No macro, syntax, notation, axiom, sorry.
-/
import Derived.Test.YtmbnmmnoahddcaaGreatDoorRows
import GoSem.ClaimSeven
namespace Go.Proofs.YtmbnmmnoahddcaaGreatDoor
namespace Rows

/-- THE TIED CARD OF 'sextonlaw14.BatchDoes'. -/
def batchDoesCard : Claim7 := { stood := { row := batchDoesRow, standIns := [], harness := (true, "315b739156ae31968a05782969a8f1e76063bed8b6f065886eeeda36621cf8d9"), looks := false }, kinds := [], alts := [], laidByText := true, laidKinds := [.data, .pinned], laidTests := true, laidLooks := .later }
def BatchDoesCardSaid : Prop := Claim7.holds Tryz.pinned (.plain (OpenSpec.ofChange batchDoesSpec)) batchDoesCard

/-- THE TIED CARD OF 'sextonlaw14.BatchGets'. -/
def batchGetsCard : Claim7 := { stood := { row := batchGetsRow, standIns := [], harness := (true, "315b739156ae31968a05782969a8f1e76063bed8b6f065886eeeda36621cf8d9"), looks := false }, kinds := [], alts := [], laidByText := true, laidKinds := [.data, .pinned], laidTests := true, laidLooks := .later }
def BatchGetsCardSaid : Prop := Claim7.holds Tryz.pinned (.plain (OpenSpec.ofChange batchGetsSpec)) batchGetsCard

/-- THE SECOND FORM's CARD OF 'sextonlaw14.BatchDoes'. -/
def batchDoesUptoCard : Claim7 := { stood := { row := batchDoesUptoRow, standIns := [], harness := (true, "315b739156ae31968a05782969a8f1e76063bed8b6f065886eeeda36621cf8d9"), looks := false }, kinds := [], alts := [], laidByText := true, laidKinds := [.data, .pinned], laidTests := true, laidLooks := .later }
def BatchDoesUptoCardSaid : Prop := Claim7.holds Tryz.pinned (.plain (OpenSpec.upto batchDoesSpec)) batchDoesUptoCard

/-- THE SECOND FORM's CARD OF 'sextonlaw14.BatchGets'. -/
def batchGetsUptoCard : Claim7 := { stood := { row := batchGetsUptoRow, standIns := [], harness := (true, "315b739156ae31968a05782969a8f1e76063bed8b6f065886eeeda36621cf8d9"), looks := false }, kinds := [], alts := [], laidByText := true, laidKinds := [.data, .pinned], laidTests := true, laidLooks := .later }
def BatchGetsUptoCardSaid : Prop := Claim7.holds Tryz.pinned (.plain (OpenSpec.upto batchGetsSpec)) batchGetsUptoCard
end Rows
end Go.Proofs.YtmbnmmnoahddcaaGreatDoor
