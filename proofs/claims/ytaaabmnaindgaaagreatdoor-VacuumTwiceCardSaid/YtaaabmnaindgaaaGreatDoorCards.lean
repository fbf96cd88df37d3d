/-
  DERIVED. GIVEN WITH THE SEED: THE CARDS: each row of YtaaabmnaindgaaaGreatDoorRows.lean that lists a variable, with what it lists TIED to the program's text (the seventh form; the later family's looks); each row that meets fmt, with fmt's text TOLD by the authors' own Lean function (tested against real Go, not proved from fmt's source: count such statements apart). THE CARD IS WHAT COUNTS. Prove the row's statement (the work); the ties are given (YtaaabmnaindgaaaGreatDoorTie.lean); close each card by the builder's one call (the guide's Derived/Test/ToyasCard.lean, 'card_holds'). Laid BY PROGRAM, IN A SANDBOX (cutbox-door.mjs). By AI agents, Wed Nov 11 2026. No macro, syntax, notation, axiom, sorry.
-/
import Derived.Test.YtaaabmnaindgaaaGreatDoorRows
import GoSem.ClaimSeven
namespace Go.Proofs.YtaaabmnaindgaaaGreatDoor
namespace Rows

/-- THE TIED CARD OF 'sextonlaw18.VacuumDoes'. -/
def vacuumDoesCard : Claim7 := { stood := { row := vacuumDoesRow, standIns := [], harness := (true, "e53c0d79256851f2bb91a054ff4dc9aea7edb539f49921c1c509eb4ced051440"), looks := true }, kinds := [], alts := [], laidByText := true, laidKinds := [.data, .pinned], laidTests := true, laidLooks := .later }
def VacuumDoesCardSaid : Prop := Claim7.holds Tryz.pinned (.plain (OpenSpec.ofChange vacuumDoesSpec)) vacuumDoesCard

/-- THE TIED CARD OF 'sextonlaw18.VacuumKeeps'. -/
def vacuumKeepsCard : Claim7 := { stood := { row := vacuumKeepsRow, standIns := [], harness := (true, "e53c0d79256851f2bb91a054ff4dc9aea7edb539f49921c1c509eb4ced051440"), looks := true }, kinds := [], alts := [], laidByText := true, laidKinds := [.data, .pinned], laidTests := true, laidLooks := .later }
def VacuumKeepsCardSaid : Prop := Claim7.holds Tryz.pinned (.plain (OpenSpec.ofChange vacuumKeepsSpec)) vacuumKeepsCard

/-- THE TIED CARD OF 'sextonlaw18.VacuumTwice'. -/
def vacuumTwiceCard : Claim7 := { stood := { row := vacuumTwiceRow, standIns := [], harness := (true, "e53c0d79256851f2bb91a054ff4dc9aea7edb539f49921c1c509eb4ced051440"), looks := true }, kinds := [], alts := [], laidByText := true, laidKinds := [.data, .pinned], laidTests := true, laidLooks := .later }
def VacuumTwiceCardSaid : Prop := Claim7.holds Tryz.pinned (.plain (OpenSpec.ofChange vacuumTwiceSpec)) vacuumTwiceCard

/-- THE TIED CARD OF 'sextonlaw18.VacuumLeast'. -/
def vacuumLeastCard : Claim7 := { stood := { row := vacuumLeastRow, standIns := [], harness := (true, "e53c0d79256851f2bb91a054ff4dc9aea7edb539f49921c1c509eb4ced051440"), looks := true }, kinds := [], alts := [], laidByText := true, laidKinds := [.data, .pinned], laidTests := true, laidLooks := .later }
def VacuumLeastCardSaid : Prop := Claim7.holds Tryz.pinned (.plain (OpenSpec.ofChange vacuumLeastSpec)) vacuumLeastCard

/-- THE TIED CARD OF 'sextonlaw18.VacuumLive'. -/
def vacuumLiveCard : Claim7 := { stood := { row := vacuumLiveRow, standIns := [], harness := (true, "e53c0d79256851f2bb91a054ff4dc9aea7edb539f49921c1c509eb4ced051440"), looks := true }, kinds := [], alts := [], laidByText := true, laidKinds := [.data, .pinned], laidTests := true, laidLooks := .later }
def VacuumLiveCardSaid : Prop := Claim7.holds Tryz.pinned (.plain (OpenSpec.ofChange vacuumLiveSpec)) vacuumLiveCard

/-- THE SECOND FORM's CARD OF 'sextonlaw18.VacuumDoes'. -/
def vacuumDoesUptoCard : Claim7 := { stood := { row := vacuumDoesUptoRow, standIns := [], harness := (true, "e53c0d79256851f2bb91a054ff4dc9aea7edb539f49921c1c509eb4ced051440"), looks := true }, kinds := [], alts := [], laidByText := true, laidKinds := [.data, .pinned], laidTests := true, laidLooks := .later }
def VacuumDoesUptoCardSaid : Prop := Claim7.holds Tryz.pinned (.plain (OpenSpec.upto vacuumDoesSpec)) vacuumDoesUptoCard

/-- THE SECOND FORM's CARD OF 'sextonlaw18.VacuumKeeps'. -/
def vacuumKeepsUptoCard : Claim7 := { stood := { row := vacuumKeepsUptoRow, standIns := [], harness := (true, "e53c0d79256851f2bb91a054ff4dc9aea7edb539f49921c1c509eb4ced051440"), looks := true }, kinds := [], alts := [], laidByText := true, laidKinds := [.data, .pinned], laidTests := true, laidLooks := .later }
def VacuumKeepsUptoCardSaid : Prop := Claim7.holds Tryz.pinned (.plain (OpenSpec.upto vacuumKeepsSpec)) vacuumKeepsUptoCard

/-- THE SECOND FORM's CARD OF 'sextonlaw18.VacuumTwice'. -/
def vacuumTwiceUptoCard : Claim7 := { stood := { row := vacuumTwiceUptoRow, standIns := [], harness := (true, "e53c0d79256851f2bb91a054ff4dc9aea7edb539f49921c1c509eb4ced051440"), looks := true }, kinds := [], alts := [], laidByText := true, laidKinds := [.data, .pinned], laidTests := true, laidLooks := .later }
def VacuumTwiceUptoCardSaid : Prop := Claim7.holds Tryz.pinned (.plain (OpenSpec.upto vacuumTwiceSpec)) vacuumTwiceUptoCard

/-- THE SECOND FORM's CARD OF 'sextonlaw18.VacuumLeast'. -/
def vacuumLeastUptoCard : Claim7 := { stood := { row := vacuumLeastUptoRow, standIns := [], harness := (true, "e53c0d79256851f2bb91a054ff4dc9aea7edb539f49921c1c509eb4ced051440"), looks := true }, kinds := [], alts := [], laidByText := true, laidKinds := [.data, .pinned], laidTests := true, laidLooks := .later }
def VacuumLeastUptoCardSaid : Prop := Claim7.holds Tryz.pinned (.plain (OpenSpec.upto vacuumLeastSpec)) vacuumLeastUptoCard

/-- THE SECOND FORM's CARD OF 'sextonlaw18.VacuumLive'. -/
def vacuumLiveUptoCard : Claim7 := { stood := { row := vacuumLiveUptoRow, standIns := [], harness := (true, "e53c0d79256851f2bb91a054ff4dc9aea7edb539f49921c1c509eb4ced051440"), looks := true }, kinds := [], alts := [], laidByText := true, laidKinds := [.data, .pinned], laidTests := true, laidLooks := .later }
def VacuumLiveUptoCardSaid : Prop := Claim7.holds Tryz.pinned (.plain (OpenSpec.upto vacuumLiveSpec)) vacuumLiveUptoCard
end Rows
end Go.Proofs.YtaaabmnaindgaaaGreatDoor
