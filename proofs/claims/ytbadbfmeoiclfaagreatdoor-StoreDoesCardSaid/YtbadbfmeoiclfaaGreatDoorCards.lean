/-
  DERIVED. GIVEN WITH THE SEED: THE CARDS: each row of YtbadbfmeoiclfaaGreatDoorRows.lean that lists a variable, with what it lists TIED to the program's text (the seventh form; the later family's looks); each row that meets fmt, with fmt's text TOLD by the authors' own Lean function (tested against real Go, not proved from fmt's source: count such statements apart). THE CARD IS WHAT COUNTS. Prove the row's statement (the work); the ties are given (YtbadbfmeoiclfaaGreatDoorTie.lean); close each card by the builder's one call (the guide's Derived/Test/ToyasCard.lean, 'card_holds'). Laid BY PROGRAM, IN A SANDBOX (cutbox-door.mjs). By AI agents, Wed Nov 11 2026. No macro, syntax, notation, axiom, sorry.
-/
import Derived.Test.YtbadbfmeoiclfaaGreatDoorRows
import GoSem.ClaimSeven
namespace Go.Proofs.YtbadbfmeoiclfaaGreatDoor
namespace Rows

/-- THE TIED CARD OF 'sextonlaw15.StoreDoes'. -/
def storeDoesCard : Claim7 := { stood := { row := storeDoesRow, standIns := [], harness := (true, "786a9b9baca308a81677a26254b9a6d73b9b9a6162d8ff43b4c9286d5d950de8"), looks := true }, kinds := [], alts := [], laidByText := true, laidKinds := [.data, .pinned], laidTests := true, laidLooks := .later }
def StoreDoesCardSaid : Prop := Claim7.holds Tryz.pinned (.plain (OpenSpec.ofChange storeDoesSpec)) storeDoesCard

/-- THE TIED CARD OF 'sextonlaw15.StoreModel'. -/
def storeModelCard : Claim7 := { stood := { row := storeModelRow, standIns := [], harness := (true, "786a9b9baca308a81677a26254b9a6d73b9b9a6162d8ff43b4c9286d5d950de8"), looks := true }, kinds := [], alts := [], laidByText := true, laidKinds := [.data, .pinned], laidTests := true, laidLooks := .later }
def StoreModelCardSaid : Prop := Claim7.holds Tryz.pinned (.plain (OpenSpec.ofChange storeModelSpec)) storeModelCard

/-- THE TIED CARD OF 'sextonlaw15.StoreStays'. -/
def storeStaysCard : Claim7 := { stood := { row := storeStaysRow, standIns := [], harness := (true, "786a9b9baca308a81677a26254b9a6d73b9b9a6162d8ff43b4c9286d5d950de8"), looks := true }, kinds := [], alts := [], laidByText := true, laidKinds := [.data, .pinned], laidTests := true, laidLooks := .later }
def StoreStaysCardSaid : Prop := Claim7.holds Tryz.pinned (.plain (OpenSpec.ofChange storeStaysSpec)) storeStaysCard

/-- THE TIED CARD OF 'sextonlaw15.StoreLists'. -/
def storeListsCard : Claim7 := { stood := { row := storeListsRow, standIns := [], harness := (true, "786a9b9baca308a81677a26254b9a6d73b9b9a6162d8ff43b4c9286d5d950de8"), looks := true }, kinds := [], alts := [], laidByText := true, laidKinds := [.data, .pinned], laidTests := true, laidLooks := .later }
def StoreListsCardSaid : Prop := Claim7.holds Tryz.pinned (.plain (OpenSpec.ofChange storeListsSpec)) storeListsCard

/-- THE TIED CARD OF 'sextonlaw15.StoreRises'. -/
def storeRisesCard : Claim7 := { stood := { row := storeRisesRow, standIns := [], harness := (true, "786a9b9baca308a81677a26254b9a6d73b9b9a6162d8ff43b4c9286d5d950de8"), looks := true }, kinds := [], alts := [], laidByText := true, laidKinds := [.data, .pinned], laidTests := true, laidLooks := .later }
def StoreRisesCardSaid : Prop := Claim7.holds Tryz.pinned (.plain (OpenSpec.ofChange storeRisesSpec)) storeRisesCard

/-- THE SECOND FORM's CARD OF 'sextonlaw15.StoreDoes'. -/
def storeDoesUptoCard : Claim7 := { stood := { row := storeDoesUptoRow, standIns := [], harness := (true, "786a9b9baca308a81677a26254b9a6d73b9b9a6162d8ff43b4c9286d5d950de8"), looks := true }, kinds := [], alts := [], laidByText := true, laidKinds := [.data, .pinned], laidTests := true, laidLooks := .later }
def StoreDoesUptoCardSaid : Prop := Claim7.holds Tryz.pinned (.plain (OpenSpec.upto storeDoesSpec)) storeDoesUptoCard

/-- THE SECOND FORM's CARD OF 'sextonlaw15.StoreModel'. -/
def storeModelUptoCard : Claim7 := { stood := { row := storeModelUptoRow, standIns := [], harness := (true, "786a9b9baca308a81677a26254b9a6d73b9b9a6162d8ff43b4c9286d5d950de8"), looks := true }, kinds := [], alts := [], laidByText := true, laidKinds := [.data, .pinned], laidTests := true, laidLooks := .later }
def StoreModelUptoCardSaid : Prop := Claim7.holds Tryz.pinned (.plain (OpenSpec.upto storeModelSpec)) storeModelUptoCard

/-- THE SECOND FORM's CARD OF 'sextonlaw15.StoreStays'. -/
def storeStaysUptoCard : Claim7 := { stood := { row := storeStaysUptoRow, standIns := [], harness := (true, "786a9b9baca308a81677a26254b9a6d73b9b9a6162d8ff43b4c9286d5d950de8"), looks := true }, kinds := [], alts := [], laidByText := true, laidKinds := [.data, .pinned], laidTests := true, laidLooks := .later }
def StoreStaysUptoCardSaid : Prop := Claim7.holds Tryz.pinned (.plain (OpenSpec.upto storeStaysSpec)) storeStaysUptoCard

/-- THE SECOND FORM's CARD OF 'sextonlaw15.StoreLists'. -/
def storeListsUptoCard : Claim7 := { stood := { row := storeListsUptoRow, standIns := [], harness := (true, "786a9b9baca308a81677a26254b9a6d73b9b9a6162d8ff43b4c9286d5d950de8"), looks := true }, kinds := [], alts := [], laidByText := true, laidKinds := [.data, .pinned], laidTests := true, laidLooks := .later }
def StoreListsUptoCardSaid : Prop := Claim7.holds Tryz.pinned (.plain (OpenSpec.upto storeListsSpec)) storeListsUptoCard

/-- THE SECOND FORM's CARD OF 'sextonlaw15.StoreRises'. -/
def storeRisesUptoCard : Claim7 := { stood := { row := storeRisesUptoRow, standIns := [], harness := (true, "786a9b9baca308a81677a26254b9a6d73b9b9a6162d8ff43b4c9286d5d950de8"), looks := true }, kinds := [], alts := [], laidByText := true, laidKinds := [.data, .pinned], laidTests := true, laidLooks := .later }
def StoreRisesUptoCardSaid : Prop := Claim7.holds Tryz.pinned (.plain (OpenSpec.upto storeRisesSpec)) storeRisesUptoCard
end Rows
end Go.Proofs.YtbadbfmeoiclfaaGreatDoor
