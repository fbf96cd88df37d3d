/-
  DERIVED. GIVEN WITH THE SEED: THE CARDS: each row of YtifgcfgpkhgfoaaDoorRows.lean that lists a variable, with what it lists TIED to the program's text (the seventh form; the later family's looks); each row that meets fmt, with fmt's text TOLD by the authors' own Lean function (tested against real Go, not proved from fmt's source: count such statements apart). THE CARD IS WHAT COUNTS. Prove the row's statement (the work); the ties are given (YtifgcfgpkhgfoaaDoorTie.lean); close each card by the builder's one call (the guide's Derived/Test/ToyasCard.lean, 'card_holds'). Laid BY PROGRAM, IN A SANDBOX (cutbox-door.mjs). By AI agents, Wed Nov 11 2026. No macro, syntax, notation, axiom, sorry.
-/
import Derived.Test.YtifgcfgpkhgfoaaDoorRows
import GoSem.ClaimSeven
namespace Go.Proofs.YtifgcfgpkhgfoaaDoor
namespace Rows

/-- THE TIED CARD OF 'sextonlaw02.PathNorms'. -/
def pathNormsCard : Claim7 := { stood := { row := pathNormsRow, standIns := [], harness := (true, "06b5085c462eef6417e522f127d1c330a2ed654c76d2b7cb44d87fce6c2a8226"), looks := false }, kinds := [], alts := [], laidByText := true, laidKinds := [.data, .pinned], laidTests := true, laidLooks := .later }
def PathNormsCardSaid : Prop := Claim7.holds Tryd.pinned (.plain (OpenSpec.ofChange pathNormsSpec)) pathNormsCard

/-- THE TIED CARD OF 'sextonlaw02.PathParts'. -/
def pathPartsCard : Claim7 := { stood := { row := pathPartsRow, standIns := [], harness := (true, "06b5085c462eef6417e522f127d1c330a2ed654c76d2b7cb44d87fce6c2a8226"), looks := false }, kinds := [], alts := [], laidByText := true, laidKinds := [.data, .pinned], laidTests := true, laidLooks := .later }
def PathPartsCardSaid : Prop := Claim7.holds Tryd.pinned (.plain (OpenSpec.ofChange pathPartsSpec)) pathPartsCard

/-- THE TIED CARD OF 'sextonlaw02.PathTwice'. -/
def pathTwiceCard : Claim7 := { stood := { row := pathTwiceRow, standIns := [], harness := (true, "06b5085c462eef6417e522f127d1c330a2ed654c76d2b7cb44d87fce6c2a8226"), looks := false }, kinds := [], alts := [], laidByText := true, laidKinds := [.data, .pinned], laidTests := true, laidLooks := .later }
def PathTwiceCardSaid : Prop := Claim7.holds Tryd.pinned (.plain (OpenSpec.ofChange pathTwiceSpec)) pathTwiceCard

/-- THE TIED CARD OF 'sextonlaw02.PathBack'. -/
def pathBackCard : Claim7 := { stood := { row := pathBackRow, standIns := [], harness := (true, "06b5085c462eef6417e522f127d1c330a2ed654c76d2b7cb44d87fce6c2a8226"), looks := false }, kinds := [], alts := [], laidByText := true, laidKinds := [.data, .pinned], laidTests := true, laidLooks := .later }
def PathBackCardSaid : Prop := Claim7.holds Tryd.pinned (.plain (OpenSpec.ofChange pathBackSpec)) pathBackCard

/-- THE TIED CARD OF 'sextonlaw02.PathUnder'. -/
def pathUnderCard : Claim7 := { stood := { row := pathUnderRow, standIns := [], harness := (true, "06b5085c462eef6417e522f127d1c330a2ed654c76d2b7cb44d87fce6c2a8226"), looks := false }, kinds := [], alts := [], laidByText := true, laidKinds := [.data, .pinned], laidTests := true, laidLooks := .later }
def PathUnderCardSaid : Prop := Claim7.holds Tryd.pinned (.plain (OpenSpec.ofChange pathUnderSpec)) pathUnderCard

/-- THE TIED CARD OF 'sextonlaw02.PathJoins'. -/
def pathJoinsCard : Claim7 := { stood := { row := pathJoinsRow, standIns := [], harness := (true, "06b5085c462eef6417e522f127d1c330a2ed654c76d2b7cb44d87fce6c2a8226"), looks := false }, kinds := [], alts := [], laidByText := true, laidKinds := [.data, .pinned], laidTests := true, laidLooks := .later }
def PathJoinsCardSaid : Prop := Claim7.holds Tryd.pinned (.plain (OpenSpec.ofChange pathJoinsSpec)) pathJoinsCard

/-- THE SECOND FORM's CARD OF 'sextonlaw02.PathNorms'. -/
def pathNormsUptoCard : Claim7 := { stood := { row := pathNormsUptoRow, standIns := [], harness := (true, "06b5085c462eef6417e522f127d1c330a2ed654c76d2b7cb44d87fce6c2a8226"), looks := false }, kinds := [], alts := [], laidByText := true, laidKinds := [.data, .pinned], laidTests := true, laidLooks := .later }
def PathNormsUptoCardSaid : Prop := Claim7.holds Tryd.pinned (.plain (OpenSpec.upto pathNormsSpec)) pathNormsUptoCard

/-- THE SECOND FORM's CARD OF 'sextonlaw02.PathParts'. -/
def pathPartsUptoCard : Claim7 := { stood := { row := pathPartsUptoRow, standIns := [], harness := (true, "06b5085c462eef6417e522f127d1c330a2ed654c76d2b7cb44d87fce6c2a8226"), looks := false }, kinds := [], alts := [], laidByText := true, laidKinds := [.data, .pinned], laidTests := true, laidLooks := .later }
def PathPartsUptoCardSaid : Prop := Claim7.holds Tryd.pinned (.plain (OpenSpec.upto pathPartsSpec)) pathPartsUptoCard

/-- THE SECOND FORM's CARD OF 'sextonlaw02.PathTwice'. -/
def pathTwiceUptoCard : Claim7 := { stood := { row := pathTwiceUptoRow, standIns := [], harness := (true, "06b5085c462eef6417e522f127d1c330a2ed654c76d2b7cb44d87fce6c2a8226"), looks := false }, kinds := [], alts := [], laidByText := true, laidKinds := [.data, .pinned], laidTests := true, laidLooks := .later }
def PathTwiceUptoCardSaid : Prop := Claim7.holds Tryd.pinned (.plain (OpenSpec.upto pathTwiceSpec)) pathTwiceUptoCard

/-- THE SECOND FORM's CARD OF 'sextonlaw02.PathBack'. -/
def pathBackUptoCard : Claim7 := { stood := { row := pathBackUptoRow, standIns := [], harness := (true, "06b5085c462eef6417e522f127d1c330a2ed654c76d2b7cb44d87fce6c2a8226"), looks := false }, kinds := [], alts := [], laidByText := true, laidKinds := [.data, .pinned], laidTests := true, laidLooks := .later }
def PathBackUptoCardSaid : Prop := Claim7.holds Tryd.pinned (.plain (OpenSpec.upto pathBackSpec)) pathBackUptoCard

/-- THE SECOND FORM's CARD OF 'sextonlaw02.PathUnder'. -/
def pathUnderUptoCard : Claim7 := { stood := { row := pathUnderUptoRow, standIns := [], harness := (true, "06b5085c462eef6417e522f127d1c330a2ed654c76d2b7cb44d87fce6c2a8226"), looks := false }, kinds := [], alts := [], laidByText := true, laidKinds := [.data, .pinned], laidTests := true, laidLooks := .later }
def PathUnderUptoCardSaid : Prop := Claim7.holds Tryd.pinned (.plain (OpenSpec.upto pathUnderSpec)) pathUnderUptoCard

/-- THE SECOND FORM's CARD OF 'sextonlaw02.PathJoins'. -/
def pathJoinsUptoCard : Claim7 := { stood := { row := pathJoinsUptoRow, standIns := [], harness := (true, "06b5085c462eef6417e522f127d1c330a2ed654c76d2b7cb44d87fce6c2a8226"), looks := false }, kinds := [], alts := [], laidByText := true, laidKinds := [.data, .pinned], laidTests := true, laidLooks := .later }
def PathJoinsUptoCardSaid : Prop := Claim7.holds Tryd.pinned (.plain (OpenSpec.upto pathJoinsSpec)) pathJoinsUptoCard
end Rows
end Go.Proofs.YtifgcfgpkhgfoaaDoor
