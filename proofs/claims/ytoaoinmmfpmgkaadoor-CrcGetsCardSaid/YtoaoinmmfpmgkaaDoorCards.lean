/-
  DERIVED. GIVEN WITH THE SEED: THE CARDS: each row of YtoaoinmmfpmgkaaDoorRows.lean that lists a variable, with what it lists TIED to the program's text (the seventh form; the later family's looks); each row that meets fmt, with fmt's text TOLD by the authors' own Lean function (tested against real Go, not proved from fmt's source: count such statements apart). THE CARD IS WHAT COUNTS. Prove the row's statement (the work); the ties are given (YtoaoinmmfpmgkaaDoorTie.lean); close each card by the builder's one call (the guide's Derived/Test/ToyasCard.lean, 'card_holds'). Laid BY PROGRAM, IN A SANDBOX (cutbox-door.mjs). By AI agents, Wed Nov 11 2026. No macro, syntax, notation, axiom, sorry.
-/
import Derived.Test.YtoaoinmmfpmgkaaDoorRows
import GoSem.ClaimSeven
namespace Go.Proofs.YtoaoinmmfpmgkaaDoor
namespace Rows

/-- THE TIED CARD OF 'sextonlaw03.CrcSums'. -/
def crcSumsCard : Claim7 := { stood := { row := crcSumsRow, standIns := [], harness := (true, "d2a3b7693f3e67684489759b1e383026bb82c7c2da5e5dfdca7742784a328a79"), looks := false }, kinds := [], alts := [], laidByText := true, laidKinds := [.data], laidTests := true, laidLooks := .later }
def CrcSumsCardSaid : Prop := Claim7.holds Tryd.pinned (.plain (OpenSpec.ofChange crcSumsSpec)) crcSumsCard

/-- THE TIED CARD OF 'sextonlaw03.CrcGets'. -/
def crcGetsCard : Claim7 := { stood := { row := crcGetsRow, standIns := [], harness := (true, "d2a3b7693f3e67684489759b1e383026bb82c7c2da5e5dfdca7742784a328a79"), looks := false }, kinds := [], alts := [], laidByText := true, laidKinds := [.data], laidTests := true, laidLooks := .later }
def CrcGetsCardSaid : Prop := Claim7.holds Tryd.pinned (.plain (OpenSpec.ofChange crcGetsSpec)) crcGetsCard

/-- THE TIED CARD OF 'sextonlaw03.CrcBack'. -/
def crcBackCard : Claim7 := { stood := { row := crcBackRow, standIns := [], harness := (true, "d2a3b7693f3e67684489759b1e383026bb82c7c2da5e5dfdca7742784a328a79"), looks := false }, kinds := [], alts := [], laidByText := true, laidKinds := [.data], laidTests := true, laidLooks := .later }
def CrcBackCardSaid : Prop := Claim7.holds Tryd.pinned (.plain (OpenSpec.ofChange crcBackSpec)) crcBackCard

/-- THE TIED CARD OF 'sextonlaw03.CrcCut'. -/
def crcCutCard : Claim7 := { stood := { row := crcCutRow, standIns := [], harness := (true, "d2a3b7693f3e67684489759b1e383026bb82c7c2da5e5dfdca7742784a328a79"), looks := false }, kinds := [], alts := [], laidByText := true, laidKinds := [.data], laidTests := true, laidLooks := .later }
def CrcCutCardSaid : Prop := Claim7.holds Tryd.pinned (.plain (OpenSpec.ofChange crcCutSpec)) crcCutCard

/-- THE TIED CARD OF 'sextonlaw03.CrcBit'. -/
def crcBitCard : Claim7 := { stood := { row := crcBitRow, standIns := [], harness := (true, "d2a3b7693f3e67684489759b1e383026bb82c7c2da5e5dfdca7742784a328a79"), looks := false }, kinds := [], alts := [], laidByText := true, laidKinds := [.data], laidTests := true, laidLooks := .later }
def CrcBitCardSaid : Prop := Claim7.holds Tryd.pinned (.plain (OpenSpec.ofChange crcBitSpec)) crcBitCard

/-- THE SECOND FORM's CARD OF 'sextonlaw03.CrcSums'. -/
def crcSumsUptoCard : Claim7 := { stood := { row := crcSumsUptoRow, standIns := [], harness := (true, "d2a3b7693f3e67684489759b1e383026bb82c7c2da5e5dfdca7742784a328a79"), looks := false }, kinds := [], alts := [], laidByText := true, laidKinds := [.data], laidTests := true, laidLooks := .later }
def CrcSumsUptoCardSaid : Prop := Claim7.holds Tryd.pinned (.plain (OpenSpec.upto crcSumsSpec)) crcSumsUptoCard

/-- THE SECOND FORM's CARD OF 'sextonlaw03.CrcGets'. -/
def crcGetsUptoCard : Claim7 := { stood := { row := crcGetsUptoRow, standIns := [], harness := (true, "d2a3b7693f3e67684489759b1e383026bb82c7c2da5e5dfdca7742784a328a79"), looks := false }, kinds := [], alts := [], laidByText := true, laidKinds := [.data], laidTests := true, laidLooks := .later }
def CrcGetsUptoCardSaid : Prop := Claim7.holds Tryd.pinned (.plain (OpenSpec.upto crcGetsSpec)) crcGetsUptoCard

/-- THE SECOND FORM's CARD OF 'sextonlaw03.CrcBack'. -/
def crcBackUptoCard : Claim7 := { stood := { row := crcBackUptoRow, standIns := [], harness := (true, "d2a3b7693f3e67684489759b1e383026bb82c7c2da5e5dfdca7742784a328a79"), looks := false }, kinds := [], alts := [], laidByText := true, laidKinds := [.data], laidTests := true, laidLooks := .later }
def CrcBackUptoCardSaid : Prop := Claim7.holds Tryd.pinned (.plain (OpenSpec.upto crcBackSpec)) crcBackUptoCard

/-- THE SECOND FORM's CARD OF 'sextonlaw03.CrcCut'. -/
def crcCutUptoCard : Claim7 := { stood := { row := crcCutUptoRow, standIns := [], harness := (true, "d2a3b7693f3e67684489759b1e383026bb82c7c2da5e5dfdca7742784a328a79"), looks := false }, kinds := [], alts := [], laidByText := true, laidKinds := [.data], laidTests := true, laidLooks := .later }
def CrcCutUptoCardSaid : Prop := Claim7.holds Tryd.pinned (.plain (OpenSpec.upto crcCutSpec)) crcCutUptoCard

/-- THE SECOND FORM's CARD OF 'sextonlaw03.CrcBit'. -/
def crcBitUptoCard : Claim7 := { stood := { row := crcBitUptoRow, standIns := [], harness := (true, "d2a3b7693f3e67684489759b1e383026bb82c7c2da5e5dfdca7742784a328a79"), looks := false }, kinds := [], alts := [], laidByText := true, laidKinds := [.data], laidTests := true, laidLooks := .later }
def CrcBitUptoCardSaid : Prop := Claim7.holds Tryd.pinned (.plain (OpenSpec.upto crcBitSpec)) crcBitUptoCard
end Rows
end Go.Proofs.YtoaoinmmfpmgkaaDoor
