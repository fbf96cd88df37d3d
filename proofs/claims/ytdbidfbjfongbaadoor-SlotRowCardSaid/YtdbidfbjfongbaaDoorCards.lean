/-
  DERIVED. GIVEN WITH THE SEED: THE CARDS: each row of YtdbidfbjfongbaaDoorRows.lean that lists a variable, with what it lists TIED to the program's text (the seventh form; the later family's looks); each row that meets fmt, with fmt's text TOLD by the authors' own Lean function (tested against real Go, not proved from fmt's source: count such statements apart). THE CARD IS WHAT COUNTS. Prove the row's statement (the work); the ties are given (YtdbidfbjfongbaaDoorTie.lean); close each card by the builder's one call (the guide's Derived/Test/ToyasCard.lean, 'card_holds'). Laid BY PROGRAM, IN A SANDBOX (cutbox-door.mjs). By AI agents, Wed Nov 11 2026. No macro, syntax, notation, axiom, sorry.
-/
import Derived.Test.YtdbidfbjfongbaaDoorRows
import GoSem.ClaimSeven
namespace Go.Proofs.YtdbidfbjfongbaaDoor
namespace Rows

/-- THE TIED CARD OF 'sextonlaw06.SlotBack'. -/
def slotBackCard : Claim7 := { stood := { row := slotBackRow, standIns := [], harness := (true, "94a5a2d66bea6afd6a2c075f4d401ade46368436333fd748b513ec0e9a33bdc0"), looks := false }, kinds := [], alts := [], laidByText := true, laidKinds := [.data], laidTests := true, laidLooks := .later }
def SlotBackCardSaid : Prop := Claim7.holds Tryd.pinned (.plain (OpenSpec.ofChange slotBackSpec)) slotBackCard

/-- THE TIED CARD OF 'sextonlaw06.SlotCrash'. -/
def slotCrashCard : Claim7 := { stood := { row := slotCrashRow, standIns := [], harness := (true, "94a5a2d66bea6afd6a2c075f4d401ade46368436333fd748b513ec0e9a33bdc0"), looks := false }, kinds := [], alts := [], laidByText := true, laidKinds := [.data], laidTests := true, laidLooks := .later }
def SlotCrashCardSaid : Prop := Claim7.holds Tryd.pinned (.plain (OpenSpec.ofChange slotCrashSpec)) slotCrashCard

/-- THE TIED CARD OF 'sextonlaw06.SlotRow'. -/
def slotRowCard : Claim7 := { stood := { row := slotRowRow, standIns := [], harness := (true, "94a5a2d66bea6afd6a2c075f4d401ade46368436333fd748b513ec0e9a33bdc0"), looks := false }, kinds := [], alts := [], laidByText := true, laidKinds := [.data], laidTests := true, laidLooks := .later }
def SlotRowCardSaid : Prop := Claim7.holds Tryd.pinned (.plain (OpenSpec.ofChange slotRowSpec)) slotRowCard

/-- THE TIED CARD OF 'sextonlaw06.SlotTwice'. -/
def slotTwiceCard : Claim7 := { stood := { row := slotTwiceRow, standIns := [], harness := (true, "94a5a2d66bea6afd6a2c075f4d401ade46368436333fd748b513ec0e9a33bdc0"), looks := false }, kinds := [], alts := [], laidByText := true, laidKinds := [.data], laidTests := true, laidLooks := .later }
def SlotTwiceCardSaid : Prop := Claim7.holds Tryd.pinned (.plain (OpenSpec.ofChange slotTwiceSpec)) slotTwiceCard

/-- THE SECOND FORM's CARD OF 'sextonlaw06.SlotBack'. -/
def slotBackUptoCard : Claim7 := { stood := { row := slotBackUptoRow, standIns := [], harness := (true, "94a5a2d66bea6afd6a2c075f4d401ade46368436333fd748b513ec0e9a33bdc0"), looks := false }, kinds := [], alts := [], laidByText := true, laidKinds := [.data], laidTests := true, laidLooks := .later }
def SlotBackUptoCardSaid : Prop := Claim7.holds Tryd.pinned (.plain (OpenSpec.upto slotBackSpec)) slotBackUptoCard

/-- THE SECOND FORM's CARD OF 'sextonlaw06.SlotCrash'. -/
def slotCrashUptoCard : Claim7 := { stood := { row := slotCrashUptoRow, standIns := [], harness := (true, "94a5a2d66bea6afd6a2c075f4d401ade46368436333fd748b513ec0e9a33bdc0"), looks := false }, kinds := [], alts := [], laidByText := true, laidKinds := [.data], laidTests := true, laidLooks := .later }
def SlotCrashUptoCardSaid : Prop := Claim7.holds Tryd.pinned (.plain (OpenSpec.upto slotCrashSpec)) slotCrashUptoCard

/-- THE SECOND FORM's CARD OF 'sextonlaw06.SlotRow'. -/
def slotRowUptoCard : Claim7 := { stood := { row := slotRowUptoRow, standIns := [], harness := (true, "94a5a2d66bea6afd6a2c075f4d401ade46368436333fd748b513ec0e9a33bdc0"), looks := false }, kinds := [], alts := [], laidByText := true, laidKinds := [.data], laidTests := true, laidLooks := .later }
def SlotRowUptoCardSaid : Prop := Claim7.holds Tryd.pinned (.plain (OpenSpec.upto slotRowSpec)) slotRowUptoCard

/-- THE SECOND FORM's CARD OF 'sextonlaw06.SlotTwice'. -/
def slotTwiceUptoCard : Claim7 := { stood := { row := slotTwiceUptoRow, standIns := [], harness := (true, "94a5a2d66bea6afd6a2c075f4d401ade46368436333fd748b513ec0e9a33bdc0"), looks := false }, kinds := [], alts := [], laidByText := true, laidKinds := [.data], laidTests := true, laidLooks := .later }
def SlotTwiceUptoCardSaid : Prop := Claim7.holds Tryd.pinned (.plain (OpenSpec.upto slotTwiceSpec)) slotTwiceUptoCard
end Rows
end Go.Proofs.YtdbidfbjfongbaaDoor
