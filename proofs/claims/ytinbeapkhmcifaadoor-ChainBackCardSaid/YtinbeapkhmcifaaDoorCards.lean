/-
  DERIVED. GIVEN WITH THE SEED: THE CARDS: each row of YtinbeapkhmcifaaDoorRows.lean that lists a variable, with what it lists TIED to the program's text (the seventh form; the later family's looks); each row that meets fmt, with fmt's text TOLD by the authors' own Lean function (tested against real Go, not proved from fmt's source: count such statements apart). THE CARD IS WHAT COUNTS. Prove the row's statement (the work); the ties are given (YtinbeapkhmcifaaDoorTie.lean); close each card by the builder's one call (the guide's Derived/Test/ToyasCard.lean, 'card_holds'). Laid BY PROGRAM, IN A SANDBOX (cutbox-door.mjs). By AI agents, Wed Nov 11 2026. No macro, syntax, notation, axiom, sorry.
-/
import Derived.Test.YtinbeapkhmcifaaDoorRows
import GoSem.ClaimSeven
namespace Go.Proofs.YtinbeapkhmcifaaDoor
namespace Rows

/-- THE TIED CARD OF 'sextonlaw13.ChainDoes'. -/
def chainDoesCard : Claim7 := { stood := { row := chainDoesRow, standIns := [], harness := (true, "1972e52fa91d4cfae49c5333239b441c9ca943465c897dad11a003bda361919a"), looks := false }, kinds := [], alts := [], laidByText := true, laidKinds := [.data], laidTests := true, laidLooks := .later }
def ChainDoesCardSaid : Prop := Claim7.holds Tryd.pinned (.plain (OpenSpec.ofChange chainDoesSpec)) chainDoesCard

/-- THE TIED CARD OF 'sextonlaw13.ChainBack'. -/
def chainBackCard : Claim7 := { stood := { row := chainBackRow, standIns := [], harness := (true, "1972e52fa91d4cfae49c5333239b441c9ca943465c897dad11a003bda361919a"), looks := false }, kinds := [], alts := [], laidByText := true, laidKinds := [.data], laidTests := true, laidLooks := .later }
def ChainBackCardSaid : Prop := Claim7.holds Tryd.pinned (.plain (OpenSpec.ofChange chainBackSpec)) chainBackCard

/-- THE TIED CARD OF 'sextonlaw13.ChainWhole'. -/
def chainWholeCard : Claim7 := { stood := { row := chainWholeRow, standIns := [], harness := (true, "1972e52fa91d4cfae49c5333239b441c9ca943465c897dad11a003bda361919a"), looks := false }, kinds := [], alts := [], laidByText := true, laidKinds := [.data], laidTests := true, laidLooks := .later }
def ChainWholeCardSaid : Prop := Claim7.holds Tryd.pinned (.plain (OpenSpec.ofChange chainWholeSpec)) chainWholeCard

/-- THE TIED CARD OF 'sextonlaw13.ChainLess'. -/
def chainLessCard : Claim7 := { stood := { row := chainLessRow, standIns := [], harness := (true, "1972e52fa91d4cfae49c5333239b441c9ca943465c897dad11a003bda361919a"), looks := false }, kinds := [], alts := [], laidByText := true, laidKinds := [.data], laidTests := true, laidLooks := .later }
def ChainLessCardSaid : Prop := Claim7.holds Tryd.pinned (.plain (OpenSpec.ofChange chainLessSpec)) chainLessCard

/-- THE TIED CARD OF 'sextonlaw13.ChainFewer'. -/
def chainFewerCard : Claim7 := { stood := { row := chainFewerRow, standIns := [], harness := (true, "1972e52fa91d4cfae49c5333239b441c9ca943465c897dad11a003bda361919a"), looks := false }, kinds := [], alts := [], laidByText := true, laidKinds := [.data], laidTests := true, laidLooks := .later }
def ChainFewerCardSaid : Prop := Claim7.holds Tryd.pinned (.plain (OpenSpec.ofChange chainFewerSpec)) chainFewerCard

/-- THE SECOND FORM's CARD OF 'sextonlaw13.ChainDoes'. -/
def chainDoesUptoCard : Claim7 := { stood := { row := chainDoesUptoRow, standIns := [], harness := (true, "1972e52fa91d4cfae49c5333239b441c9ca943465c897dad11a003bda361919a"), looks := false }, kinds := [], alts := [], laidByText := true, laidKinds := [.data], laidTests := true, laidLooks := .later }
def ChainDoesUptoCardSaid : Prop := Claim7.holds Tryd.pinned (.plain (OpenSpec.upto chainDoesSpec)) chainDoesUptoCard

/-- THE SECOND FORM's CARD OF 'sextonlaw13.ChainBack'. -/
def chainBackUptoCard : Claim7 := { stood := { row := chainBackUptoRow, standIns := [], harness := (true, "1972e52fa91d4cfae49c5333239b441c9ca943465c897dad11a003bda361919a"), looks := false }, kinds := [], alts := [], laidByText := true, laidKinds := [.data], laidTests := true, laidLooks := .later }
def ChainBackUptoCardSaid : Prop := Claim7.holds Tryd.pinned (.plain (OpenSpec.upto chainBackSpec)) chainBackUptoCard

/-- THE SECOND FORM's CARD OF 'sextonlaw13.ChainWhole'. -/
def chainWholeUptoCard : Claim7 := { stood := { row := chainWholeUptoRow, standIns := [], harness := (true, "1972e52fa91d4cfae49c5333239b441c9ca943465c897dad11a003bda361919a"), looks := false }, kinds := [], alts := [], laidByText := true, laidKinds := [.data], laidTests := true, laidLooks := .later }
def ChainWholeUptoCardSaid : Prop := Claim7.holds Tryd.pinned (.plain (OpenSpec.upto chainWholeSpec)) chainWholeUptoCard

/-- THE SECOND FORM's CARD OF 'sextonlaw13.ChainLess'. -/
def chainLessUptoCard : Claim7 := { stood := { row := chainLessUptoRow, standIns := [], harness := (true, "1972e52fa91d4cfae49c5333239b441c9ca943465c897dad11a003bda361919a"), looks := false }, kinds := [], alts := [], laidByText := true, laidKinds := [.data], laidTests := true, laidLooks := .later }
def ChainLessUptoCardSaid : Prop := Claim7.holds Tryd.pinned (.plain (OpenSpec.upto chainLessSpec)) chainLessUptoCard

/-- THE SECOND FORM's CARD OF 'sextonlaw13.ChainFewer'. -/
def chainFewerUptoCard : Claim7 := { stood := { row := chainFewerUptoRow, standIns := [], harness := (true, "1972e52fa91d4cfae49c5333239b441c9ca943465c897dad11a003bda361919a"), looks := false }, kinds := [], alts := [], laidByText := true, laidKinds := [.data], laidTests := true, laidLooks := .later }
def ChainFewerUptoCardSaid : Prop := Claim7.holds Tryd.pinned (.plain (OpenSpec.upto chainFewerSpec)) chainFewerUptoCard
end Rows
end Go.Proofs.YtinbeapkhmcifaaDoor
