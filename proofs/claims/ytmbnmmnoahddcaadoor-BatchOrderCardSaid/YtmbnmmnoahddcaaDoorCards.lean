/-
  DERIVED. GIVEN WITH THE SEED: THE CARDS: each row of YtmbnmmnoahddcaaDoorRows.lean that lists a variable, with what it lists TIED to the program's text (the seventh form; the later family's looks); each row that meets fmt, with fmt's text TOLD by the authors' own Lean function (tested against real Go, not proved from fmt's source: count such statements apart). THE CARD IS WHAT COUNTS. Prove the row's statement (the work); the ties are given (YtmbnmmnoahddcaaDoorTie.lean); close each card by the builder's one call (the guide's Derived/Test/ToyasCard.lean, 'card_holds'). Laid BY PROGRAM, IN A SANDBOX (cutbox-door.mjs). By AI agents, Wed Nov 11 2026. No macro, syntax, notation, axiom, sorry.
-/
import Derived.Test.YtmbnmmnoahddcaaDoorRows
import GoSem.ClaimSeven
namespace Go.Proofs.YtmbnmmnoahddcaaDoor
namespace Rows

/-- THE TIED CARD OF 'sextonlaw14.BatchBack'. -/
def batchBackCard : Claim7 := { stood := { row := batchBackRow, standIns := [], harness := (true, "17e5eaf1a58ef349d39aeea227c7e4bca37f8957a82d24f1c9402d7c1300ce6b"), looks := false }, kinds := [], alts := [], laidByText := true, laidKinds := [.data, .pinned], laidTests := true, laidLooks := .later }
def BatchBackCardSaid : Prop := Claim7.holds Tryd.pinned (.plain (OpenSpec.ofChange batchBackSpec)) batchBackCard

/-- THE TIED CARD OF 'sextonlaw14.BatchOrder'. -/
def batchOrderCard : Claim7 := { stood := { row := batchOrderRow, standIns := [], harness := (true, "17e5eaf1a58ef349d39aeea227c7e4bca37f8957a82d24f1c9402d7c1300ce6b"), looks := false }, kinds := [], alts := [], laidByText := true, laidKinds := [.data, .pinned], laidTests := true, laidLooks := .later }
def BatchOrderCardSaid : Prop := Claim7.holds Tryd.pinned (.plain (OpenSpec.ofChange batchOrderSpec)) batchOrderCard

/-- THE TIED CARD OF 'sextonlaw14.BatchLast'. -/
def batchLastCard : Claim7 := { stood := { row := batchLastRow, standIns := [], harness := (true, "17e5eaf1a58ef349d39aeea227c7e4bca37f8957a82d24f1c9402d7c1300ce6b"), looks := false }, kinds := [], alts := [], laidByText := true, laidKinds := [.data, .pinned], laidTests := true, laidLooks := .later }
def BatchLastCardSaid : Prop := Claim7.holds Tryd.pinned (.plain (OpenSpec.ofChange batchLastSpec)) batchLastCard

/-- THE SECOND FORM's CARD OF 'sextonlaw14.BatchBack'. -/
def batchBackUptoCard : Claim7 := { stood := { row := batchBackUptoRow, standIns := [], harness := (true, "17e5eaf1a58ef349d39aeea227c7e4bca37f8957a82d24f1c9402d7c1300ce6b"), looks := false }, kinds := [], alts := [], laidByText := true, laidKinds := [.data, .pinned], laidTests := true, laidLooks := .later }
def BatchBackUptoCardSaid : Prop := Claim7.holds Tryd.pinned (.plain (OpenSpec.upto batchBackSpec)) batchBackUptoCard

/-- THE SECOND FORM's CARD OF 'sextonlaw14.BatchOrder'. -/
def batchOrderUptoCard : Claim7 := { stood := { row := batchOrderUptoRow, standIns := [], harness := (true, "17e5eaf1a58ef349d39aeea227c7e4bca37f8957a82d24f1c9402d7c1300ce6b"), looks := false }, kinds := [], alts := [], laidByText := true, laidKinds := [.data, .pinned], laidTests := true, laidLooks := .later }
def BatchOrderUptoCardSaid : Prop := Claim7.holds Tryd.pinned (.plain (OpenSpec.upto batchOrderSpec)) batchOrderUptoCard

/-- THE SECOND FORM's CARD OF 'sextonlaw14.BatchLast'. -/
def batchLastUptoCard : Claim7 := { stood := { row := batchLastUptoRow, standIns := [], harness := (true, "17e5eaf1a58ef349d39aeea227c7e4bca37f8957a82d24f1c9402d7c1300ce6b"), looks := false }, kinds := [], alts := [], laidByText := true, laidKinds := [.data, .pinned], laidTests := true, laidLooks := .later }
def BatchLastUptoCardSaid : Prop := Claim7.holds Tryd.pinned (.plain (OpenSpec.upto batchLastSpec)) batchLastUptoCard
end Rows
end Go.Proofs.YtmbnmmnoahddcaaDoor
