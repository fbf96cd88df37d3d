/-
  DERIVED. GIVEN WITH THE SEED: THE CARDS: each row of YtogicnciheedoaaDoorRows.lean that lists a variable, with what it lists TIED to the program's text (the seventh form; the later family's looks); each row that meets fmt, with fmt's text TOLD by the authors' own Lean function (tested against real Go, not proved from fmt's source: count such statements apart). THE CARD IS WHAT COUNTS. Prove the row's statement (the work); the ties are given (YtogicnciheedoaaDoorTie.lean); close each card by the builder's one call (the guide's Derived/Test/ToyasCard.lean, 'card_holds'). Laid BY PROGRAM, IN A SANDBOX (cutbox-door.mjs). By AI agents, Wed Nov 11 2026. No macro, syntax, notation, axiom, sorry.
-/
import Derived.Test.YtogicnciheedoaaDoorRows
import GoSem.ClaimSeven
namespace Go.Proofs.YtogicnciheedoaaDoor
namespace Rows

/-- THE TIED CARD OF 'sextonlaw16.DiffRows'. -/
def diffRowsCard : Claim7 := { stood := { row := diffRowsRow, standIns := [], harness := (true, "e549765f1ba5318d7406bcdb532cd3770e9dc70841a50c0e07f286737f45492d"), looks := false }, kinds := [], alts := [], laidByText := true, laidKinds := [.data, .data], laidTests := true, laidLooks := .later }
def DiffRowsCardSaid : Prop := Claim7.holds Tryd.pinned (.plain (OpenSpec.ofChange diffRowsSpec)) diffRowsCard

/-- THE SECOND FORM's CARD OF 'sextonlaw16.DiffRows'. -/
def diffRowsUptoCard : Claim7 := { stood := { row := diffRowsUptoRow, standIns := [], harness := (true, "e549765f1ba5318d7406bcdb532cd3770e9dc70841a50c0e07f286737f45492d"), looks := false }, kinds := [], alts := [], laidByText := true, laidKinds := [.data, .data], laidTests := true, laidLooks := .later }
def DiffRowsUptoCardSaid : Prop := Claim7.holds Tryd.pinned (.plain (OpenSpec.upto diffRowsSpec)) diffRowsUptoCard
end Rows
end Go.Proofs.YtogicnciheedoaaDoor
