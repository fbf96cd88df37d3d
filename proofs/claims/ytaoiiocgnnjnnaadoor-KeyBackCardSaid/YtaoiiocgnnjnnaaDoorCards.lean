/-
  DERIVED. GIVEN WITH THE SEED: THE CARDS: each row of YtaoiiocgnnjnnaaDoorRows.lean that lists a variable, with what it lists TIED to the program's text (the seventh form; the later family's looks); each row that meets fmt, with fmt's text TOLD by the authors' own Lean function (tested against real Go, not proved from fmt's source: count such statements apart). THE CARD IS WHAT COUNTS. Prove the row's statement (the work); the ties are given (YtaoiiocgnnjnnaaDoorTie.lean); close each card by the builder's one call (the guide's Derived/Test/ToyasCard.lean, 'card_holds'). Laid BY PROGRAM, IN A SANDBOX (cutbox-door.mjs). By AI agents, Wed Nov 11 2026. No macro, syntax, notation, axiom, sorry.
-/
import Derived.Test.YtaoiiocgnnjnnaaDoorRows
import GoSem.ClaimSeven
namespace Go.Proofs.YtaoiiocgnnjnnaaDoor
namespace Rows

/-- THE TIED CARD OF 'sextonlaw08.KeyDoes'. -/
def keyDoesCard : Claim7 := { stood := { row := keyDoesRow, standIns := [], harness := (true, "e3ee35eb5613bc05689e21c0786a4e43c22d93150c8857450ce07ca041177b60"), looks := false }, kinds := [], alts := [], laidByText := true, laidKinds := [.data, .pinned], laidTests := true, laidLooks := .later }
def KeyDoesCardSaid : Prop := Claim7.holds Tryd.pinned (.plain (OpenSpec.ofChange keyDoesSpec)) keyDoesCard

/-- THE TIED CARD OF 'sextonlaw08.KeyBack'. -/
def keyBackCard : Claim7 := { stood := { row := keyBackRow, standIns := [], harness := (true, "e3ee35eb5613bc05689e21c0786a4e43c22d93150c8857450ce07ca041177b60"), looks := false }, kinds := [], alts := [], laidByText := true, laidKinds := [.data, .pinned], laidTests := true, laidLooks := .later }
def KeyBackCardSaid : Prop := Claim7.holds Tryd.pinned (.plain (OpenSpec.ofChange keyBackSpec)) keyBackCard

/-- THE TIED CARD OF 'sextonlaw08.KeyOrder'. -/
def keyOrderCard : Claim7 := { stood := { row := keyOrderRow, standIns := [], harness := (true, "e3ee35eb5613bc05689e21c0786a4e43c22d93150c8857450ce07ca041177b60"), looks := false }, kinds := [], alts := [], laidByText := true, laidKinds := [.data, .pinned], laidTests := true, laidLooks := .later }
def KeyOrderCardSaid : Prop := Claim7.holds Tryd.pinned (.plain (OpenSpec.ofChange keyOrderSpec)) keyOrderCard

/-- THE TIED CARD OF 'sextonlaw08.KeyFirst'. -/
def keyFirstCard : Claim7 := { stood := { row := keyFirstRow, standIns := [], harness := (true, "e3ee35eb5613bc05689e21c0786a4e43c22d93150c8857450ce07ca041177b60"), looks := false }, kinds := [], alts := [], laidByText := true, laidKinds := [.data, .pinned], laidTests := true, laidLooks := .later }
def KeyFirstCardSaid : Prop := Claim7.holds Tryd.pinned (.plain (OpenSpec.ofChange keyFirstSpec)) keyFirstCard

/-- THE TIED CARD OF 'sextonlaw08.KeyUnder'. -/
def keyUnderCard : Claim7 := { stood := { row := keyUnderRow, standIns := [], harness := (true, "e3ee35eb5613bc05689e21c0786a4e43c22d93150c8857450ce07ca041177b60"), looks := false }, kinds := [], alts := [], laidByText := true, laidKinds := [.data, .pinned], laidTests := true, laidLooks := .later }
def KeyUnderCardSaid : Prop := Claim7.holds Tryd.pinned (.plain (OpenSpec.ofChange keyUnderSpec)) keyUnderCard

/-- THE SECOND FORM's CARD OF 'sextonlaw08.KeyDoes'. -/
def keyDoesUptoCard : Claim7 := { stood := { row := keyDoesUptoRow, standIns := [], harness := (true, "e3ee35eb5613bc05689e21c0786a4e43c22d93150c8857450ce07ca041177b60"), looks := false }, kinds := [], alts := [], laidByText := true, laidKinds := [.data, .pinned], laidTests := true, laidLooks := .later }
def KeyDoesUptoCardSaid : Prop := Claim7.holds Tryd.pinned (.plain (OpenSpec.upto keyDoesSpec)) keyDoesUptoCard

/-- THE SECOND FORM's CARD OF 'sextonlaw08.KeyBack'. -/
def keyBackUptoCard : Claim7 := { stood := { row := keyBackUptoRow, standIns := [], harness := (true, "e3ee35eb5613bc05689e21c0786a4e43c22d93150c8857450ce07ca041177b60"), looks := false }, kinds := [], alts := [], laidByText := true, laidKinds := [.data, .pinned], laidTests := true, laidLooks := .later }
def KeyBackUptoCardSaid : Prop := Claim7.holds Tryd.pinned (.plain (OpenSpec.upto keyBackSpec)) keyBackUptoCard

/-- THE SECOND FORM's CARD OF 'sextonlaw08.KeyOrder'. -/
def keyOrderUptoCard : Claim7 := { stood := { row := keyOrderUptoRow, standIns := [], harness := (true, "e3ee35eb5613bc05689e21c0786a4e43c22d93150c8857450ce07ca041177b60"), looks := false }, kinds := [], alts := [], laidByText := true, laidKinds := [.data, .pinned], laidTests := true, laidLooks := .later }
def KeyOrderUptoCardSaid : Prop := Claim7.holds Tryd.pinned (.plain (OpenSpec.upto keyOrderSpec)) keyOrderUptoCard

/-- THE SECOND FORM's CARD OF 'sextonlaw08.KeyFirst'. -/
def keyFirstUptoCard : Claim7 := { stood := { row := keyFirstUptoRow, standIns := [], harness := (true, "e3ee35eb5613bc05689e21c0786a4e43c22d93150c8857450ce07ca041177b60"), looks := false }, kinds := [], alts := [], laidByText := true, laidKinds := [.data, .pinned], laidTests := true, laidLooks := .later }
def KeyFirstUptoCardSaid : Prop := Claim7.holds Tryd.pinned (.plain (OpenSpec.upto keyFirstSpec)) keyFirstUptoCard

/-- THE SECOND FORM's CARD OF 'sextonlaw08.KeyUnder'. -/
def keyUnderUptoCard : Claim7 := { stood := { row := keyUnderUptoRow, standIns := [], harness := (true, "e3ee35eb5613bc05689e21c0786a4e43c22d93150c8857450ce07ca041177b60"), looks := false }, kinds := [], alts := [], laidByText := true, laidKinds := [.data, .pinned], laidTests := true, laidLooks := .later }
def KeyUnderUptoCardSaid : Prop := Claim7.holds Tryd.pinned (.plain (OpenSpec.upto keyUnderSpec)) keyUnderUptoCard
end Rows
end Go.Proofs.YtaoiiocgnnjnnaaDoor
