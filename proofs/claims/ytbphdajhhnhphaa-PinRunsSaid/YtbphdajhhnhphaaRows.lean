/-
  No cell of these rows narrows 'for every input' (looked for: loops, veiled, ifaces, maps, wideKeys, modest, calm, conditions, laid).
  DERIVED. THE GIVEN ROWS OF THIS SEAT. 5 by the template 'for every input the law returns true; each argument reads behind the call as it read before'; 0 by the template 'total and deterministic' (their statements: YtbphdajhhnhphaaTotals.lean).
  GIVEN WITH THE SEED: the statements are not yours to turn. If you find one false, say at which input.
  Laid BY PROGRAM, IN A SANDBOX (cutbox-rows.mjs): the forced cells as the released guide's own fill.sh prints them over the translation 36daf31b49b97893… (all of the seat's roots in one cut). By AI agents, Wed Nov 11 2026. No macro, syntax, notation, axiom, sorry.
-/
import Derived.Test.YtbphdajhhnhphaaChecked
import GoSem.Claim
import GoSem.ClaimJoined
import GoSem.ClaimMapViews
import Derived.JoinedTies
import Derived.KernelRfl
namespace Go.Proofs.Ytbphdajhhnhphaa
/- THE CELL 'sum', in the pinned program and in every row, IS THE sha256 OF THE DUMP (.gsa) THAT YtbphdajhhnhphaaProg.lean LOADS. Nothing in Lean hashes anything: it is a label: what it is worth is what the hold of that sum in a sandbox is worth. -/
noncomputable def Try.pinned : Pinned := { name := "ytbphdajhhnhphaa", sum := "36daf31b49b97893d7b9ed7c3de46049ada21fbdeb1c27e2a2c43a11ef3ad1e7", checked := Try.checked }
namespace Rows
def none {H : Type} : Left H := { results := [], args := [] }

/-- 'sextonlaw17.PinDoes': WHATEVER THE INPUT: true; the input reads as it did. -/
def pinDoesSpec : ChangeSpec := { name := "pinDoes", fn := fun _ => fun
  | [d1, d2, d3, d4, d5, d6] => { results := [.lit (.bool true)], args := [d1, d2, d3, d4, d5, d6] }
  | _ => none }
def pinDoesRow : OpenClaim := { program := "ytbphdajhhnhphaa", sum := "36daf31b49b97893d7b9ed7c3de46049ada21fbdeb1c27e2a2c43a11ef3ad1e7", func := "sexton/sextonlaw17.PinDoes", spec := "pinDoes", unfollowed := true, recurses := true, apart := false }
def PinDoesSaid : Prop := pinDoesRow.holds Try.pinned (OpenSpec.ofChange pinDoesSpec)

/-- ITS FALSE NEIGHBOUR: 'it returns false'. Refute it at one input. -/
def pinDoesWrong : ChangeSpec := { name := "pinDoes", fn := fun _ => fun
  | [d1, d2, d3, d4, d5, d6] => { results := [.lit (.bool false)], args := [d1, d2, d3, d4, d5, d6] }
  | _ => none }
def PinDoesWrongFalsely : Prop := pinDoesRow.holds Try.pinned (OpenSpec.ofChange pinDoesWrong)

/-- 'sextonlaw17.PinRuns': WHATEVER THE INPUT: true; the input reads as it did. -/
def pinRunsSpec : ChangeSpec := { name := "pinRuns", fn := fun _ => fun
  | [d1, d2] => { results := [.lit (.bool true)], args := [d1, d2] }
  | _ => none }
def pinRunsRow : OpenClaim := { program := "ytbphdajhhnhphaa", sum := "36daf31b49b97893d7b9ed7c3de46049ada21fbdeb1c27e2a2c43a11ef3ad1e7", func := "sexton/sextonlaw17.PinRuns", spec := "pinRuns", unfollowed := true, recurses := true, apart := false }
def PinRunsSaid : Prop := pinRunsRow.holds Try.pinned (OpenSpec.ofChange pinRunsSpec)

/-- ITS FALSE NEIGHBOUR: 'it returns false'. Refute it at one input. -/
def pinRunsWrong : ChangeSpec := { name := "pinRuns", fn := fun _ => fun
  | [d1, d2] => { results := [.lit (.bool false)], args := [d1, d2] }
  | _ => none }
def PinRunsWrongFalsely : Prop := pinRunsRow.holds Try.pinned (OpenSpec.ofChange pinRunsWrong)

/-- 'sextonlaw17.PinRaise': WHATEVER THE INPUT: true; the input reads as it did. -/
def pinRaiseSpec : ChangeSpec := { name := "pinRaise", fn := fun _ => fun
  | [d1, d2, d3, d4] => { results := [.lit (.bool true)], args := [d1, d2, d3, d4] }
  | _ => none }
def pinRaiseRow : OpenClaim := { program := "ytbphdajhhnhphaa", sum := "36daf31b49b97893d7b9ed7c3de46049ada21fbdeb1c27e2a2c43a11ef3ad1e7", func := "sexton/sextonlaw17.PinRaise", spec := "pinRaise", unfollowed := true, recurses := true, apart := false }
def PinRaiseSaid : Prop := pinRaiseRow.holds Try.pinned (OpenSpec.ofChange pinRaiseSpec)

/-- ITS FALSE NEIGHBOUR: 'it returns false'. Refute it at one input. -/
def pinRaiseWrong : ChangeSpec := { name := "pinRaise", fn := fun _ => fun
  | [d1, d2, d3, d4] => { results := [.lit (.bool false)], args := [d1, d2, d3, d4] }
  | _ => none }
def PinRaiseWrongFalsely : Prop := pinRaiseRow.holds Try.pinned (OpenSpec.ofChange pinRaiseWrong)

/-- 'sextonlaw17.PinLeast': WHATEVER THE INPUT: true; the input reads as it did. -/
def pinLeastSpec : ChangeSpec := { name := "pinLeast", fn := fun _ => fun
  | [d1, d2] => { results := [.lit (.bool true)], args := [d1, d2] }
  | _ => none }
def pinLeastRow : OpenClaim := { program := "ytbphdajhhnhphaa", sum := "36daf31b49b97893d7b9ed7c3de46049ada21fbdeb1c27e2a2c43a11ef3ad1e7", func := "sexton/sextonlaw17.PinLeast", spec := "pinLeast", unfollowed := true, recurses := true, apart := false }
def PinLeastSaid : Prop := pinLeastRow.holds Try.pinned (OpenSpec.ofChange pinLeastSpec)

/-- ITS FALSE NEIGHBOUR: 'it returns false'. Refute it at one input. -/
def pinLeastWrong : ChangeSpec := { name := "pinLeast", fn := fun _ => fun
  | [d1, d2] => { results := [.lit (.bool false)], args := [d1, d2] }
  | _ => none }
def PinLeastWrongFalsely : Prop := pinLeastRow.holds Try.pinned (OpenSpec.ofChange pinLeastWrong)

/-- 'sextonlaw17.PinOrder': WHATEVER THE INPUT: true; the input reads as it did. -/
def pinOrderSpec : ChangeSpec := { name := "pinOrder", fn := fun _ => fun
  | [d] => { results := [.lit (.bool true)], args := [d] }
  | _ => none }
def pinOrderRow : OpenClaim := { program := "ytbphdajhhnhphaa", sum := "36daf31b49b97893d7b9ed7c3de46049ada21fbdeb1c27e2a2c43a11ef3ad1e7", func := "sexton/sextonlaw17.PinOrder", spec := "pinOrder", unfollowed := true, recurses := true, apart := false }
def PinOrderSaid : Prop := pinOrderRow.holds Try.pinned (OpenSpec.ofChange pinOrderSpec)

/-- ITS FALSE NEIGHBOUR: 'it returns false'. Refute it at one input. -/
def pinOrderWrong : ChangeSpec := { name := "pinOrder", fn := fun _ => fun
  | [d] => { results := [.lit (.bool false)], args := [d] }
  | _ => none }
def PinOrderWrongFalsely : Prop := pinOrderRow.holds Try.pinned (OpenSpec.ofChange pinOrderWrong)

/- THE SECOND FORM. 'bulk': how many values and letters a reading holds, each counted each time it is reached (what is shared counts as often as it is met; a slice's spare places count too). A statement '..UptoSaid' is the law's where the arguments, and the package variables that the reading takes, are together of bulk at most 1048576: NARROWER than '..Said'. Prove '..Said' where nothing that the law and all that it calls make is longer than what came in: it says more and counts as full. Else prove '..UptoSaid'. A law counts once. -/
mutual
def uptoBulk {H : Type} : DataW H → Nat
  | .lit (.string bytes) => bytes.length + 1
  | .lit _ => 1
  | .nil => 1
  | .ptr d => uptoBulk d + 1
  | .slice elems spare => uptoBulkAll elems + uptoBulkAll spare + 1
  | .agg parts => uptoBulkAll parts + 1
  | .iface _ d => uptoBulk d + 1
  | .map entries => uptoBulkEntries entries + 1
  | .held _ => 1
def uptoBulkAll {H : Type} : List (DataW H) → Nat
  | [] => 0
  | d :: r => uptoBulk d + uptoBulkAll r
def uptoBulkEntries {H : Type} : List (Lit × DataW H) → Nat
  | [] => 0
  | x :: r => uptoBulkEntry x + uptoBulkEntries r
def uptoBulkEntry {H : Type} : Lit × DataW H → Nat
  | (.string bytes, d) => bytes.length + uptoBulk d + 1
  | (_, d) => uptoBulk d + 1
 end
def uptoSmall : (H : Type) → List (DataW H) → Bool := fun _ ds => decide (uptoBulkAll ds ≤ 1048576)
def OpenSpec.upto (s : _root_.Go.ChangeSpec) : _root_.Go.OpenSpec := { _root_.Go.OpenSpec.ofChange s with cond := some uptoSmall }

/-- 'sextonlaw17.PinDoes', WHERE WHAT IT READS IS OF BULK AT MOST 1048576: true; the input reads as it did. -/
def pinDoesUptoRow : OpenClaim := { program := "ytbphdajhhnhphaa", sum := "36daf31b49b97893d7b9ed7c3de46049ada21fbdeb1c27e2a2c43a11ef3ad1e7", func := "sexton/sextonlaw17.PinDoes", spec := "pinDoes", unfollowed := true, recurses := true, apart := false, narrowed := true }
def PinDoesUptoSaid : Prop := pinDoesUptoRow.holds Try.pinned (OpenSpec.upto pinDoesSpec)

/-- 'sextonlaw17.PinRuns', WHERE WHAT IT READS IS OF BULK AT MOST 1048576: true; the input reads as it did. -/
def pinRunsUptoRow : OpenClaim := { program := "ytbphdajhhnhphaa", sum := "36daf31b49b97893d7b9ed7c3de46049ada21fbdeb1c27e2a2c43a11ef3ad1e7", func := "sexton/sextonlaw17.PinRuns", spec := "pinRuns", unfollowed := true, recurses := true, apart := false, narrowed := true }
def PinRunsUptoSaid : Prop := pinRunsUptoRow.holds Try.pinned (OpenSpec.upto pinRunsSpec)

/-- 'sextonlaw17.PinRaise', WHERE WHAT IT READS IS OF BULK AT MOST 1048576: true; the input reads as it did. -/
def pinRaiseUptoRow : OpenClaim := { program := "ytbphdajhhnhphaa", sum := "36daf31b49b97893d7b9ed7c3de46049ada21fbdeb1c27e2a2c43a11ef3ad1e7", func := "sexton/sextonlaw17.PinRaise", spec := "pinRaise", unfollowed := true, recurses := true, apart := false, narrowed := true }
def PinRaiseUptoSaid : Prop := pinRaiseUptoRow.holds Try.pinned (OpenSpec.upto pinRaiseSpec)

/-- 'sextonlaw17.PinLeast', WHERE WHAT IT READS IS OF BULK AT MOST 1048576: true; the input reads as it did. -/
def pinLeastUptoRow : OpenClaim := { program := "ytbphdajhhnhphaa", sum := "36daf31b49b97893d7b9ed7c3de46049ada21fbdeb1c27e2a2c43a11ef3ad1e7", func := "sexton/sextonlaw17.PinLeast", spec := "pinLeast", unfollowed := true, recurses := true, apart := false, narrowed := true }
def PinLeastUptoSaid : Prop := pinLeastUptoRow.holds Try.pinned (OpenSpec.upto pinLeastSpec)

/-- 'sextonlaw17.PinOrder', WHERE WHAT IT READS IS OF BULK AT MOST 1048576: true; the input reads as it did. -/
def pinOrderUptoRow : OpenClaim := { program := "ytbphdajhhnhphaa", sum := "36daf31b49b97893d7b9ed7c3de46049ada21fbdeb1c27e2a2c43a11ef3ad1e7", func := "sexton/sextonlaw17.PinOrder", spec := "pinOrder", unfollowed := true, recurses := true, apart := false, narrowed := true }
def PinOrderUptoSaid : Prop := pinOrderUptoRow.holds Try.pinned (OpenSpec.upto pinOrderSpec)

end Rows
end Go.Proofs.Ytbphdajhhnhphaa
