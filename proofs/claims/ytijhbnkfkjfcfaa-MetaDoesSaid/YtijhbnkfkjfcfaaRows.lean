/-
  No cell of these rows narrows 'for every input' (looked for: loops, veiled, ifaces, maps, wideKeys, modest, calm, conditions, laid).
  DERIVED. THE GIVEN ROWS OF THIS SEAT. 4 by the template 'for every input the law returns true; each argument reads behind the call as it read before'; 0 by the template 'total and deterministic' (their statements: YtijhbnkfkjfcfaaTotals.lean).
  GIVEN WITH THE SEED: the statements are not yours to turn. If you find one false, say at which input.
  Laid BY PROGRAM, IN A SANDBOX (cutbox-rows.mjs): the forced cells as the released guide's own fill.sh prints them over the translation fd132a49d77003d5… (all of the seat's roots in one cut). By AI agents, Wed Nov 11 2026. No macro, syntax, notation, axiom, sorry.
-/
import Derived.Test.YtijhbnkfkjfcfaaChecked
import GoSem.Claim
import GoSem.ClaimJoined
import GoSem.ClaimMapViews
import Derived.JoinedTies
import Derived.KernelRfl
namespace Go.Proofs.Ytijhbnkfkjfcfaa
/- THE CELL 'sum', in the pinned program and in every row, IS THE sha256 OF THE DUMP (.gsa) THAT YtijhbnkfkjfcfaaProg.lean LOADS. Nothing in Lean hashes anything: it is a label: what it is worth is what the hold of that sum in a sandbox is worth. -/
noncomputable def Try.pinned : Pinned := { name := "ytijhbnkfkjfcfaa", sum := "fd132a49d77003d5d42cc4816cb92f1af68a07413e29e25a5b993ac0b6c735ce", checked := Try.checked }
namespace Rows
def none {H : Type} : Left H := { results := [], args := [] }

/-- 'sextonlaw12.MetaDoes': WHATEVER THE INPUT: true; the input reads as it did. -/
def metaDoesSpec : ChangeSpec := { name := "metaDoes", fn := fun _ => fun
  | [d1, d2, d3] => { results := [.lit (.bool true)], args := [d1, d2, d3] }
  | _ => none }
def metaDoesRow : OpenClaim := { program := "ytijhbnkfkjfcfaa", sum := "fd132a49d77003d5d42cc4816cb92f1af68a07413e29e25a5b993ac0b6c735ce", func := "sexton/sextonlaw12.MetaDoes", spec := "metaDoes", inPlace := ["internal/abi.NoEscape"], unfollowed := true, recurses := true, apart := false }
def MetaDoesSaid : Prop := metaDoesRow.holds Try.pinned (OpenSpec.ofChange metaDoesSpec)

/-- ITS FALSE NEIGHBOUR: 'it returns false'. Refute it at one input. -/
def metaDoesWrong : ChangeSpec := { name := "metaDoes", fn := fun _ => fun
  | [d1, d2, d3] => { results := [.lit (.bool false)], args := [d1, d2, d3] }
  | _ => none }
def MetaDoesWrongFalsely : Prop := metaDoesRow.holds Try.pinned (OpenSpec.ofChange metaDoesWrong)

/-- 'sextonlaw12.MetaBack': WHATEVER THE INPUT: true; the input reads as it did. -/
def metaBackSpec : ChangeSpec := { name := "metaBack", fn := fun _ => fun
  | [d1, d2, d3] => { results := [.lit (.bool true)], args := [d1, d2, d3] }
  | _ => none }
def metaBackRow : OpenClaim := { program := "ytijhbnkfkjfcfaa", sum := "fd132a49d77003d5d42cc4816cb92f1af68a07413e29e25a5b993ac0b6c735ce", func := "sexton/sextonlaw12.MetaBack", spec := "metaBack", inPlace := ["internal/abi.NoEscape"], unfollowed := true, recurses := true, apart := false }
def MetaBackSaid : Prop := metaBackRow.holds Try.pinned (OpenSpec.ofChange metaBackSpec)

/-- ITS FALSE NEIGHBOUR: 'it returns false'. Refute it at one input. -/
def metaBackWrong : ChangeSpec := { name := "metaBack", fn := fun _ => fun
  | [d1, d2, d3] => { results := [.lit (.bool false)], args := [d1, d2, d3] }
  | _ => none }
def MetaBackWrongFalsely : Prop := metaBackRow.holds Try.pinned (OpenSpec.ofChange metaBackWrong)

/-- 'sextonlaw12.MetaFront': WHATEVER THE INPUT: true; the input reads as it did. -/
def metaFrontSpec : ChangeSpec := { name := "metaFront", fn := fun _ => fun
  | [d1, d2, d3, d4] => { results := [.lit (.bool true)], args := [d1, d2, d3, d4] }
  | _ => none }
def metaFrontRow : OpenClaim := { program := "ytijhbnkfkjfcfaa", sum := "fd132a49d77003d5d42cc4816cb92f1af68a07413e29e25a5b993ac0b6c735ce", func := "sexton/sextonlaw12.MetaFront", spec := "metaFront", inPlace := ["internal/abi.NoEscape"], unfollowed := true, recurses := true, apart := false }
def MetaFrontSaid : Prop := metaFrontRow.holds Try.pinned (OpenSpec.ofChange metaFrontSpec)

/-- ITS FALSE NEIGHBOUR: 'it returns false'. Refute it at one input. -/
def metaFrontWrong : ChangeSpec := { name := "metaFront", fn := fun _ => fun
  | [d1, d2, d3, d4] => { results := [.lit (.bool false)], args := [d1, d2, d3, d4] }
  | _ => none }
def MetaFrontWrongFalsely : Prop := metaFrontRow.holds Try.pinned (OpenSpec.ofChange metaFrontWrong)

/-- 'sextonlaw12.MetaGone': WHATEVER THE INPUT: true; the input reads as it did. -/
def metaGoneSpec : ChangeSpec := { name := "metaGone", fn := fun _ => fun
  | [d1, d2] => { results := [.lit (.bool true)], args := [d1, d2] }
  | _ => none }
def metaGoneRow : OpenClaim := { program := "ytijhbnkfkjfcfaa", sum := "fd132a49d77003d5d42cc4816cb92f1af68a07413e29e25a5b993ac0b6c735ce", func := "sexton/sextonlaw12.MetaGone", spec := "metaGone", inPlace := ["internal/abi.NoEscape"], unfollowed := true, recurses := true, apart := false }
def MetaGoneSaid : Prop := metaGoneRow.holds Try.pinned (OpenSpec.ofChange metaGoneSpec)

/-- ITS FALSE NEIGHBOUR: 'it returns false'. Refute it at one input. -/
def metaGoneWrong : ChangeSpec := { name := "metaGone", fn := fun _ => fun
  | [d1, d2] => { results := [.lit (.bool false)], args := [d1, d2] }
  | _ => none }
def MetaGoneWrongFalsely : Prop := metaGoneRow.holds Try.pinned (OpenSpec.ofChange metaGoneWrong)

/- THE SECOND FORM. 'bulk': how many values and letters a reading holds, each counted each time it is reached (what is shared counts as often as it is met; a slice's spare places count too). A statement '..UptoSaid' is the law's where the arguments, and the package variables that the reading takes, are together of bulk at most 1048576: NARROWER than '..Said'. Prove '..Said' where nothing that the law and all that it calls make is longer than what came in: it says more and counts as full. Else prove '..UptoSaid'. A law counts once. -/
mutual
def uptoBulk {H : Type} : DataW H → Nat
  | .lit (.string bytes) => bytes.length + 1
  | .lit _ => 1
  | .nil => 1
  | .ptr d => uptoBulk d + 1
  | .slice elems spare => uptoBulkAll elems + uptoBulkAll spare + 1
  | .agg parts => uptoBulkAll parts + 1
  | .iface _ d => uptoBulk d + 1
  | .map entries => uptoBulkEntries entries + 1
  | .held _ => 1
def uptoBulkAll {H : Type} : List (DataW H) → Nat
  | [] => 0
  | d :: r => uptoBulk d + uptoBulkAll r
def uptoBulkEntries {H : Type} : List (Lit × DataW H) → Nat
  | [] => 0
  | x :: r => uptoBulkEntry x + uptoBulkEntries r
def uptoBulkEntry {H : Type} : Lit × DataW H → Nat
  | (.string bytes, d) => bytes.length + uptoBulk d + 1
  | (_, d) => uptoBulk d + 1
 end
def uptoSmall : (H : Type) → List (DataW H) → Bool := fun _ ds => decide (uptoBulkAll ds ≤ 1048576)
def OpenSpec.upto (s : _root_.Go.ChangeSpec) : _root_.Go.OpenSpec := { _root_.Go.OpenSpec.ofChange s with cond := some uptoSmall }

/-- 'sextonlaw12.MetaDoes', WHERE WHAT IT READS IS OF BULK AT MOST 1048576: true; the input reads as it did. -/
def metaDoesUptoRow : OpenClaim := { program := "ytijhbnkfkjfcfaa", sum := "fd132a49d77003d5d42cc4816cb92f1af68a07413e29e25a5b993ac0b6c735ce", func := "sexton/sextonlaw12.MetaDoes", spec := "metaDoes", inPlace := ["internal/abi.NoEscape"], unfollowed := true, recurses := true, apart := false, narrowed := true }
def MetaDoesUptoSaid : Prop := metaDoesUptoRow.holds Try.pinned (OpenSpec.upto metaDoesSpec)

/-- 'sextonlaw12.MetaBack', WHERE WHAT IT READS IS OF BULK AT MOST 1048576: true; the input reads as it did. -/
def metaBackUptoRow : OpenClaim := { program := "ytijhbnkfkjfcfaa", sum := "fd132a49d77003d5d42cc4816cb92f1af68a07413e29e25a5b993ac0b6c735ce", func := "sexton/sextonlaw12.MetaBack", spec := "metaBack", inPlace := ["internal/abi.NoEscape"], unfollowed := true, recurses := true, apart := false, narrowed := true }
def MetaBackUptoSaid : Prop := metaBackUptoRow.holds Try.pinned (OpenSpec.upto metaBackSpec)

/-- 'sextonlaw12.MetaFront', WHERE WHAT IT READS IS OF BULK AT MOST 1048576: true; the input reads as it did. -/
def metaFrontUptoRow : OpenClaim := { program := "ytijhbnkfkjfcfaa", sum := "fd132a49d77003d5d42cc4816cb92f1af68a07413e29e25a5b993ac0b6c735ce", func := "sexton/sextonlaw12.MetaFront", spec := "metaFront", inPlace := ["internal/abi.NoEscape"], unfollowed := true, recurses := true, apart := false, narrowed := true }
def MetaFrontUptoSaid : Prop := metaFrontUptoRow.holds Try.pinned (OpenSpec.upto metaFrontSpec)

/-- 'sextonlaw12.MetaGone', WHERE WHAT IT READS IS OF BULK AT MOST 1048576: true; the input reads as it did. -/
def metaGoneUptoRow : OpenClaim := { program := "ytijhbnkfkjfcfaa", sum := "fd132a49d77003d5d42cc4816cb92f1af68a07413e29e25a5b993ac0b6c735ce", func := "sexton/sextonlaw12.MetaGone", spec := "metaGone", inPlace := ["internal/abi.NoEscape"], unfollowed := true, recurses := true, apart := false, narrowed := true }
def MetaGoneUptoSaid : Prop := metaGoneUptoRow.holds Try.pinned (OpenSpec.upto metaGoneSpec)

end Rows
end Go.Proofs.Ytijhbnkfkjfcfaa
