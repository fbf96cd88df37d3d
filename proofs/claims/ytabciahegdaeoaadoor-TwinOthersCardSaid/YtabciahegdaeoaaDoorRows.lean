/-
  NARROWER THAN 'FOR EVERY INPUT', by the rows' own cells (each row's printed sentence says how): TwinBack: laid · TwinCrash: laid · TwinRow: laid · TwinOthers: laid.
  DERIVED. THE GIVEN ROWS OF THIS SEAT. 4 by the template 'for every input the law returns true; each argument reads behind the call as it read before'; 0 by the template 'total and deterministic' (their statements: YtabciahegdaeoaaDoorTotals.lean).
  GIVEN WITH THE SEED: the statements are not yours to turn. If you find one false, say at which input.
  Laid BY PROGRAM, IN A SANDBOX (cutbox-rows.mjs): the forced cells as the released guide's own fill.sh prints them over the translation 2b784a75ae83b70b… (all of the seat's roots in one cut). By AI agents, Wed Nov 11 2026. No macro, syntax, notation, axiom, sorry.
-/
import Derived.Test.YtabciahegdaeoaaDoorChecked
import GoSem.Claim
import GoSem.ClaimJoined
import GoSem.ClaimMapViews
import Derived.JoinedTies
import Derived.KernelRfl
namespace Go.Proofs.YtabciahegdaeoaaDoor
/- THE CELL 'sum', in the pinned program and in every row, IS THE sha256 OF THE DUMP (.gsa) THAT YtabciahegdaeoaaDoorProg.lean LOADS. Nothing in Lean hashes anything: it is a label: what it is worth is what the hold of that sum in a sandbox is worth. -/
noncomputable def Tryd.pinned : Pinned := { name := "ytabciahegdaeoaadoor", sum := "2b784a75ae83b70bb9681577921ba5502e2db297a81c0f2975785b115fd2b432", checked := Tryd.checked }
namespace Rows
def none {H : Type} : Left H := { results := [], args := [] }

/- WHAT THE LISTED PACKAGE-LEVEL VARIABLES READ AS WHEN THE CALL BEGINS. Each datum BY PROGRAM (the guide's laid-datum.mjs) off the statement by which the dump's own 'gosem.cut.vars' lays the variable. In a bare row this is a premise. The card (YtabciahegdaeoaaDoorCards.lean) ties it to the program's text. -/
def laid_sexton_crc_halfSteps {H : Type} : DataW H := .agg [.lit (.int .u32 0), .lit (.int .u32 498536548), .lit (.int .u32 997073096), .lit (.int .u32 651767980), .lit (.int .u32 1994146192), .lit (.int .u32 1802195444), .lit (.int .u32 1303535960), .lit (.int .u32 1342533948), .lit (.int .u32 3988292384), .lit (.int .u32 4027552580), .lit (.int .u32 3604390888), .lit (.int .u32 3412177804), .lit (.int .u32 2607071920), .lit (.int .u32 2262029012), .lit (.int .u32 2685067896), .lit (.int .u32 3183342108)]

/-- 'sextonlaw05.TwinBack': WHATEVER THE INPUT: true; the input reads as it did. -/
def twinBackSpec : ChangeSpec := { name := "twinBack", fn := fun _ => fun
  | [d1, d2, d3, d4] => { results := [.lit (.bool true)], args := [d1, d2, d3, d4] }
  | _ => none }
def twinBackRow : OpenClaim := { program := "ytabciahegdaeoaadoor", sum := "2b784a75ae83b70bb9681577921ba5502e2db297a81c0f2975785b115fd2b432", func := "sexton/sextonlaw05.TwinBack", spec := "twinBack", unfollowed := true, recurses := true, named := ["sexton/crc.halfSteps"], apart := false, laid := [("sexton/crc.halfSteps", laid_sexton_crc_halfSteps)] }
def TwinBackSaid : Prop := twinBackRow.holds Tryd.pinned (OpenSpec.ofChange twinBackSpec)

/-- ITS FALSE NEIGHBOUR: 'it returns false'. Refute it at one input. -/
def twinBackWrong : ChangeSpec := { name := "twinBack", fn := fun _ => fun
  | [d1, d2, d3, d4] => { results := [.lit (.bool false)], args := [d1, d2, d3, d4] }
  | _ => none }
def TwinBackWrongFalsely : Prop := twinBackRow.holds Tryd.pinned (OpenSpec.ofChange twinBackWrong)

/-- 'sextonlaw05.TwinCrash': WHATEVER THE INPUT: true; the input reads as it did. -/
def twinCrashSpec : ChangeSpec := { name := "twinCrash", fn := fun _ => fun
  | [d1, d2, d3, d4, d5] => { results := [.lit (.bool true)], args := [d1, d2, d3, d4, d5] }
  | _ => none }
def twinCrashRow : OpenClaim := { program := "ytabciahegdaeoaadoor", sum := "2b784a75ae83b70bb9681577921ba5502e2db297a81c0f2975785b115fd2b432", func := "sexton/sextonlaw05.TwinCrash", spec := "twinCrash", unfollowed := true, recurses := true, named := ["sexton/crc.halfSteps"], apart := false, laid := [("sexton/crc.halfSteps", laid_sexton_crc_halfSteps)] }
def TwinCrashSaid : Prop := twinCrashRow.holds Tryd.pinned (OpenSpec.ofChange twinCrashSpec)

/-- ITS FALSE NEIGHBOUR: 'it returns false'. Refute it at one input. -/
def twinCrashWrong : ChangeSpec := { name := "twinCrash", fn := fun _ => fun
  | [d1, d2, d3, d4, d5] => { results := [.lit (.bool false)], args := [d1, d2, d3, d4, d5] }
  | _ => none }
def TwinCrashWrongFalsely : Prop := twinCrashRow.holds Tryd.pinned (OpenSpec.ofChange twinCrashWrong)

/-- 'sextonlaw05.TwinRow': WHATEVER THE INPUT: true; the input reads as it did. -/
def twinRowSpec : ChangeSpec := { name := "twinRow", fn := fun _ => fun
  | [d1, d2, d3] => { results := [.lit (.bool true)], args := [d1, d2, d3] }
  | _ => none }
def twinRowRow : OpenClaim := { program := "ytabciahegdaeoaadoor", sum := "2b784a75ae83b70bb9681577921ba5502e2db297a81c0f2975785b115fd2b432", func := "sexton/sextonlaw05.TwinRow", spec := "twinRow", unfollowed := true, recurses := true, named := ["sexton/crc.halfSteps"], apart := false, laid := [("sexton/crc.halfSteps", laid_sexton_crc_halfSteps)] }
def TwinRowSaid : Prop := twinRowRow.holds Tryd.pinned (OpenSpec.ofChange twinRowSpec)

/-- ITS FALSE NEIGHBOUR: 'it returns false'. Refute it at one input. -/
def twinRowWrong : ChangeSpec := { name := "twinRow", fn := fun _ => fun
  | [d1, d2, d3] => { results := [.lit (.bool false)], args := [d1, d2, d3] }
  | _ => none }
def TwinRowWrongFalsely : Prop := twinRowRow.holds Tryd.pinned (OpenSpec.ofChange twinRowWrong)

/-- 'sextonlaw05.TwinOthers': WHATEVER THE INPUT: true; the input reads as it did. -/
def twinOthersSpec : ChangeSpec := { name := "twinOthers", fn := fun _ => fun
  | [d1, d2, d3, d4, d5] => { results := [.lit (.bool true)], args := [d1, d2, d3, d4, d5] }
  | _ => none }
def twinOthersRow : OpenClaim := { program := "ytabciahegdaeoaadoor", sum := "2b784a75ae83b70bb9681577921ba5502e2db297a81c0f2975785b115fd2b432", func := "sexton/sextonlaw05.TwinOthers", spec := "twinOthers", unfollowed := true, recurses := true, named := ["sexton/crc.halfSteps"], apart := false, laid := [("sexton/crc.halfSteps", laid_sexton_crc_halfSteps)] }
def TwinOthersSaid : Prop := twinOthersRow.holds Tryd.pinned (OpenSpec.ofChange twinOthersSpec)

/-- ITS FALSE NEIGHBOUR: 'it returns false'. Refute it at one input. -/
def twinOthersWrong : ChangeSpec := { name := "twinOthers", fn := fun _ => fun
  | [d1, d2, d3, d4, d5] => { results := [.lit (.bool false)], args := [d1, d2, d3, d4, d5] }
  | _ => none }
def TwinOthersWrongFalsely : Prop := twinOthersRow.holds Tryd.pinned (OpenSpec.ofChange twinOthersWrong)

/- THE SECOND FORM. 'bulk': how many values and letters a reading holds, each counted each time it is reached (what is shared counts as often as it is met; a slice's spare places count too). A statement '..UptoSaid' is the law's where the arguments, and the package variables that the reading takes, are together of bulk at most 1048576: NARROWER than '..Said'. Prove '..Said' where nothing that the law and all that it calls make is longer than what came in: it says more and counts as full. Else prove '..UptoSaid'. A law counts once. -/
mutual
def uptoBulk {H : Type} : DataW H → Nat
  | .lit (.string bytes) => bytes.length + 1
  | .lit _ => 1
  | .nil => 1
  | .ptr d => uptoBulk d + 1
  | .slice elems spare => uptoBulkAll elems + uptoBulkAll spare + 1
  | .agg parts => uptoBulkAll parts + 1
  | .iface _ d => uptoBulk d + 1
  | .map entries => uptoBulkEntries entries + 1
  | .held _ => 1
def uptoBulkAll {H : Type} : List (DataW H) → Nat
  | [] => 0
  | d :: r => uptoBulk d + uptoBulkAll r
def uptoBulkEntries {H : Type} : List (Lit × DataW H) → Nat
  | [] => 0
  | x :: r => uptoBulkEntry x + uptoBulkEntries r
def uptoBulkEntry {H : Type} : Lit × DataW H → Nat
  | (.string bytes, d) => bytes.length + uptoBulk d + 1
  | (_, d) => uptoBulk d + 1
 end
def uptoSmall : (H : Type) → List (DataW H) → Bool := fun _ ds => decide (uptoBulkAll ds ≤ 1048576)
def OpenSpec.upto (s : _root_.Go.ChangeSpec) : _root_.Go.OpenSpec := { _root_.Go.OpenSpec.ofChange s with cond := some uptoSmall }

/-- 'sextonlaw05.TwinBack', WHERE WHAT IT READS IS OF BULK AT MOST 1048576: true; the input reads as it did. -/
def twinBackUptoRow : OpenClaim := { program := "ytabciahegdaeoaadoor", sum := "2b784a75ae83b70bb9681577921ba5502e2db297a81c0f2975785b115fd2b432", func := "sexton/sextonlaw05.TwinBack", spec := "twinBack", unfollowed := true, recurses := true, named := ["sexton/crc.halfSteps"], apart := false, laid := [("sexton/crc.halfSteps", laid_sexton_crc_halfSteps)], narrowed := true }
def TwinBackUptoSaid : Prop := twinBackUptoRow.holds Tryd.pinned (OpenSpec.upto twinBackSpec)

/-- 'sextonlaw05.TwinCrash', WHERE WHAT IT READS IS OF BULK AT MOST 1048576: true; the input reads as it did. -/
def twinCrashUptoRow : OpenClaim := { program := "ytabciahegdaeoaadoor", sum := "2b784a75ae83b70bb9681577921ba5502e2db297a81c0f2975785b115fd2b432", func := "sexton/sextonlaw05.TwinCrash", spec := "twinCrash", unfollowed := true, recurses := true, named := ["sexton/crc.halfSteps"], apart := false, laid := [("sexton/crc.halfSteps", laid_sexton_crc_halfSteps)], narrowed := true }
def TwinCrashUptoSaid : Prop := twinCrashUptoRow.holds Tryd.pinned (OpenSpec.upto twinCrashSpec)

/-- 'sextonlaw05.TwinRow', WHERE WHAT IT READS IS OF BULK AT MOST 1048576: true; the input reads as it did. -/
def twinRowUptoRow : OpenClaim := { program := "ytabciahegdaeoaadoor", sum := "2b784a75ae83b70bb9681577921ba5502e2db297a81c0f2975785b115fd2b432", func := "sexton/sextonlaw05.TwinRow", spec := "twinRow", unfollowed := true, recurses := true, named := ["sexton/crc.halfSteps"], apart := false, laid := [("sexton/crc.halfSteps", laid_sexton_crc_halfSteps)], narrowed := true }
def TwinRowUptoSaid : Prop := twinRowUptoRow.holds Tryd.pinned (OpenSpec.upto twinRowSpec)

/-- 'sextonlaw05.TwinOthers', WHERE WHAT IT READS IS OF BULK AT MOST 1048576: true; the input reads as it did. -/
def twinOthersUptoRow : OpenClaim := { program := "ytabciahegdaeoaadoor", sum := "2b784a75ae83b70bb9681577921ba5502e2db297a81c0f2975785b115fd2b432", func := "sexton/sextonlaw05.TwinOthers", spec := "twinOthers", unfollowed := true, recurses := true, named := ["sexton/crc.halfSteps"], apart := false, laid := [("sexton/crc.halfSteps", laid_sexton_crc_halfSteps)], narrowed := true }
def TwinOthersUptoSaid : Prop := twinOthersUptoRow.holds Tryd.pinned (OpenSpec.upto twinOthersSpec)

end Rows
end Go.Proofs.YtabciahegdaeoaaDoor
