/-
  NARROWER THAN 'FOR EVERY INPUT', by the rows' own cells (each row's printed sentence says how): CrcSums: laid · CrcGets: laid · CrcBack: laid · CrcCut: laid · CrcBit: laid.
  DERIVED. THE GIVEN ROWS OF THIS SEAT. 5 by the template 'for every input the law returns true; each argument reads behind the call as it read before'; 0 by the template 'total and deterministic' (their statements: YtoaoinmmfpmgkaaDoorTotals.lean).
  GIVEN WITH THE SEED: the statements are not yours to turn. If you find one false, say at which input.
  Laid BY PROGRAM, IN A SANDBOX (cutbox-rows.mjs): the forced cells as the released guide's own fill.sh prints them over the translation e73a3f4c5fd50494… (all of the seat's roots in one cut). By AI agents, Wed Nov 11 2026. No macro, syntax, notation, axiom, sorry.
-/
import Derived.Test.YtoaoinmmfpmgkaaDoorChecked
import GoSem.Claim
import GoSem.ClaimJoined
import GoSem.ClaimMapViews
import Derived.JoinedTies
import Derived.KernelRfl
namespace Go.Proofs.YtoaoinmmfpmgkaaDoor
/- THE CELL 'sum', in the pinned program and in every row, IS THE sha256 OF THE DUMP (.gsa) THAT YtoaoinmmfpmgkaaDoorProg.lean LOADS. Nothing in Lean hashes anything: it is a label: what it is worth is what the hold of that sum in a sandbox is worth. -/
noncomputable def Tryd.pinned : Pinned := { name := "ytoaoinmmfpmgkaadoor", sum := "e73a3f4c5fd5049462f595c4c3485bc9ac14e1b01ecc2bc633f5092ac94cba4f", checked := Tryd.checked }
namespace Rows
def none {H : Type} : Left H := { results := [], args := [] }

/- WHAT THE LISTED PACKAGE-LEVEL VARIABLES READ AS WHEN THE CALL BEGINS. Each datum BY PROGRAM (the guide's laid-datum.mjs) off the statement by which the dump's own 'gosem.cut.vars' lays the variable. In a bare row this is a premise. The card (YtoaoinmmfpmgkaaDoorCards.lean) ties it to the program's text. -/
def laid_sexton_crc_halfSteps {H : Type} : DataW H := .agg [.lit (.int .u32 0), .lit (.int .u32 498536548), .lit (.int .u32 997073096), .lit (.int .u32 651767980), .lit (.int .u32 1994146192), .lit (.int .u32 1802195444), .lit (.int .u32 1303535960), .lit (.int .u32 1342533948), .lit (.int .u32 3988292384), .lit (.int .u32 4027552580), .lit (.int .u32 3604390888), .lit (.int .u32 3412177804), .lit (.int .u32 2607071920), .lit (.int .u32 2262029012), .lit (.int .u32 2685067896), .lit (.int .u32 3183342108)]

/-- 'sextonlaw03.CrcSums': WHATEVER THE INPUT: true; the input reads as it did. -/
def crcSumsSpec : ChangeSpec := { name := "crcSums", fn := fun _ => fun
  | [d1, d2, d3] => { results := [.lit (.bool true)], args := [d1, d2, d3] }
  | _ => none }
def crcSumsRow : OpenClaim := { program := "ytoaoinmmfpmgkaadoor", sum := "e73a3f4c5fd5049462f595c4c3485bc9ac14e1b01ecc2bc633f5092ac94cba4f", func := "sexton/sextonlaw03.CrcSums", spec := "crcSums", unfollowed := true, recurses := true, named := ["sexton/crc.halfSteps"], apart := false, laid := [("sexton/crc.halfSteps", laid_sexton_crc_halfSteps)] }
def CrcSumsSaid : Prop := crcSumsRow.holds Tryd.pinned (OpenSpec.ofChange crcSumsSpec)

/-- ITS FALSE NEIGHBOUR: 'it returns false'. Refute it at one input. -/
def crcSumsWrong : ChangeSpec := { name := "crcSums", fn := fun _ => fun
  | [d1, d2, d3] => { results := [.lit (.bool false)], args := [d1, d2, d3] }
  | _ => none }
def CrcSumsWrongFalsely : Prop := crcSumsRow.holds Tryd.pinned (OpenSpec.ofChange crcSumsWrong)

/-- 'sextonlaw03.CrcGets': WHATEVER THE INPUT: true; the input reads as it did. -/
def crcGetsSpec : ChangeSpec := { name := "crcGets", fn := fun _ => fun
  | [d] => { results := [.lit (.bool true)], args := [d] }
  | _ => none }
def crcGetsRow : OpenClaim := { program := "ytoaoinmmfpmgkaadoor", sum := "e73a3f4c5fd5049462f595c4c3485bc9ac14e1b01ecc2bc633f5092ac94cba4f", func := "sexton/sextonlaw03.CrcGets", spec := "crcGets", unfollowed := true, recurses := true, named := ["sexton/crc.halfSteps"], apart := false, laid := [("sexton/crc.halfSteps", laid_sexton_crc_halfSteps)] }
def CrcGetsSaid : Prop := crcGetsRow.holds Tryd.pinned (OpenSpec.ofChange crcGetsSpec)

/-- ITS FALSE NEIGHBOUR: 'it returns false'. Refute it at one input. -/
def crcGetsWrong : ChangeSpec := { name := "crcGets", fn := fun _ => fun
  | [d] => { results := [.lit (.bool false)], args := [d] }
  | _ => none }
def CrcGetsWrongFalsely : Prop := crcGetsRow.holds Tryd.pinned (OpenSpec.ofChange crcGetsWrong)

/-- 'sextonlaw03.CrcBack': WHATEVER THE INPUT: true; the input reads as it did. -/
def crcBackSpec : ChangeSpec := { name := "crcBack", fn := fun _ => fun
  | [d1, d2] => { results := [.lit (.bool true)], args := [d1, d2] }
  | _ => none }
def crcBackRow : OpenClaim := { program := "ytoaoinmmfpmgkaadoor", sum := "e73a3f4c5fd5049462f595c4c3485bc9ac14e1b01ecc2bc633f5092ac94cba4f", func := "sexton/sextonlaw03.CrcBack", spec := "crcBack", unfollowed := true, recurses := true, named := ["sexton/crc.halfSteps"], apart := false, laid := [("sexton/crc.halfSteps", laid_sexton_crc_halfSteps)] }
def CrcBackSaid : Prop := crcBackRow.holds Tryd.pinned (OpenSpec.ofChange crcBackSpec)

/-- ITS FALSE NEIGHBOUR: 'it returns false'. Refute it at one input. -/
def crcBackWrong : ChangeSpec := { name := "crcBack", fn := fun _ => fun
  | [d1, d2] => { results := [.lit (.bool false)], args := [d1, d2] }
  | _ => none }
def CrcBackWrongFalsely : Prop := crcBackRow.holds Tryd.pinned (OpenSpec.ofChange crcBackWrong)

/-- 'sextonlaw03.CrcCut': WHATEVER THE INPUT: true; the input reads as it did. -/
def crcCutSpec : ChangeSpec := { name := "crcCut", fn := fun _ => fun
  | [d1, d2] => { results := [.lit (.bool true)], args := [d1, d2] }
  | _ => none }
def crcCutRow : OpenClaim := { program := "ytoaoinmmfpmgkaadoor", sum := "e73a3f4c5fd5049462f595c4c3485bc9ac14e1b01ecc2bc633f5092ac94cba4f", func := "sexton/sextonlaw03.CrcCut", spec := "crcCut", unfollowed := true, recurses := true, named := ["sexton/crc.halfSteps"], apart := false, laid := [("sexton/crc.halfSteps", laid_sexton_crc_halfSteps)] }
def CrcCutSaid : Prop := crcCutRow.holds Tryd.pinned (OpenSpec.ofChange crcCutSpec)

/-- ITS FALSE NEIGHBOUR: 'it returns false'. Refute it at one input. -/
def crcCutWrong : ChangeSpec := { name := "crcCut", fn := fun _ => fun
  | [d1, d2] => { results := [.lit (.bool false)], args := [d1, d2] }
  | _ => none }
def CrcCutWrongFalsely : Prop := crcCutRow.holds Tryd.pinned (OpenSpec.ofChange crcCutWrong)

/-- 'sextonlaw03.CrcBit': WHATEVER THE INPUT: true; the input reads as it did. -/
def crcBitSpec : ChangeSpec := { name := "crcBit", fn := fun _ => fun
  | [d1, d2, d3] => { results := [.lit (.bool true)], args := [d1, d2, d3] }
  | _ => none }
def crcBitRow : OpenClaim := { program := "ytoaoinmmfpmgkaadoor", sum := "e73a3f4c5fd5049462f595c4c3485bc9ac14e1b01ecc2bc633f5092ac94cba4f", func := "sexton/sextonlaw03.CrcBit", spec := "crcBit", unfollowed := true, recurses := true, named := ["sexton/crc.halfSteps"], apart := false, laid := [("sexton/crc.halfSteps", laid_sexton_crc_halfSteps)] }
def CrcBitSaid : Prop := crcBitRow.holds Tryd.pinned (OpenSpec.ofChange crcBitSpec)

/-- ITS FALSE NEIGHBOUR: 'it returns false'. Refute it at one input. -/
def crcBitWrong : ChangeSpec := { name := "crcBit", fn := fun _ => fun
  | [d1, d2, d3] => { results := [.lit (.bool false)], args := [d1, d2, d3] }
  | _ => none }
def CrcBitWrongFalsely : Prop := crcBitRow.holds Tryd.pinned (OpenSpec.ofChange crcBitWrong)

/- THE SECOND FORM. 'bulk': how many values and letters a reading holds, each counted each time it is reached (what is shared counts as often as it is met; a slice's spare places count too). A statement '..UptoSaid' is the law's where the arguments, and the package variables that the reading takes, are together of bulk at most 1048576: NARROWER than '..Said'. Prove '..Said' where nothing that the law and all that it calls make is longer than what came in: it says more and counts as full. Else prove '..UptoSaid'. A law counts once. -/
mutual
def uptoBulk {H : Type} : DataW H → Nat
  | .lit (.string bytes) => bytes.length + 1
  | .lit _ => 1
  | .nil => 1
  | .ptr d => uptoBulk d + 1
  | .slice elems spare => uptoBulkAll elems + uptoBulkAll spare + 1
  | .agg parts => uptoBulkAll parts + 1
  | .iface _ d => uptoBulk d + 1
  | .map entries => uptoBulkEntries entries + 1
  | .held _ => 1
def uptoBulkAll {H : Type} : List (DataW H) → Nat
  | [] => 0
  | d :: r => uptoBulk d + uptoBulkAll r
def uptoBulkEntries {H : Type} : List (Lit × DataW H) → Nat
  | [] => 0
  | x :: r => uptoBulkEntry x + uptoBulkEntries r
def uptoBulkEntry {H : Type} : Lit × DataW H → Nat
  | (.string bytes, d) => bytes.length + uptoBulk d + 1
  | (_, d) => uptoBulk d + 1
 end
def uptoSmall : (H : Type) → List (DataW H) → Bool := fun _ ds => decide (uptoBulkAll ds ≤ 1048576)
def OpenSpec.upto (s : _root_.Go.ChangeSpec) : _root_.Go.OpenSpec := { _root_.Go.OpenSpec.ofChange s with cond := some uptoSmall }

/-- 'sextonlaw03.CrcSums', WHERE WHAT IT READS IS OF BULK AT MOST 1048576: true; the input reads as it did. -/
def crcSumsUptoRow : OpenClaim := { program := "ytoaoinmmfpmgkaadoor", sum := "e73a3f4c5fd5049462f595c4c3485bc9ac14e1b01ecc2bc633f5092ac94cba4f", func := "sexton/sextonlaw03.CrcSums", spec := "crcSums", unfollowed := true, recurses := true, named := ["sexton/crc.halfSteps"], apart := false, laid := [("sexton/crc.halfSteps", laid_sexton_crc_halfSteps)], narrowed := true }
def CrcSumsUptoSaid : Prop := crcSumsUptoRow.holds Tryd.pinned (OpenSpec.upto crcSumsSpec)

/-- 'sextonlaw03.CrcGets', WHERE WHAT IT READS IS OF BULK AT MOST 1048576: true; the input reads as it did. -/
def crcGetsUptoRow : OpenClaim := { program := "ytoaoinmmfpmgkaadoor", sum := "e73a3f4c5fd5049462f595c4c3485bc9ac14e1b01ecc2bc633f5092ac94cba4f", func := "sexton/sextonlaw03.CrcGets", spec := "crcGets", unfollowed := true, recurses := true, named := ["sexton/crc.halfSteps"], apart := false, laid := [("sexton/crc.halfSteps", laid_sexton_crc_halfSteps)], narrowed := true }
def CrcGetsUptoSaid : Prop := crcGetsUptoRow.holds Tryd.pinned (OpenSpec.upto crcGetsSpec)

/-- 'sextonlaw03.CrcBack', WHERE WHAT IT READS IS OF BULK AT MOST 1048576: true; the input reads as it did. -/
def crcBackUptoRow : OpenClaim := { program := "ytoaoinmmfpmgkaadoor", sum := "e73a3f4c5fd5049462f595c4c3485bc9ac14e1b01ecc2bc633f5092ac94cba4f", func := "sexton/sextonlaw03.CrcBack", spec := "crcBack", unfollowed := true, recurses := true, named := ["sexton/crc.halfSteps"], apart := false, laid := [("sexton/crc.halfSteps", laid_sexton_crc_halfSteps)], narrowed := true }
def CrcBackUptoSaid : Prop := crcBackUptoRow.holds Tryd.pinned (OpenSpec.upto crcBackSpec)

/-- 'sextonlaw03.CrcCut', WHERE WHAT IT READS IS OF BULK AT MOST 1048576: true; the input reads as it did. -/
def crcCutUptoRow : OpenClaim := { program := "ytoaoinmmfpmgkaadoor", sum := "e73a3f4c5fd5049462f595c4c3485bc9ac14e1b01ecc2bc633f5092ac94cba4f", func := "sexton/sextonlaw03.CrcCut", spec := "crcCut", unfollowed := true, recurses := true, named := ["sexton/crc.halfSteps"], apart := false, laid := [("sexton/crc.halfSteps", laid_sexton_crc_halfSteps)], narrowed := true }
def CrcCutUptoSaid : Prop := crcCutUptoRow.holds Tryd.pinned (OpenSpec.upto crcCutSpec)

/-- 'sextonlaw03.CrcBit', WHERE WHAT IT READS IS OF BULK AT MOST 1048576: true; the input reads as it did. -/
def crcBitUptoRow : OpenClaim := { program := "ytoaoinmmfpmgkaadoor", sum := "e73a3f4c5fd5049462f595c4c3485bc9ac14e1b01ecc2bc633f5092ac94cba4f", func := "sexton/sextonlaw03.CrcBit", spec := "crcBit", unfollowed := true, recurses := true, named := ["sexton/crc.halfSteps"], apart := false, laid := [("sexton/crc.halfSteps", laid_sexton_crc_halfSteps)], narrowed := true }
def CrcBitUptoSaid : Prop := crcBitUptoRow.holds Tryd.pinned (OpenSpec.upto crcBitSpec)

end Rows
end Go.Proofs.YtoaoinmmfpmgkaaDoor
