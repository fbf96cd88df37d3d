/-
  NARROWER THAN 'FOR EVERY INPUT', by the rows' own cells (each row's printed sentence says how): SlotBack: laid · SlotCrash: laid · SlotRow: laid · SlotTwice: laid.
  DERIVED. THE GIVEN ROWS OF THIS SEAT. 4 by the template 'for every input the law returns true; each argument reads behind the call as it read before'; 0 by the template 'total and deterministic' (their statements: YtdbidfbjfongbaaDoorTotals.lean).
  GIVEN WITH THE SEED: the statements are not yours to turn. If you find one false, say at which input.
  Laid BY PROGRAM, IN A SANDBOX (cutbox-rows.mjs): the forced cells as the released guide's own fill.sh prints them over the translation a065939c1fa98ba0… (all of the seat's roots in one cut). By AI agents, Wed Nov 11 2026. No macro, syntax, notation, axiom, sorry.
-/
import Derived.Test.YtdbidfbjfongbaaDoorChecked
import GoSem.Claim
import GoSem.ClaimJoined
import GoSem.ClaimMapViews
import Derived.JoinedTies
import Derived.KernelRfl
namespace Go.Proofs.YtdbidfbjfongbaaDoor
/- THE CELL 'sum', in the pinned program and in every row, IS THE sha256 OF THE DUMP (.gsa) THAT YtdbidfbjfongbaaDoorProg.lean LOADS. Nothing in Lean hashes anything: it is a label: what it is worth is what the hold of that sum in a sandbox is worth. -/
noncomputable def Tryd.pinned : Pinned := { name := "ytdbidfbjfongbaadoor", sum := "a065939c1fa98ba0fa0a8d70bad87daed30046c353563658f818f76436d0b21a", checked := Tryd.checked }
namespace Rows
def none {H : Type} : Left H := { results := [], args := [] }

/- WHAT THE LISTED PACKAGE-LEVEL VARIABLES READ AS WHEN THE CALL BEGINS. Each datum BY PROGRAM (the guide's laid-datum.mjs) off the statement by which the dump's own 'gosem.cut.vars' lays the variable. In a bare row this is a premise. The card (YtdbidfbjfongbaaDoorCards.lean) ties it to the program's text. -/
def laid_sexton_crc_halfSteps {H : Type} : DataW H := .agg [.lit (.int .u32 0), .lit (.int .u32 498536548), .lit (.int .u32 997073096), .lit (.int .u32 651767980), .lit (.int .u32 1994146192), .lit (.int .u32 1802195444), .lit (.int .u32 1303535960), .lit (.int .u32 1342533948), .lit (.int .u32 3988292384), .lit (.int .u32 4027552580), .lit (.int .u32 3604390888), .lit (.int .u32 3412177804), .lit (.int .u32 2607071920), .lit (.int .u32 2262029012), .lit (.int .u32 2685067896), .lit (.int .u32 3183342108)]

/-- 'sextonlaw06.SlotBack': WHATEVER THE INPUT: true; the input reads as it did. -/
def slotBackSpec : ChangeSpec := { name := "slotBack", fn := fun _ => fun
  | [d1, d2] => { results := [.lit (.bool true)], args := [d1, d2] }
  | _ => none }
def slotBackRow : OpenClaim := { program := "ytdbidfbjfongbaadoor", sum := "a065939c1fa98ba0fa0a8d70bad87daed30046c353563658f818f76436d0b21a", func := "sexton/sextonlaw06.SlotBack", spec := "slotBack", unfollowed := true, recurses := true, named := ["sexton/crc.halfSteps"], apart := false, laid := [("sexton/crc.halfSteps", laid_sexton_crc_halfSteps)] }
def SlotBackSaid : Prop := slotBackRow.holds Tryd.pinned (OpenSpec.ofChange slotBackSpec)

/-- ITS FALSE NEIGHBOUR: 'it returns false'. Refute it at one input. -/
def slotBackWrong : ChangeSpec := { name := "slotBack", fn := fun _ => fun
  | [d1, d2] => { results := [.lit (.bool false)], args := [d1, d2] }
  | _ => none }
def SlotBackWrongFalsely : Prop := slotBackRow.holds Tryd.pinned (OpenSpec.ofChange slotBackWrong)

/-- 'sextonlaw06.SlotCrash': WHATEVER THE INPUT: true; the input reads as it did. -/
def slotCrashSpec : ChangeSpec := { name := "slotCrash", fn := fun _ => fun
  | [d1, d2, d3, d4] => { results := [.lit (.bool true)], args := [d1, d2, d3, d4] }
  | _ => none }
def slotCrashRow : OpenClaim := { program := "ytdbidfbjfongbaadoor", sum := "a065939c1fa98ba0fa0a8d70bad87daed30046c353563658f818f76436d0b21a", func := "sexton/sextonlaw06.SlotCrash", spec := "slotCrash", unfollowed := true, recurses := true, named := ["sexton/crc.halfSteps"], apart := false, laid := [("sexton/crc.halfSteps", laid_sexton_crc_halfSteps)] }
def SlotCrashSaid : Prop := slotCrashRow.holds Tryd.pinned (OpenSpec.ofChange slotCrashSpec)

/-- ITS FALSE NEIGHBOUR: 'it returns false'. Refute it at one input. -/
def slotCrashWrong : ChangeSpec := { name := "slotCrash", fn := fun _ => fun
  | [d1, d2, d3, d4] => { results := [.lit (.bool false)], args := [d1, d2, d3, d4] }
  | _ => none }
def SlotCrashWrongFalsely : Prop := slotCrashRow.holds Tryd.pinned (OpenSpec.ofChange slotCrashWrong)

/-- 'sextonlaw06.SlotRow': WHATEVER THE INPUT: true; the input reads as it did. -/
def slotRowSpec : ChangeSpec := { name := "slotRow", fn := fun _ => fun
  | [d1, d2] => { results := [.lit (.bool true)], args := [d1, d2] }
  | _ => none }
def slotRowRow : OpenClaim := { program := "ytdbidfbjfongbaadoor", sum := "a065939c1fa98ba0fa0a8d70bad87daed30046c353563658f818f76436d0b21a", func := "sexton/sextonlaw06.SlotRow", spec := "slotRow", unfollowed := true, recurses := true, named := ["sexton/crc.halfSteps"], apart := false, laid := [("sexton/crc.halfSteps", laid_sexton_crc_halfSteps)] }
def SlotRowSaid : Prop := slotRowRow.holds Tryd.pinned (OpenSpec.ofChange slotRowSpec)

/-- ITS FALSE NEIGHBOUR: 'it returns false'. Refute it at one input. -/
def slotRowWrong : ChangeSpec := { name := "slotRow", fn := fun _ => fun
  | [d1, d2] => { results := [.lit (.bool false)], args := [d1, d2] }
  | _ => none }
def SlotRowWrongFalsely : Prop := slotRowRow.holds Tryd.pinned (OpenSpec.ofChange slotRowWrong)

/-- 'sextonlaw06.SlotTwice': WHATEVER THE INPUT: true; the input reads as it did. -/
def slotTwiceSpec : ChangeSpec := { name := "slotTwice", fn := fun _ => fun
  | [d1, d2] => { results := [.lit (.bool true)], args := [d1, d2] }
  | _ => none }
def slotTwiceRow : OpenClaim := { program := "ytdbidfbjfongbaadoor", sum := "a065939c1fa98ba0fa0a8d70bad87daed30046c353563658f818f76436d0b21a", func := "sexton/sextonlaw06.SlotTwice", spec := "slotTwice", unfollowed := true, recurses := true, named := ["sexton/crc.halfSteps"], apart := false, laid := [("sexton/crc.halfSteps", laid_sexton_crc_halfSteps)] }
def SlotTwiceSaid : Prop := slotTwiceRow.holds Tryd.pinned (OpenSpec.ofChange slotTwiceSpec)

/-- ITS FALSE NEIGHBOUR: 'it returns false'. Refute it at one input. -/
def slotTwiceWrong : ChangeSpec := { name := "slotTwice", fn := fun _ => fun
  | [d1, d2] => { results := [.lit (.bool false)], args := [d1, d2] }
  | _ => none }
def SlotTwiceWrongFalsely : Prop := slotTwiceRow.holds Tryd.pinned (OpenSpec.ofChange slotTwiceWrong)

/- THE SECOND FORM. 'bulk': how many values and letters a reading holds, each counted each time it is reached (what is shared counts as often as it is met; a slice's spare places count too). A statement '..UptoSaid' is the law's where the arguments, and the package variables that the reading takes, are together of bulk at most 1048576: NARROWER than '..Said'. Prove '..Said' where nothing that the law and all that it calls make is longer than what came in: it says more and counts as full. Else prove '..UptoSaid'. A law counts once. -/
mutual
def uptoBulk {H : Type} : DataW H → Nat
  | .lit (.string bytes) => bytes.length + 1
  | .lit _ => 1
  | .nil => 1
  | .ptr d => uptoBulk d + 1
  | .slice elems spare => uptoBulkAll elems + uptoBulkAll spare + 1
  | .agg parts => uptoBulkAll parts + 1
  | .iface _ d => uptoBulk d + 1
  | .map entries => uptoBulkEntries entries + 1
  | .held _ => 1
def uptoBulkAll {H : Type} : List (DataW H) → Nat
  | [] => 0
  | d :: r => uptoBulk d + uptoBulkAll r
def uptoBulkEntries {H : Type} : List (Lit × DataW H) → Nat
  | [] => 0
  | x :: r => uptoBulkEntry x + uptoBulkEntries r
def uptoBulkEntry {H : Type} : Lit × DataW H → Nat
  | (.string bytes, d) => bytes.length + uptoBulk d + 1
  | (_, d) => uptoBulk d + 1
 end
def uptoSmall : (H : Type) → List (DataW H) → Bool := fun _ ds => decide (uptoBulkAll ds ≤ 1048576)
def OpenSpec.upto (s : _root_.Go.ChangeSpec) : _root_.Go.OpenSpec := { _root_.Go.OpenSpec.ofChange s with cond := some uptoSmall }

/-- 'sextonlaw06.SlotBack', WHERE WHAT IT READS IS OF BULK AT MOST 1048576: true; the input reads as it did. -/
def slotBackUptoRow : OpenClaim := { program := "ytdbidfbjfongbaadoor", sum := "a065939c1fa98ba0fa0a8d70bad87daed30046c353563658f818f76436d0b21a", func := "sexton/sextonlaw06.SlotBack", spec := "slotBack", unfollowed := true, recurses := true, named := ["sexton/crc.halfSteps"], apart := false, laid := [("sexton/crc.halfSteps", laid_sexton_crc_halfSteps)], narrowed := true }
def SlotBackUptoSaid : Prop := slotBackUptoRow.holds Tryd.pinned (OpenSpec.upto slotBackSpec)

/-- 'sextonlaw06.SlotCrash', WHERE WHAT IT READS IS OF BULK AT MOST 1048576: true; the input reads as it did. -/
def slotCrashUptoRow : OpenClaim := { program := "ytdbidfbjfongbaadoor", sum := "a065939c1fa98ba0fa0a8d70bad87daed30046c353563658f818f76436d0b21a", func := "sexton/sextonlaw06.SlotCrash", spec := "slotCrash", unfollowed := true, recurses := true, named := ["sexton/crc.halfSteps"], apart := false, laid := [("sexton/crc.halfSteps", laid_sexton_crc_halfSteps)], narrowed := true }
def SlotCrashUptoSaid : Prop := slotCrashUptoRow.holds Tryd.pinned (OpenSpec.upto slotCrashSpec)

/-- 'sextonlaw06.SlotRow', WHERE WHAT IT READS IS OF BULK AT MOST 1048576: true; the input reads as it did. -/
def slotRowUptoRow : OpenClaim := { program := "ytdbidfbjfongbaadoor", sum := "a065939c1fa98ba0fa0a8d70bad87daed30046c353563658f818f76436d0b21a", func := "sexton/sextonlaw06.SlotRow", spec := "slotRow", unfollowed := true, recurses := true, named := ["sexton/crc.halfSteps"], apart := false, laid := [("sexton/crc.halfSteps", laid_sexton_crc_halfSteps)], narrowed := true }
def SlotRowUptoSaid : Prop := slotRowUptoRow.holds Tryd.pinned (OpenSpec.upto slotRowSpec)

/-- 'sextonlaw06.SlotTwice', WHERE WHAT IT READS IS OF BULK AT MOST 1048576: true; the input reads as it did. -/
def slotTwiceUptoRow : OpenClaim := { program := "ytdbidfbjfongbaadoor", sum := "a065939c1fa98ba0fa0a8d70bad87daed30046c353563658f818f76436d0b21a", func := "sexton/sextonlaw06.SlotTwice", spec := "slotTwice", unfollowed := true, recurses := true, named := ["sexton/crc.halfSteps"], apart := false, laid := [("sexton/crc.halfSteps", laid_sexton_crc_halfSteps)], narrowed := true }
def SlotTwiceUptoSaid : Prop := slotTwiceUptoRow.holds Tryd.pinned (OpenSpec.upto slotTwiceSpec)

end Rows
end Go.Proofs.YtdbidfbjfongbaaDoor
