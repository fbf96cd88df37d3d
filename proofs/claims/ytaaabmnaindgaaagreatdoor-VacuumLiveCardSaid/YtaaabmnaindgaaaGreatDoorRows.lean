/-
  NARROWER THAN 'FOR EVERY INPUT', by the rows' own cells (each row's printed sentence says how): VacuumDoes: laid · VacuumKeeps: laid · VacuumTwice: laid · VacuumLeast: laid · VacuumLive: laid.
  DERIVED. THE GIVEN ROWS OF THIS SEAT. 5 by the template 'for every input the law returns true; each argument reads behind the call as it read before'; 0 by the template 'total and deterministic' (their statements: YtaaabmnaindgaaaGreatDoorTotals.lean).
  GIVEN WITH THE SEED: the statements are not yours to turn. If you find one false, say at which input.
  Laid BY PROGRAM, IN A SANDBOX (cutbox-rows.mjs): the forced cells as the released guide's own fill.sh prints them over the translation c3c5b8464bc95efb… (all of the seat's roots in one cut). By AI agents, Wed Nov 11 2026. No macro, syntax, notation, axiom, sorry.
-/
import Derived.Test.YtaaabmnaindgaaaGreatDoorChecked
import GoSem.PinnedTables
import GoSem.Claim
import GoSem.ClaimJoined
import GoSem.ClaimMapViews
import Derived.JoinedTies
import Derived.KernelRfl
namespace Go.Proofs.YtaaabmnaindgaaaGreatDoor
/- THE CELL 'sum', in the pinned program and in every row, IS THE sha256 OF THE DUMP (.gsa) THAT YtaaabmnaindgaaaGreatDoorProg.lean LOADS. Nothing in Lean hashes anything: it is a label: what it is worth is what the hold of that sum in a sandbox is worth. -/
noncomputable def Tryz.pinned : Pinned := { name := "ytaaabmnaindgaaagreatdoor", sum := "c3c5b8464bc95efb2928f4fed0f55de8f0af5785ca6f59636004a08d2e7dd40e", checked := Tryz.checked }
namespace Rows
def none {H : Type} : Left H := { results := [], args := [] }

/- WHAT THE LISTED PACKAGE-LEVEL VARIABLES READ AS WHEN THE CALL BEGINS. Each datum BY PROGRAM (the guide's laid-datum.mjs) off the statement by which the dump's own 'gosem.cut.vars' lays the variable. In a bare row this is a premise. The card (YtaaabmnaindgaaaGreatDoorCards.lean) ties it to the program's text. -/
def laid_unicode_utf8_acceptRanges {H : Type} : DataW H := .agg [.agg [.lit (.int .u8 128), .lit (.int .u8 191)], .agg [.lit (.int .u8 160), .lit (.int .u8 191)], .agg [.lit (.int .u8 128), .lit (.int .u8 159)], .agg [.lit (.int .u8 144), .lit (.int .u8 191)], .agg [.lit (.int .u8 128), .lit (.int .u8 143)], .agg [.lit (.int .u8 0), .lit (.int .u8 0)], .agg [.lit (.int .u8 0), .lit (.int .u8 0)], .agg [.lit (.int .u8 0), .lit (.int .u8 0)], .agg [.lit (.int .u8 0), .lit (.int .u8 0)], .agg [.lit (.int .u8 0), .lit (.int .u8 0)], .agg [.lit (.int .u8 0), .lit (.int .u8 0)], .agg [.lit (.int .u8 0), .lit (.int .u8 0)], .agg [.lit (.int .u8 0), .lit (.int .u8 0)], .agg [.lit (.int .u8 0), .lit (.int .u8 0)], .agg [.lit (.int .u8 0), .lit (.int .u8 0)], .agg [.lit (.int .u8 0), .lit (.int .u8 0)]]
/-- One of Go's own tables, pinned by name: the form's constant. -/
def laid_unicode_utf8_first : DataW Unit := Go.Pinned.utf8First

/-- 'sextonlaw18.VacuumDoes': WHATEVER THE INPUT: true; the input reads as it did. -/
def vacuumDoesSpec : ChangeSpec := { name := "vacuumDoes", fn := fun _ => fun
  | [d1, d2] => { results := [.lit (.bool true)], args := [d1, d2] }
  | _ => none }
def vacuumDoesRow : OpenClaim := { program := "ytaaabmnaindgaaagreatdoor", sum := "c3c5b8464bc95efb2928f4fed0f55de8f0af5785ca6f59636004a08d2e7dd40e", func := "sexton/sextonlaw18.VacuumDoes", spec := "vacuumDoes", inPlace := ["internal/bytealg.abigen_runtime_cmpstring", "internal/bytealg.CountString", "internal/bytealg.IndexByteString", "internal/bytealg.IndexString", "internal/abi.NoEscape", "internal/bytealg.MakeNoZero"], unfollowed := true, recurses := true, named := ["unicode/utf8.first", "unicode/utf8.acceptRanges", "internal/bytealg.MaxLen"], apart := false, laid := [("unicode/utf8.acceptRanges", laid_unicode_utf8_acceptRanges), ("unicode/utf8.first", laid_unicode_utf8_first)] }
def VacuumDoesSaid : Prop := vacuumDoesRow.holds Tryz.pinned (OpenSpec.ofChange vacuumDoesSpec)

/-- ITS FALSE NEIGHBOUR: 'it returns false'. Refute it at one input. -/
def vacuumDoesWrong : ChangeSpec := { name := "vacuumDoes", fn := fun _ => fun
  | [d1, d2] => { results := [.lit (.bool false)], args := [d1, d2] }
  | _ => none }
def VacuumDoesWrongFalsely : Prop := vacuumDoesRow.holds Tryz.pinned (OpenSpec.ofChange vacuumDoesWrong)

/-- 'sextonlaw18.VacuumKeeps': WHATEVER THE INPUT: true; the input reads as it did. -/
def vacuumKeepsSpec : ChangeSpec := { name := "vacuumKeeps", fn := fun _ => fun
  | [d1, d2, d3, d4] => { results := [.lit (.bool true)], args := [d1, d2, d3, d4] }
  | _ => none }
def vacuumKeepsRow : OpenClaim := { program := "ytaaabmnaindgaaagreatdoor", sum := "c3c5b8464bc95efb2928f4fed0f55de8f0af5785ca6f59636004a08d2e7dd40e", func := "sexton/sextonlaw18.VacuumKeeps", spec := "vacuumKeeps", inPlace := ["internal/bytealg.CountString", "internal/bytealg.IndexByteString", "internal/bytealg.IndexString", "internal/bytealg.abigen_runtime_cmpstring", "internal/abi.NoEscape", "internal/bytealg.MakeNoZero"], unfollowed := true, recurses := true, named := ["unicode/utf8.first", "unicode/utf8.acceptRanges", "internal/bytealg.MaxLen"], apart := false, laid := [("unicode/utf8.acceptRanges", laid_unicode_utf8_acceptRanges), ("unicode/utf8.first", laid_unicode_utf8_first)] }
def VacuumKeepsSaid : Prop := vacuumKeepsRow.holds Tryz.pinned (OpenSpec.ofChange vacuumKeepsSpec)

/-- ITS FALSE NEIGHBOUR: 'it returns false'. Refute it at one input. -/
def vacuumKeepsWrong : ChangeSpec := { name := "vacuumKeeps", fn := fun _ => fun
  | [d1, d2, d3, d4] => { results := [.lit (.bool false)], args := [d1, d2, d3, d4] }
  | _ => none }
def VacuumKeepsWrongFalsely : Prop := vacuumKeepsRow.holds Tryz.pinned (OpenSpec.ofChange vacuumKeepsWrong)

/-- 'sextonlaw18.VacuumTwice': WHATEVER THE INPUT: true; the input reads as it did. -/
def vacuumTwiceSpec : ChangeSpec := { name := "vacuumTwice", fn := fun _ => fun
  | [d1, d2, d3] => { results := [.lit (.bool true)], args := [d1, d2, d3] }
  | _ => none }
def vacuumTwiceRow : OpenClaim := { program := "ytaaabmnaindgaaagreatdoor", sum := "c3c5b8464bc95efb2928f4fed0f55de8f0af5785ca6f59636004a08d2e7dd40e", func := "sexton/sextonlaw18.VacuumTwice", spec := "vacuumTwice", inPlace := ["internal/bytealg.CountString", "internal/bytealg.IndexByteString", "internal/bytealg.IndexString", "internal/bytealg.abigen_runtime_cmpstring", "internal/abi.NoEscape", "internal/bytealg.MakeNoZero"], unfollowed := true, recurses := true, named := ["unicode/utf8.first", "unicode/utf8.acceptRanges", "internal/bytealg.MaxLen"], apart := false, laid := [("unicode/utf8.acceptRanges", laid_unicode_utf8_acceptRanges), ("unicode/utf8.first", laid_unicode_utf8_first)] }
def VacuumTwiceSaid : Prop := vacuumTwiceRow.holds Tryz.pinned (OpenSpec.ofChange vacuumTwiceSpec)

/-- ITS FALSE NEIGHBOUR: 'it returns false'. Refute it at one input. -/
def vacuumTwiceWrong : ChangeSpec := { name := "vacuumTwice", fn := fun _ => fun
  | [d1, d2, d3] => { results := [.lit (.bool false)], args := [d1, d2, d3] }
  | _ => none }
def VacuumTwiceWrongFalsely : Prop := vacuumTwiceRow.holds Tryz.pinned (OpenSpec.ofChange vacuumTwiceWrong)

/-- 'sextonlaw18.VacuumLeast': WHATEVER THE INPUT: true; the input reads as it did. -/
def vacuumLeastSpec : ChangeSpec := { name := "vacuumLeast", fn := fun _ => fun
  | [d1, d2] => { results := [.lit (.bool true)], args := [d1, d2] }
  | _ => none }
def vacuumLeastRow : OpenClaim := { program := "ytaaabmnaindgaaagreatdoor", sum := "c3c5b8464bc95efb2928f4fed0f55de8f0af5785ca6f59636004a08d2e7dd40e", func := "sexton/sextonlaw18.VacuumLeast", spec := "vacuumLeast", inPlace := ["internal/bytealg.CountString", "internal/bytealg.IndexByteString", "internal/bytealg.IndexString", "internal/bytealg.abigen_runtime_cmpstring", "internal/abi.NoEscape", "internal/bytealg.MakeNoZero"], unfollowed := true, recurses := true, named := ["unicode/utf8.first", "unicode/utf8.acceptRanges", "internal/bytealg.MaxLen"], apart := false, laid := [("unicode/utf8.acceptRanges", laid_unicode_utf8_acceptRanges), ("unicode/utf8.first", laid_unicode_utf8_first)] }
def VacuumLeastSaid : Prop := vacuumLeastRow.holds Tryz.pinned (OpenSpec.ofChange vacuumLeastSpec)

/-- ITS FALSE NEIGHBOUR: 'it returns false'. Refute it at one input. -/
def vacuumLeastWrong : ChangeSpec := { name := "vacuumLeast", fn := fun _ => fun
  | [d1, d2] => { results := [.lit (.bool false)], args := [d1, d2] }
  | _ => none }
def VacuumLeastWrongFalsely : Prop := vacuumLeastRow.holds Tryz.pinned (OpenSpec.ofChange vacuumLeastWrong)

/-- 'sextonlaw18.VacuumLive': WHATEVER THE INPUT: true; the input reads as it did. -/
def vacuumLiveSpec : ChangeSpec := { name := "vacuumLive", fn := fun _ => fun
  | [d1, d2, d3] => { results := [.lit (.bool true)], args := [d1, d2, d3] }
  | _ => none }
def vacuumLiveRow : OpenClaim := { program := "ytaaabmnaindgaaagreatdoor", sum := "c3c5b8464bc95efb2928f4fed0f55de8f0af5785ca6f59636004a08d2e7dd40e", func := "sexton/sextonlaw18.VacuumLive", spec := "vacuumLive", inPlace := ["internal/bytealg.abigen_runtime_cmpstring", "internal/bytealg.CountString", "internal/bytealg.IndexByteString", "internal/bytealg.IndexString", "internal/abi.NoEscape", "internal/bytealg.MakeNoZero"], unfollowed := true, recurses := true, named := ["unicode/utf8.first", "unicode/utf8.acceptRanges", "internal/bytealg.MaxLen"], apart := false, laid := [("unicode/utf8.acceptRanges", laid_unicode_utf8_acceptRanges), ("unicode/utf8.first", laid_unicode_utf8_first)] }
def VacuumLiveSaid : Prop := vacuumLiveRow.holds Tryz.pinned (OpenSpec.ofChange vacuumLiveSpec)

/-- ITS FALSE NEIGHBOUR: 'it returns false'. Refute it at one input. -/
def vacuumLiveWrong : ChangeSpec := { name := "vacuumLive", fn := fun _ => fun
  | [d1, d2, d3] => { results := [.lit (.bool false)], args := [d1, d2, d3] }
  | _ => none }
def VacuumLiveWrongFalsely : Prop := vacuumLiveRow.holds Tryz.pinned (OpenSpec.ofChange vacuumLiveWrong)

/- THE SECOND FORM. 'bulk': how many values and letters a reading holds, each counted each time it is reached (what is shared counts as often as it is met; a slice's spare places count too). A statement '..UptoSaid' is the law's where the arguments, and the package variables that the reading takes, are together of bulk at most 1048576: NARROWER than '..Said'. Prove '..Said' where nothing that the law and all that it calls make is longer than what came in: it says more and counts as full. Else prove '..UptoSaid'. A law counts once. -/
mutual
def uptoBulk {H : Type} : DataW H → Nat
  | .lit (.string bytes) => bytes.length + 1
  | .lit _ => 1
  | .nil => 1
  | .ptr d => uptoBulk d + 1
  | .slice elems spare => uptoBulkAll elems + uptoBulkAll spare + 1
  | .agg parts => uptoBulkAll parts + 1
  | .iface _ d => uptoBulk d + 1
  | .map entries => uptoBulkEntries entries + 1
  | .held _ => 1
def uptoBulkAll {H : Type} : List (DataW H) → Nat
  | [] => 0
  | d :: r => uptoBulk d + uptoBulkAll r
def uptoBulkEntries {H : Type} : List (Lit × DataW H) → Nat
  | [] => 0
  | x :: r => uptoBulkEntry x + uptoBulkEntries r
def uptoBulkEntry {H : Type} : Lit × DataW H → Nat
  | (.string bytes, d) => bytes.length + uptoBulk d + 1
  | (_, d) => uptoBulk d + 1
 end
def uptoSmall : (H : Type) → List (DataW H) → Bool := fun _ ds => decide (uptoBulkAll ds ≤ 1048576)
def OpenSpec.upto (s : _root_.Go.ChangeSpec) : _root_.Go.OpenSpec := { _root_.Go.OpenSpec.ofChange s with cond := some uptoSmall }

/-- 'sextonlaw18.VacuumDoes', WHERE WHAT IT READS IS OF BULK AT MOST 1048576: true; the input reads as it did. -/
def vacuumDoesUptoRow : OpenClaim := { program := "ytaaabmnaindgaaagreatdoor", sum := "c3c5b8464bc95efb2928f4fed0f55de8f0af5785ca6f59636004a08d2e7dd40e", func := "sexton/sextonlaw18.VacuumDoes", spec := "vacuumDoes", inPlace := ["internal/bytealg.abigen_runtime_cmpstring", "internal/bytealg.CountString", "internal/bytealg.IndexByteString", "internal/bytealg.IndexString", "internal/abi.NoEscape", "internal/bytealg.MakeNoZero"], unfollowed := true, recurses := true, named := ["unicode/utf8.first", "unicode/utf8.acceptRanges", "internal/bytealg.MaxLen"], apart := false, laid := [("unicode/utf8.acceptRanges", laid_unicode_utf8_acceptRanges), ("unicode/utf8.first", laid_unicode_utf8_first)], narrowed := true }
def VacuumDoesUptoSaid : Prop := vacuumDoesUptoRow.holds Tryz.pinned (OpenSpec.upto vacuumDoesSpec)

/-- 'sextonlaw18.VacuumKeeps', WHERE WHAT IT READS IS OF BULK AT MOST 1048576: true; the input reads as it did. -/
def vacuumKeepsUptoRow : OpenClaim := { program := "ytaaabmnaindgaaagreatdoor", sum := "c3c5b8464bc95efb2928f4fed0f55de8f0af5785ca6f59636004a08d2e7dd40e", func := "sexton/sextonlaw18.VacuumKeeps", spec := "vacuumKeeps", inPlace := ["internal/bytealg.CountString", "internal/bytealg.IndexByteString", "internal/bytealg.IndexString", "internal/bytealg.abigen_runtime_cmpstring", "internal/abi.NoEscape", "internal/bytealg.MakeNoZero"], unfollowed := true, recurses := true, named := ["unicode/utf8.first", "unicode/utf8.acceptRanges", "internal/bytealg.MaxLen"], apart := false, laid := [("unicode/utf8.acceptRanges", laid_unicode_utf8_acceptRanges), ("unicode/utf8.first", laid_unicode_utf8_first)], narrowed := true }
def VacuumKeepsUptoSaid : Prop := vacuumKeepsUptoRow.holds Tryz.pinned (OpenSpec.upto vacuumKeepsSpec)

/-- 'sextonlaw18.VacuumTwice', WHERE WHAT IT READS IS OF BULK AT MOST 1048576: true; the input reads as it did. -/
def vacuumTwiceUptoRow : OpenClaim := { program := "ytaaabmnaindgaaagreatdoor", sum := "c3c5b8464bc95efb2928f4fed0f55de8f0af5785ca6f59636004a08d2e7dd40e", func := "sexton/sextonlaw18.VacuumTwice", spec := "vacuumTwice", inPlace := ["internal/bytealg.CountString", "internal/bytealg.IndexByteString", "internal/bytealg.IndexString", "internal/bytealg.abigen_runtime_cmpstring", "internal/abi.NoEscape", "internal/bytealg.MakeNoZero"], unfollowed := true, recurses := true, named := ["unicode/utf8.first", "unicode/utf8.acceptRanges", "internal/bytealg.MaxLen"], apart := false, laid := [("unicode/utf8.acceptRanges", laid_unicode_utf8_acceptRanges), ("unicode/utf8.first", laid_unicode_utf8_first)], narrowed := true }
def VacuumTwiceUptoSaid : Prop := vacuumTwiceUptoRow.holds Tryz.pinned (OpenSpec.upto vacuumTwiceSpec)

/-- 'sextonlaw18.VacuumLeast', WHERE WHAT IT READS IS OF BULK AT MOST 1048576: true; the input reads as it did. -/
def vacuumLeastUptoRow : OpenClaim := { program := "ytaaabmnaindgaaagreatdoor", sum := "c3c5b8464bc95efb2928f4fed0f55de8f0af5785ca6f59636004a08d2e7dd40e", func := "sexton/sextonlaw18.VacuumLeast", spec := "vacuumLeast", inPlace := ["internal/bytealg.CountString", "internal/bytealg.IndexByteString", "internal/bytealg.IndexString", "internal/bytealg.abigen_runtime_cmpstring", "internal/abi.NoEscape", "internal/bytealg.MakeNoZero"], unfollowed := true, recurses := true, named := ["unicode/utf8.first", "unicode/utf8.acceptRanges", "internal/bytealg.MaxLen"], apart := false, laid := [("unicode/utf8.acceptRanges", laid_unicode_utf8_acceptRanges), ("unicode/utf8.first", laid_unicode_utf8_first)], narrowed := true }
def VacuumLeastUptoSaid : Prop := vacuumLeastUptoRow.holds Tryz.pinned (OpenSpec.upto vacuumLeastSpec)

/-- 'sextonlaw18.VacuumLive', WHERE WHAT IT READS IS OF BULK AT MOST 1048576: true; the input reads as it did. -/
def vacuumLiveUptoRow : OpenClaim := { program := "ytaaabmnaindgaaagreatdoor", sum := "c3c5b8464bc95efb2928f4fed0f55de8f0af5785ca6f59636004a08d2e7dd40e", func := "sexton/sextonlaw18.VacuumLive", spec := "vacuumLive", inPlace := ["internal/bytealg.abigen_runtime_cmpstring", "internal/bytealg.CountString", "internal/bytealg.IndexByteString", "internal/bytealg.IndexString", "internal/abi.NoEscape", "internal/bytealg.MakeNoZero"], unfollowed := true, recurses := true, named := ["unicode/utf8.first", "unicode/utf8.acceptRanges", "internal/bytealg.MaxLen"], apart := false, laid := [("unicode/utf8.acceptRanges", laid_unicode_utf8_acceptRanges), ("unicode/utf8.first", laid_unicode_utf8_first)], narrowed := true }
def VacuumLiveUptoSaid : Prop := vacuumLiveUptoRow.holds Tryz.pinned (OpenSpec.upto vacuumLiveSpec)

end Rows
end Go.Proofs.YtaaabmnaindgaaaGreatDoor
