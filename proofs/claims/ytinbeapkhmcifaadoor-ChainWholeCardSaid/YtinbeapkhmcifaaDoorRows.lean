/-
  NARROWER THAN 'FOR EVERY INPUT', by the rows' own cells (each row's printed sentence says how): ChainDoes: laid · ChainBack: laid · ChainWhole: laid · ChainLess: laid · ChainFewer: laid.
  DERIVED. THE GIVEN ROWS OF THIS SEAT. 5 by the template 'for every input the law returns true; each argument reads behind the call as it read before'; 0 by the template 'total and deterministic' (their statements: YtinbeapkhmcifaaDoorTotals.lean).
  GIVEN WITH THE SEED: the statements are not yours to turn. If you find one false, say at which input.
  Laid BY PROGRAM, IN A SANDBOX (cutbox-rows.mjs): the forced cells as the released guide's own fill.sh prints them over the translation 260d9da1b2dbee0a… (all of the seat's roots in one cut). By AI agents, Wed Nov 11 2026. No macro, syntax, notation, axiom, sorry.
-/
import Derived.Test.YtinbeapkhmcifaaDoorChecked
import GoSem.Claim
import GoSem.ClaimJoined
import GoSem.ClaimMapViews
import Derived.JoinedTies
import Derived.KernelRfl
namespace Go.Proofs.YtinbeapkhmcifaaDoor
/- THE CELL 'sum', in the pinned program and in every row, IS THE sha256 OF THE DUMP (.gsa) THAT YtinbeapkhmcifaaDoorProg.lean LOADS. Nothing in Lean hashes anything: it is a label: what it is worth is what the hold of that sum in a sandbox is worth. -/
noncomputable def Tryd.pinned : Pinned := { name := "ytinbeapkhmcifaadoor", sum := "260d9da1b2dbee0a211894a25110573914762c637c5ffa347e54e691bd9d1eab", checked := Tryd.checked }
namespace Rows
def none {H : Type} : Left H := { results := [], args := [] }

/- WHAT THE LISTED PACKAGE-LEVEL VARIABLES READ AS WHEN THE CALL BEGINS. Each datum BY PROGRAM (the guide's laid-datum.mjs) off the statement by which the dump's own 'gosem.cut.vars' lays the variable. In a bare row this is a premise. The card (YtinbeapkhmcifaaDoorCards.lean) ties it to the program's text. -/
def laid_sexton_crc_halfSteps {H : Type} : DataW H := .agg [.lit (.int .u32 0), .lit (.int .u32 498536548), .lit (.int .u32 997073096), .lit (.int .u32 651767980), .lit (.int .u32 1994146192), .lit (.int .u32 1802195444), .lit (.int .u32 1303535960), .lit (.int .u32 1342533948), .lit (.int .u32 3988292384), .lit (.int .u32 4027552580), .lit (.int .u32 3604390888), .lit (.int .u32 3412177804), .lit (.int .u32 2607071920), .lit (.int .u32 2262029012), .lit (.int .u32 2685067896), .lit (.int .u32 3183342108)]

/-- 'sextonlaw13.ChainDoes': WHATEVER THE INPUT: true; the input reads as it did. -/
def chainDoesSpec : ChangeSpec := { name := "chainDoes", fn := fun _ => fun
  | [d1, d2, d3, d4, d5] => { results := [.lit (.bool true)], args := [d1, d2, d3, d4, d5] }
  | _ => none }
def chainDoesRow : OpenClaim := { program := "ytinbeapkhmcifaadoor", sum := "260d9da1b2dbee0a211894a25110573914762c637c5ffa347e54e691bd9d1eab", func := "sexton/sextonlaw13.ChainDoes", spec := "chainDoes", inPlace := ["internal/abi.NoEscape", "internal/bytealg.MakeNoZero"], unfollowed := true, recurses := true, named := ["sexton/crc.halfSteps"], apart := false, laid := [("sexton/crc.halfSteps", laid_sexton_crc_halfSteps)] }
def ChainDoesSaid : Prop := chainDoesRow.holds Tryd.pinned (OpenSpec.ofChange chainDoesSpec)

/-- ITS FALSE NEIGHBOUR: 'it returns false'. Refute it at one input. -/
def chainDoesWrong : ChangeSpec := { name := "chainDoes", fn := fun _ => fun
  | [d1, d2, d3, d4, d5] => { results := [.lit (.bool false)], args := [d1, d2, d3, d4, d5] }
  | _ => none }
def ChainDoesWrongFalsely : Prop := chainDoesRow.holds Tryd.pinned (OpenSpec.ofChange chainDoesWrong)

/-- 'sextonlaw13.ChainBack': WHATEVER THE INPUT: true; the input reads as it did. -/
def chainBackSpec : ChangeSpec := { name := "chainBack", fn := fun _ => fun
  | [d1, d2] => { results := [.lit (.bool true)], args := [d1, d2] }
  | _ => none }
def chainBackRow : OpenClaim := { program := "ytinbeapkhmcifaadoor", sum := "260d9da1b2dbee0a211894a25110573914762c637c5ffa347e54e691bd9d1eab", func := "sexton/sextonlaw13.ChainBack", spec := "chainBack", inPlace := ["internal/abi.NoEscape", "internal/bytealg.MakeNoZero"], unfollowed := true, recurses := true, named := ["sexton/crc.halfSteps"], apart := false, laid := [("sexton/crc.halfSteps", laid_sexton_crc_halfSteps)] }
def ChainBackSaid : Prop := chainBackRow.holds Tryd.pinned (OpenSpec.ofChange chainBackSpec)

/-- ITS FALSE NEIGHBOUR: 'it returns false'. Refute it at one input. -/
def chainBackWrong : ChangeSpec := { name := "chainBack", fn := fun _ => fun
  | [d1, d2] => { results := [.lit (.bool false)], args := [d1, d2] }
  | _ => none }
def ChainBackWrongFalsely : Prop := chainBackRow.holds Tryd.pinned (OpenSpec.ofChange chainBackWrong)

/-- 'sextonlaw13.ChainWhole': WHATEVER THE INPUT: true; the input reads as it did. -/
def chainWholeSpec : ChangeSpec := { name := "chainWhole", fn := fun _ => fun
  | [d1, d2, d3, d4] => { results := [.lit (.bool true)], args := [d1, d2, d3, d4] }
  | _ => none }
def chainWholeRow : OpenClaim := { program := "ytinbeapkhmcifaadoor", sum := "260d9da1b2dbee0a211894a25110573914762c637c5ffa347e54e691bd9d1eab", func := "sexton/sextonlaw13.ChainWhole", spec := "chainWhole", inPlace := ["internal/abi.NoEscape", "internal/bytealg.MakeNoZero"], unfollowed := true, recurses := true, named := ["sexton/crc.halfSteps"], apart := false, laid := [("sexton/crc.halfSteps", laid_sexton_crc_halfSteps)] }
def ChainWholeSaid : Prop := chainWholeRow.holds Tryd.pinned (OpenSpec.ofChange chainWholeSpec)

/-- ITS FALSE NEIGHBOUR: 'it returns false'. Refute it at one input. -/
def chainWholeWrong : ChangeSpec := { name := "chainWhole", fn := fun _ => fun
  | [d1, d2, d3, d4] => { results := [.lit (.bool false)], args := [d1, d2, d3, d4] }
  | _ => none }
def ChainWholeWrongFalsely : Prop := chainWholeRow.holds Tryd.pinned (OpenSpec.ofChange chainWholeWrong)

/-- 'sextonlaw13.ChainLess': WHATEVER THE INPUT: true; the input reads as it did. -/
def chainLessSpec : ChangeSpec := { name := "chainLess", fn := fun _ => fun
  | [d1, d2, d3, d4] => { results := [.lit (.bool true)], args := [d1, d2, d3, d4] }
  | _ => none }
def chainLessRow : OpenClaim := { program := "ytinbeapkhmcifaadoor", sum := "260d9da1b2dbee0a211894a25110573914762c637c5ffa347e54e691bd9d1eab", func := "sexton/sextonlaw13.ChainLess", spec := "chainLess", inPlace := ["internal/abi.NoEscape", "internal/bytealg.MakeNoZero"], unfollowed := true, recurses := true, named := ["sexton/crc.halfSteps"], apart := false, laid := [("sexton/crc.halfSteps", laid_sexton_crc_halfSteps)] }
def ChainLessSaid : Prop := chainLessRow.holds Tryd.pinned (OpenSpec.ofChange chainLessSpec)

/-- ITS FALSE NEIGHBOUR: 'it returns false'. Refute it at one input. -/
def chainLessWrong : ChangeSpec := { name := "chainLess", fn := fun _ => fun
  | [d1, d2, d3, d4] => { results := [.lit (.bool false)], args := [d1, d2, d3, d4] }
  | _ => none }
def ChainLessWrongFalsely : Prop := chainLessRow.holds Tryd.pinned (OpenSpec.ofChange chainLessWrong)

/-- 'sextonlaw13.ChainFewer': WHATEVER THE INPUT: true; the input reads as it did. -/
def chainFewerSpec : ChangeSpec := { name := "chainFewer", fn := fun _ => fun
  | [d1, d2, d3] => { results := [.lit (.bool true)], args := [d1, d2, d3] }
  | _ => none }
def chainFewerRow : OpenClaim := { program := "ytinbeapkhmcifaadoor", sum := "260d9da1b2dbee0a211894a25110573914762c637c5ffa347e54e691bd9d1eab", func := "sexton/sextonlaw13.ChainFewer", spec := "chainFewer", inPlace := ["internal/abi.NoEscape", "internal/bytealg.MakeNoZero"], unfollowed := true, recurses := true, named := ["sexton/crc.halfSteps"], apart := false, laid := [("sexton/crc.halfSteps", laid_sexton_crc_halfSteps)] }
def ChainFewerSaid : Prop := chainFewerRow.holds Tryd.pinned (OpenSpec.ofChange chainFewerSpec)

/-- ITS FALSE NEIGHBOUR: 'it returns false'. Refute it at one input. -/
def chainFewerWrong : ChangeSpec := { name := "chainFewer", fn := fun _ => fun
  | [d1, d2, d3] => { results := [.lit (.bool false)], args := [d1, d2, d3] }
  | _ => none }
def ChainFewerWrongFalsely : Prop := chainFewerRow.holds Tryd.pinned (OpenSpec.ofChange chainFewerWrong)

/- THE SECOND FORM. 'bulk': how many values and letters a reading holds, each counted each time it is reached (what is shared counts as often as it is met; a slice's spare places count too). A statement '..UptoSaid' is the law's where the arguments, and the package variables that the reading takes, are together of bulk at most 1048576: NARROWER than '..Said'. Prove '..Said' where nothing that the law and all that it calls make is longer than what came in: it says more and counts as full. Else prove '..UptoSaid'. A law counts once. -/
mutual
def uptoBulk {H : Type} : DataW H → Nat
  | .lit (.string bytes) => bytes.length + 1
  | .lit _ => 1
  | .nil => 1
  | .ptr d => uptoBulk d + 1
  | .slice elems spare => uptoBulkAll elems + uptoBulkAll spare + 1
  | .agg parts => uptoBulkAll parts + 1
  | .iface _ d => uptoBulk d + 1
  | .map entries => uptoBulkEntries entries + 1
  | .held _ => 1
def uptoBulkAll {H : Type} : List (DataW H) → Nat
  | [] => 0
  | d :: r => uptoBulk d + uptoBulkAll r
def uptoBulkEntries {H : Type} : List (Lit × DataW H) → Nat
  | [] => 0
  | x :: r => uptoBulkEntry x + uptoBulkEntries r
def uptoBulkEntry {H : Type} : Lit × DataW H → Nat
  | (.string bytes, d) => bytes.length + uptoBulk d + 1
  | (_, d) => uptoBulk d + 1
 end
def uptoSmall : (H : Type) → List (DataW H) → Bool := fun _ ds => decide (uptoBulkAll ds ≤ 1048576)
def OpenSpec.upto (s : _root_.Go.ChangeSpec) : _root_.Go.OpenSpec := { _root_.Go.OpenSpec.ofChange s with cond := some uptoSmall }

/-- 'sextonlaw13.ChainDoes', WHERE WHAT IT READS IS OF BULK AT MOST 1048576: true; the input reads as it did. -/
def chainDoesUptoRow : OpenClaim := { program := "ytinbeapkhmcifaadoor", sum := "260d9da1b2dbee0a211894a25110573914762c637c5ffa347e54e691bd9d1eab", func := "sexton/sextonlaw13.ChainDoes", spec := "chainDoes", inPlace := ["internal/abi.NoEscape", "internal/bytealg.MakeNoZero"], unfollowed := true, recurses := true, named := ["sexton/crc.halfSteps"], apart := false, laid := [("sexton/crc.halfSteps", laid_sexton_crc_halfSteps)], narrowed := true }
def ChainDoesUptoSaid : Prop := chainDoesUptoRow.holds Tryd.pinned (OpenSpec.upto chainDoesSpec)

/-- 'sextonlaw13.ChainBack', WHERE WHAT IT READS IS OF BULK AT MOST 1048576: true; the input reads as it did. -/
def chainBackUptoRow : OpenClaim := { program := "ytinbeapkhmcifaadoor", sum := "260d9da1b2dbee0a211894a25110573914762c637c5ffa347e54e691bd9d1eab", func := "sexton/sextonlaw13.ChainBack", spec := "chainBack", inPlace := ["internal/abi.NoEscape", "internal/bytealg.MakeNoZero"], unfollowed := true, recurses := true, named := ["sexton/crc.halfSteps"], apart := false, laid := [("sexton/crc.halfSteps", laid_sexton_crc_halfSteps)], narrowed := true }
def ChainBackUptoSaid : Prop := chainBackUptoRow.holds Tryd.pinned (OpenSpec.upto chainBackSpec)

/-- 'sextonlaw13.ChainWhole', WHERE WHAT IT READS IS OF BULK AT MOST 1048576: true; the input reads as it did. -/
def chainWholeUptoRow : OpenClaim := { program := "ytinbeapkhmcifaadoor", sum := "260d9da1b2dbee0a211894a25110573914762c637c5ffa347e54e691bd9d1eab", func := "sexton/sextonlaw13.ChainWhole", spec := "chainWhole", inPlace := ["internal/abi.NoEscape", "internal/bytealg.MakeNoZero"], unfollowed := true, recurses := true, named := ["sexton/crc.halfSteps"], apart := false, laid := [("sexton/crc.halfSteps", laid_sexton_crc_halfSteps)], narrowed := true }
def ChainWholeUptoSaid : Prop := chainWholeUptoRow.holds Tryd.pinned (OpenSpec.upto chainWholeSpec)

/-- 'sextonlaw13.ChainLess', WHERE WHAT IT READS IS OF BULK AT MOST 1048576: true; the input reads as it did. -/
def chainLessUptoRow : OpenClaim := { program := "ytinbeapkhmcifaadoor", sum := "260d9da1b2dbee0a211894a25110573914762c637c5ffa347e54e691bd9d1eab", func := "sexton/sextonlaw13.ChainLess", spec := "chainLess", inPlace := ["internal/abi.NoEscape", "internal/bytealg.MakeNoZero"], unfollowed := true, recurses := true, named := ["sexton/crc.halfSteps"], apart := false, laid := [("sexton/crc.halfSteps", laid_sexton_crc_halfSteps)], narrowed := true }
def ChainLessUptoSaid : Prop := chainLessUptoRow.holds Tryd.pinned (OpenSpec.upto chainLessSpec)

/-- 'sextonlaw13.ChainFewer', WHERE WHAT IT READS IS OF BULK AT MOST 1048576: true; the input reads as it did. -/
def chainFewerUptoRow : OpenClaim := { program := "ytinbeapkhmcifaadoor", sum := "260d9da1b2dbee0a211894a25110573914762c637c5ffa347e54e691bd9d1eab", func := "sexton/sextonlaw13.ChainFewer", spec := "chainFewer", inPlace := ["internal/abi.NoEscape", "internal/bytealg.MakeNoZero"], unfollowed := true, recurses := true, named := ["sexton/crc.halfSteps"], apart := false, laid := [("sexton/crc.halfSteps", laid_sexton_crc_halfSteps)], narrowed := true }
def ChainFewerUptoSaid : Prop := chainFewerUptoRow.holds Tryd.pinned (OpenSpec.upto chainFewerSpec)

end Rows
end Go.Proofs.YtinbeapkhmcifaaDoor
