/-
  tree: what the type switches tell.
-/
import Derived.Test.YtgbicdbmmjleoaaTrRel
namespace Go.Proofs.Ytgbicdbmmjleoaa
open Go.RowKit

theorem asLeaf (u : Value) (W : World) : (Instr.typeAssert (.iface 66 u) 53 66 true).run Try.prog W = .ok (.tuple #[u, .bool true]) W := by kernel_rfl
theorem asLeafNot (u : Value) (W : World) : (Instr.typeAssert (.iface 67 u) 53 66 true).run Try.prog W = .ok (.tuple #[.slice none 0 0, .bool false]) W := by kernel_rfl
theorem asBranch (u : Value) (W : World) : (Instr.typeAssert (.iface 67 u) 53 67 true).run Try.prog W = .ok (.tuple #[u, .bool true]) W := by kernel_rfl
theorem asLeaf1 (u : Value) (W : World) : (Instr.typeAssert (.iface 66 u) 53 66 false).run Try.prog W = .ok u W := by kernel_rfl
theorem asBranch1 (u : Value) (W : World) : (Instr.typeAssert (.iface 67 u) 53 67 false).run Try.prog W = .ok u W := by kernel_rfl

end Go.Proofs.Ytgbicdbmmjleoaa
