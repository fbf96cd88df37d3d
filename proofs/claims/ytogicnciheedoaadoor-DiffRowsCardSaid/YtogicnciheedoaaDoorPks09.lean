/-
  The texts of one folder in one: NdSpec.
-/
import Derived.Test.YtogicnciheedoaaDoorPks08

/-
  The plain functions of layer 9 (node): where a key stands among pairs, what is put, dropped, split and levelled. No program is named here.
-/
namespace Go.Proofs.YtogicnciheedoaaDoor
set_option maxRecDepth 100000

/-- A pair: its key, its text. -/
abbrev Pr := Ky × List UInt8
/-- How many of l, from the first one on, stand ahead of k. -/
def placeN (l : List Pr) (k : Ky) : Nat := match l with | [] => 0 | x :: r => if lessK x.1 k = true then placeN r k + 1 else 0
/-! ### Places -/

/-! ### Rows that rise -/

theorem lessK_total {a b : Ky} (h : lessK a b = false) (hne : a ≠ b) : lessK b a = true := by
  unfold lessK at h ⊢
  rw [cmpK_swap a b]
  simp only [decide_eq_true_eq, decide_eq_false_iff_not] at h ⊢
  have : cmpK a b ≠ 0 := fun e => hne (cmpK_zero e)
  omega
/-! ### What the statements ask -/

end Go.Proofs.YtogicnciheedoaaDoor
