/-
  Which error an Add of a pin tells.
-/
import Derived.Test.YtbphdajhhnhphaaPnMore
import Derived.Test.YtbphdajhhnhphaaPns
namespace Go.Proofs.Ytbphdajhhnhphaa
set_option maxRecDepth 100000
open Go.RowKit

theorem addE_arg {l : List Pn} {p : Pn} (h : isN l = false ∨ oneP p = false) : addNE l p = 1 := by
  unfold addNE
  rcases h with h | h <;> rw [h] <;> simp
theorem addE_held {l : List Pn} {p : Pn} (h1 : isN l = true) (h2 : oneP p = true) {n : Int} (h3 : ofN l p.1 = some n) : addNE l p = 170 := by
  unfold addNE
  rw [h1, h2, h3]
  rfl
theorem addE_full {l : List Pn} {p : Pn} (h1 : isN l = true) (h2 : oneP p = true) (h3 : ofN l p.1 = none) (h4 : l.length = 50) : addNE l p = 2 := by
  unfold addNE
  rw [h1, h2, h3, h4]
  rfl
theorem addE_ok {l : List Pn} {p : Pn} (h1 : isN l = true) (h2 : oneP p = true) (h3 : ofN l p.1 = none) (h4 : l.length < 50) : addNE l p = 0 := addE_zero.2 ⟨h1, h2, h3, h4⟩
theorem pin_lit (w : World) (s a : Int) : Pns (w.alloc (.cells #[.int .i64 s, .int .i64 a] 24)) (.slice (some ⟨w.heap.size, 0, none⟩) 1 1) [(s, a)] := rowOf_lit pncell_k w [(s, a)] _

end Go.Proofs.Ytbphdajhhnhphaa
