/-
  disk: fits, has, still.
-/
import Derived.Test.YtcikgmgkaenpmaaWrs
namespace Go.Proofs.Ytcikgmgkaenpmaa
open Go.RowKit

/-- Is there a block at? -/
def hasB (n : Nat) (at_ : Int) : Bool := decide (0 ≤ at_) && decide (at_ < n)

theorem fits_calls (s : List UInt8) (w : World) :
    Calls Try.prog 27 #[.string ⟨s.toArray⟩] w fun e w' => e = .returned (.bool (decide ((s.length : Int) ≤ 256))) ∧ w = w' := by
  go_enter Try.func27, Try.ntmps27
  go_wp2
  go_ret
  exact ⟨rfl, rfl⟩

theorem has_calls (ao : Option Addr) (n cap : Nat) (vw : Value) (i : Int) (w : World) :
    Calls Try.prog 26 #[.agg #[.slice ao n cap, vw], .int .i64 i] w fun e w' => e = .returned (.bool (hasB n i)) ∧ Below w.heap.size w w' := by
  have hB := below_alloc w (.cells #[.slice ao n cap, vw] 25)
  unfold hasB
  by_cases h0 : 0 ≤ i
  · go_enter Try.func26, Try.ntmps26
    go_wp2_with fail
    go_ret
    exact ⟨by simp [h0], hB⟩
  · go_enter Try.func26, Try.ntmps26
    go_wp2_with fail
    go_ret
    exact ⟨by simp; omega, hB⟩

/-- A disk whose writes are let go. -/
theorem still_calls (ab aw : Option Addr) (nb cb nw cw : Nat) (w : World) :
    Calls Try.prog 32 #[.agg #[.slice ab nb cb, .slice aw nw cw]] w fun e w' => e = .returned (.agg #[.slice ab nb cb, .slice none 0 0]) ∧ Below w.heap.size w w' := by
  go_enter Try.func32, Try.ntmps32
  go_wp2_with fail
  refine ret_disk (p := 2) (by kernel_rfl) rfl _ _ _ rfl ?_ ?_ ⟨rfl, ?_⟩
  · go_simp
  · go_simp
  · exact below_alloc2 w _ _

end Go.Proofs.Ytcikgmgkaenpmaa
