/-
  The document's own Less of keys.
-/
import Derived.Test.YtgbicdbmmjleoaaKyOrd
import Derived.Test.YtgbicdbmmjleoaaKyRets
namespace Go.Proofs.Ytgbicdbmmjleoaa
open Go.RowKit

set_option maxHeartbeats 1000000 in
theorem kRefLess_calls (p q : List UInt8) (n m : Int) (w : World) :
    Calls Try.prog 31 #[.agg #[.string ⟨p.toArray⟩, .int .i64 n], .agg #[.string ⟨q.toArray⟩, .int .i64 m]] w fun e w' => e = .returned (.bool (aheadK (p, n) (q, m))) ∧ Below w.heap.size w w' := by
  cases h1 : Op.bytesLess p q with
  | true =>
    have H := Lib.hid (show aheadK (p, n) (q, m) = true by simp [aheadK, h1])
    go_enter Try.func31, Try.ntmps31
    go_wp2_with fail
    go_ret
    exact ⟨by rw [H.out]; rfl, below_alloc2 _ _ _⟩
  | false =>
    cases h2 : (p == q) with
    | false =>
      have H := Lib.hid (show aheadK (p, n) (q, m) = false by simp [aheadK, h1, h2])
      go_enter Try.func31, Try.ntmps31
      go_wp2_with fail
      go_ret
      exact ⟨by rw [H.out]; rfl, below_alloc2 _ _ _⟩
    | true =>
      have H := Lib.hid (show aheadK (p, n) (q, m) = decide (m < n) by simp [aheadK, h1, h2])
      go_enter Try.func31, Try.ntmps31
      go_wp2_with fail
      go_ret
      exact ⟨by rw [H.out]; rfl, below_alloc2 _ _ _⟩

end Go.Proofs.Ytgbicdbmmjleoaa
