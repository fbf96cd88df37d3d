/-
  key.Is.
-/
import Derived.Test.YtaoiiocgnnjnnaaDoorKySpec
import Derived.Test.YtaoiiocgnnjnnaaDoorPIs
namespace Go.Proofs.YtaoiiocgnnjnnaaDoor
open Go.RowKit

/-- A key as a value. -/
def KV (k : Ky) : Value := .agg #[.string ⟨k.1.toArray⟩, .int .i64 k.2]
theorem KV_mk (p : List UInt8) (n : Int) : KV (p, n) = .agg #[.string ⟨p.toArray⟩, .int .i64 n] := rfl

set_option maxHeartbeats 1000000 in
theorem kIs_calls (p : List UInt8) (n : Int) (hl : p.length ≤ 9223372036854775807) (w : World) (hm : Ml w) :
    Calls Tryd.prog 16 #[.agg #[.string ⟨p.toArray⟩, .int .i64 n]] w fun e w' => e = .returned (.bool (keyB (p, n))) ∧ Below w.heap.size w w' := by
  have hB0 := below_alloc w (.cells #[.string ⟨p.toArray⟩, .int .i64 n] 23)
  have hm0 := hm.below hB0
  by_cases h1 : 0 ≤ n
  · by_cases h2 : n ≤ 1000000000
    · have H := Lib.hid (show keyB (p, n) = isP p by simp [keyB, h1, h2])
      go_enter Tryd.func16, Tryd.ntmps16
      go_wp2_with fail
      refine (is_calls p hl _ hm0).mono ?_
      rintro e w1 ⟨rfl, hB1⟩
      go_wp2_with fail
      go_ret
      exact ⟨by rw [H.out]; rfl, below2 hB0 hB1⟩
    · have H := Lib.hid (show keyB (p, n) = false by simp [keyB, h2])
      go_enter Tryd.func16, Tryd.ntmps16
      go_wp2_with fail
      go_ret
      exact ⟨by rw [H.out]; rfl, hB0⟩
  · have H := Lib.hid (show keyB (p, n) = false by simp [keyB, h1])
    go_enter Tryd.func16, Tryd.ntmps16
    go_wp2_with fail
    go_ret
    exact ⟨by rw [H.out]; rfl, hB0⟩

end Go.Proofs.YtaoiiocgnnjnnaaDoor
