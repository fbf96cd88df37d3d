/-
  crc.head: a sum's four bytes, the highest first.
-/
import Derived.Test.YtoaoinmmfpmgkaaDoorSum
import Derived.Laws.BytesArg
namespace Go.Proofs.YtoaoinmmfpmgkaaDoor
open Go.RowKit

/-- 'string([]byte{x0, x1, x2, x3})'. -/
theorem conv_four (W : World) (x0 x1 x2 x3 : Int) : (convert 39 9 (.slice (some ⟨W.heap.size, 0, none⟩) 4 4)).run Tryd.prog (W.alloc (.cells #[.int .u8 x0, .int .u8 x1, .int .u8 x2, .int .u8 x3] 5)) = .ok (.string ⟨[UInt8.ofNat x0.toNat, UInt8.ofNat x1.toNat, UInt8.ofNat x2.toNat, UInt8.ofNat x3.toNat].toArray⟩) (W.alloc (.cells #[.int .u8 x0, .int .u8 x1, .int .u8 x2, .int .u8 x3] 5)) := by
  have h := run_convert_bytes_arg (P := Tryd.prog) (W.alloc (.cells #[.int .u8 x0, .int .u8 x1, .int .u8 x2, .int .u8 x3] 5)) 39 5 Tryd.underlying39 Tryd.underlying5 W.heap.size 0 4 4 [x0, x1, x2, x3] rfl (fun i hi => by
    rcases (by omega : i = 0 ∨ i = 1 ∨ i = 2 ∨ i = 3) with rfl | rfl | rfl | rfl <;> simp) 9 Tryd.underlying9
  rw [h]
  rfl
set_option maxHeartbeats 1000000 in
theorem head_calls (s : List UInt8) (hm : s.length ≤ 4611686018427387904) (w : World) (hT : TabOk w) :
    Calls Tryd.prog 23 #[.string ⟨s.toArray⟩] w fun e w' => e = .returned (.string ⟨(digsTo (sumN s) 4).toArray⟩) ∧ Below w.heap.size w w' := by
  have kc := conv_four
  have hl := sum_lt s
  go_enter Tryd.func23, Tryd.ntmps23
  go_wp2_with fail
  refine (sum_calls s hm _ hT).mono ?_
  rintro e w1 ⟨rfl, hB⟩
  go_wp2_with fail
  go_ret
  exact ⟨by rw [← four_eq]; rfl, below2 hB (below_alloc _ _)⟩

end Go.Proofs.YtoaoinmmfpmgkaaDoor
