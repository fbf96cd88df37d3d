/-
  crc.Put: a text's frame, or its refusal.
-/
import Derived.Test.YtoaoinmmfpmgkaaDoorHead
import Derived.Test.YtoaoinmmfpmgkaaDoorText
namespace Go.Proofs.YtoaoinmmfpmgkaaDoor
open Go.RowKit
attribute [local go_sem] app_mk

set_option maxHeartbeats 1000000 in
theorem put_ok (s : List UInt8) (h : s.length ≤ 4000) (w : World) (hT : TabOk w) :
    Calls Tryd.prog 10 #[.string ⟨s.toArray⟩] w fun e w' => e = .returned (.tuple #[.string ⟨(frameB s).toArray⟩, .int .i64 0]) ∧ Below w.heap.size w w' := by
  have hl1 : (digsTo (sumN s) 4).length ≤ 4 := by rw [digsTo_length]; omega
  have hl2 : (txtB s).length ≤ 4005 := by rw [txtB_length]; have := wid_le s.length; omega
  go_enter Tryd.func10, Tryd.ntmps10
  go_wp2_with fail
  refine (text_ok s h _).mono ?_
  rintro e w1 ⟨rfl, hB1⟩
  go_wp2_with fail
  refine (head_calls s (by omega) _ (hT.below hB1)).mono ?_
  rintro e w2 ⟨rfl, hB2⟩
  go_wp2_with fail
  go_ret2
  exact ⟨rfl, below2 hB1 hB2⟩

set_option maxHeartbeats 1000000 in
theorem put_bad (s : List UInt8) (h : 4000 < s.length) (hm : s.length ≤ 9223372036854775807) (w : World) :
    Calls Tryd.prog 10 #[.string ⟨s.toArray⟩] w fun e w' => e = .returned (.tuple #[.string ⟨#[]⟩, .int .i64 2]) ∧ w = w' := by
  go_enter Tryd.func10, Tryd.ntmps10
  go_wp2_with fail
  refine (text_bad s h hm _).mono ?_
  rintro e w1 ⟨rfl, rfl⟩
  go_wp2_with fail
  go_ret2
  exact ⟨rfl, rfl⟩

end Go.Proofs.YtoaoinmmfpmgkaaDoor
