/-
  codec.Text: the bytes of a text, or its refusal.
-/
import Derived.Test.YtoaoinmmfpmgkaaDoorAddT
namespace Go.Proofs.YtoaoinmmfpmgkaaDoor
open Go.RowKit

set_option maxHeartbeats 1000000 in
theorem text_ok (l : List UInt8) (h : l.length ≤ 4000) (w : World) :
    Calls Tryd.prog 22 #[.string ⟨l.toArray⟩] w fun e w' => e = .returned (.tuple #[.string ⟨(txtB l).toArray⟩, .int .i64 0]) ∧ Below w.heap.size w w' := by
  have hne := Lib.hid (show txtB l ≠ [] by simp [txtB, numB])
  go_enter Tryd.func22, Tryd.ntmps22
  go_wp2_with (go_at_call 29; refine (addText_calls w.heap.size (.slice none 0 0) [] l (by omega) _ (World.ownsRow_nil _ _ _ _) (Nat.le_refl _) (by simp)).mono ?_; rintro e w1 ⟨v1, rfl, hown1, hB1⟩; have hconv := conv_owns hown1 (by simpa using hne.out); rw [List.nil_append] at hconv; clear hown1)
  go_ret2
  exact ⟨rfl, hB1⟩

set_option maxHeartbeats 1000000 in
theorem text_bad (l : List UInt8) (h : 4000 < l.length) (hm : l.length ≤ 9223372036854775807) (w : World) :
    Calls Tryd.prog 22 #[.string ⟨l.toArray⟩] w fun e w' => e = .returned (.tuple #[.string ⟨#[]⟩, .int .i64 2]) ∧ w = w' := by
  go_enter Tryd.func22, Tryd.ntmps22
  go_wp2_with fail
  go_ret2
  exact ⟨rfl, rfl⟩

end Go.Proofs.YtoaoinmmfpmgkaaDoor
