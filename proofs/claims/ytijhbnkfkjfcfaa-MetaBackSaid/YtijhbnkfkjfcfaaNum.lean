/-
  codec.Number: the bytes of a number, or its refusal.
-/
import Derived.Test.YtijhbnkfkjfcfaaLay
namespace Go.Proofs.Ytijhbnkfkjfcfaa
open Go.RowKit

set_option maxHeartbeats 1000000 in
theorem number_ok (n : Nat) (h : n ≤ 4294967295) (w : World) :
    Calls Try.prog 31 #[.int .i64 n] w fun e w' => e = .returned (.tuple #[.string ⟨(numB n).toArray⟩, .int .i64 0]) ∧ Below w.heap.size w w' := by
  have hne := Lib.hid (numB_ne n)
  go_enter Try.func31, Try.ntmps31
  go_wp2_with (go_at_call 37; refine (addNumber_calls w.heap.size (.slice none 0 0) [] n h _ (World.ownsRow_nil _ _ _ _) (Nat.le_refl _) (by simp)).mono ?_; rintro e w1 ⟨v1, rfl, hown1, hB1⟩; have hconv := conv_owns hown1 (by simpa using hne.out); rw [List.nil_append] at hconv; clear hown1)
  go_ret2
  exact ⟨rfl, hB1⟩

set_option maxHeartbeats 1000000 in
theorem number_bad (n : Int) (h : n < 0 ∨ 4294967295 < n) (w : World) :
    Calls Try.prog 31 #[.int .i64 n] w fun e w' => e = .returned (.tuple #[.string ⟨#[]⟩, .int .i64 1]) ∧ w = w' := by
  rcases h with h | h
  · go_enter Try.func31, Try.ntmps31
    go_wp2_with fail
    go_ret2
    exact ⟨rfl, rfl⟩
  · have h' : 0 ≤ n := by omega
    go_enter Try.func31, Try.ntmps31
    go_wp2_with fail
    go_ret2
    exact ⟨rfl, rfl⟩

end Go.Proofs.Ytijhbnkfkjfcfaa
