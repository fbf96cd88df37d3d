/-
  The contracts of bits.Len and codec.width, at numbers below 2^32.
-/
import Derived.Test.YtijhbnkfkjfcfaaLen
import Derived.WalkKit
import Derived.Lib.Hide
namespace Go.Proofs.Ytijhbnkfkjfcfaa
open Go.RowKit

theorem ret_int {k : IntKind} {a b : Int} (h : a = b) : Ending.returned (.int k a) = .returned (.int k b) := by rw [h]

set_option maxHeartbeats 400000 in
theorem len_calls (x : Int) (w : World) (h0 : 0 ≤ x) (h1 : x ≤ 4294967295) :
    Calls Try.prog 46 #[.int .u64 x] w fun e w' => e = .returned (.int .i64 (Lib.bitLen x.toNat)) ∧ w = w' := by
  go_enter Try.func46, Try.ntmps46
  go_wp2_with (go_at_call 51; refine (len64_calls _ _ (by omega) (by omega)).mono ?_; rintro e w' ⟨rfl, rfl⟩)
  go_ret
  exact ⟨rfl, rfl⟩

set_option maxHeartbeats 400000 in
theorem width_calls (n : Int) (w : World) (h0 : 0 ≤ n) (h1 : n ≤ 4294967295) :
    Calls Try.prog 42 #[.int .i64 n] w fun e w' => e = .returned (.int .i64 (wid n.toNat : Nat)) ∧ w = w' := by
  have hw := wid_bits n.toNat (by omega)
  have hb : Lib.bitLen n.toNat ≤ 64 := by have := wid_le n.toNat; omega
  have HW := Lib.hid hw
  clear hw
  go_enter Try.func42, Try.ntmps42
  go_wp2_with (go_at_call 46; refine (len_calls _ _ (by omega) (by omega)).mono ?_; rintro e w' ⟨rfl, rfl⟩)
  go_ret
  exact ⟨ret_int (by rw [← HW.out]; omega), rfl⟩

end Go.Proofs.Ytijhbnkfkjfcfaa
