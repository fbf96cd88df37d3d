/-
  codec.open and its two closures.
-/
import Derived.Test.YtijhbnkfkjfcfaaBase
import Derived.RangeFuncBox
import Derived.Test.YtijhbnkfkjfcfaaSpecGet
namespace Go.Proofs.Ytijhbnkfkjfcfaa
open Go.RowKit

set_option maxHeartbeats 1000000 in
theorem open_calls (s : List UInt8) (w : World) :
    Calls Try.prog 45 #[.string ⟨s.toArray⟩] w fun e w' => e = .returned (.tuple #[.func (.func 48) #[] #[.pointer (some ⟨w.heap.size, 0, none⟩)], .func (.func 49) #[] #[.pointer (some ⟨w.heap.size, 0, none⟩)]]) ∧ w' = w.alloc (.cells #[.string ⟨s.toArray⟩] 9) := by
  go_enter Try.func45, Try.ntmps45
  go_wp2
  go_ret2
  exact ⟨rfl, rfl⟩

set_option maxHeartbeats 1000000 in
theorem take_ok (Bs : Nat) (n : Int) (s : List UInt8) (h0 : 0 ≤ n) (hn : n ≤ s.length) (w : World) (hb : Boxed w Bs 9 (.string ⟨s.toArray⟩)) :
    Calls Try.prog 48 #[.int .i64 n, .pointer (some ⟨Bs, 0, none⟩)] w fun e w' => e = .returned (.tuple #[.string ⟨(s.take n.toNat).toArray⟩, .bool true]) ∧ w' = w.setCell ⟨Bs, 0, none⟩ (.string ⟨(s.drop n.toNat).toArray⟩) := by
  obtain ⟨n, rfl⟩ := Int.eq_ofNat_of_zero_le h0
  rw [Int.toNat_natCast]
  have hc := hb.cell
  have hf := hb.frozen
  go_enter Try.func48, Try.ntmps48
  go_wp2
  go_ret2
  exact ⟨by rw [← ext_take]; rfl, by rw [ext_drop]⟩

set_option maxHeartbeats 1000000 in
theorem take_no (Bs : Nat) (n : Int) (s : List UInt8) (hn : s.length < n) (w : World) (hb : Boxed w Bs 9 (.string ⟨s.toArray⟩)) :
    Calls Try.prog 48 #[.int .i64 n, .pointer (some ⟨Bs, 0, none⟩)] w fun e w' => e = .returned (.tuple #[.string ⟨#[]⟩, .bool false]) ∧ w = w' := by
  have hc := hb.cell
  go_enter Try.func48, Try.ntmps48
  go_wp2
  go_ret2
  exact ⟨rfl, rfl⟩

set_option maxHeartbeats 1000000 in
theorem rest_calls (Bs : Nat) (s : List UInt8) (w : World) (hb : Boxed w Bs 9 (.string ⟨s.toArray⟩)) :
    Calls Try.prog 49 #[.pointer (some ⟨Bs, 0, none⟩)] w fun e w' => e = .returned (.string ⟨s.toArray⟩) ∧ w = w' := by
  have hc := hb.cell
  go_enter Try.func49, Try.ntmps49
  go_wp2
  go_ret
  exact ⟨rfl, rfl⟩

end Go.Proofs.Ytijhbnkfkjfcfaa
