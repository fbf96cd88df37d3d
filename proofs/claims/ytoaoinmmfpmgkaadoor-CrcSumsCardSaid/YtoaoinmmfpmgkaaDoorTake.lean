/-
  codec.open and its two closures.
-/
import Derived.Test.YtoaoinmmfpmgkaaDoorBase
import Derived.RangeFuncBox
import Derived.Test.YtoaoinmmfpmgkaaDoorSpecGet
namespace Go.Proofs.YtoaoinmmfpmgkaaDoor
open Go.RowKit

set_option maxHeartbeats 1000000 in
theorem open_calls (s : List UInt8) (w : World) :
    Calls Tryd.prog 35 #[.string ⟨s.toArray⟩] w fun e w' => e = .returned (.tuple #[.func (.func 39) #[] #[.pointer (some ⟨w.heap.size, 0, none⟩)], .func (.func 40) #[] #[.pointer (some ⟨w.heap.size, 0, none⟩)]]) ∧ w' = w.alloc (.cells #[.string ⟨s.toArray⟩] 9) := by
  go_enter Tryd.func35, Tryd.ntmps35
  go_wp2
  go_ret2
  exact ⟨rfl, rfl⟩

set_option maxHeartbeats 1000000 in
theorem take_ok (Bs : Nat) (n : Int) (s : List UInt8) (h0 : 0 ≤ n) (hn : n ≤ s.length) (w : World) (hb : Boxed w Bs 9 (.string ⟨s.toArray⟩)) :
    Calls Tryd.prog 39 #[.int .i64 n, .pointer (some ⟨Bs, 0, none⟩)] w fun e w' => e = .returned (.tuple #[.string ⟨(s.take n.toNat).toArray⟩, .bool true]) ∧ w' = w.setCell ⟨Bs, 0, none⟩ (.string ⟨(s.drop n.toNat).toArray⟩) := by
  obtain ⟨n, rfl⟩ := Int.eq_ofNat_of_zero_le h0
  rw [Int.toNat_natCast]
  have hc := hb.cell
  have hf := hb.frozen
  go_enter Tryd.func39, Tryd.ntmps39
  go_wp2
  go_ret2
  exact ⟨by rw [← ext_take]; rfl, by rw [ext_drop]⟩

set_option maxHeartbeats 1000000 in
theorem take_no (Bs : Nat) (n : Int) (s : List UInt8) (hn : s.length < n) (w : World) (hb : Boxed w Bs 9 (.string ⟨s.toArray⟩)) :
    Calls Tryd.prog 39 #[.int .i64 n, .pointer (some ⟨Bs, 0, none⟩)] w fun e w' => e = .returned (.tuple #[.string ⟨#[]⟩, .bool false]) ∧ w = w' := by
  have hc := hb.cell
  go_enter Tryd.func39, Tryd.ntmps39
  go_wp2
  go_ret2
  exact ⟨rfl, rfl⟩

set_option maxHeartbeats 1000000 in
theorem rest_calls (Bs : Nat) (s : List UInt8) (w : World) (hb : Boxed w Bs 9 (.string ⟨s.toArray⟩)) :
    Calls Tryd.prog 40 #[.pointer (some ⟨Bs, 0, none⟩)] w fun e w' => e = .returned (.string ⟨s.toArray⟩) ∧ w = w' := by
  have hc := hb.cell
  go_enter Tryd.func40, Tryd.ntmps40
  go_wp2
  go_ret
  exact ⟨rfl, rfl⟩

end Go.Proofs.YtoaoinmmfpmgkaaDoor
