/-
  codec.GetNumber: the number that bytes begin with.
-/
import Derived.Test.YtijhbnkfkjfcfaaReadN
namespace Go.Proofs.Ytijhbnkfkjfcfaa
open Go.RowKit

set_option maxHeartbeats 1000000 in
theorem getNumber_none (s : List UInt8) (hm : s.length ≤ 4611686018427387904) (h : getN s = none) (w : World) :
    Calls Try.prog 39 #[.string ⟨s.toArray⟩, .func (.func 40) #[] #[]] w fun e w' => e = .returned (.tuple #[.int .i64 0, .string ⟨#[]⟩, .bool false]) ∧ Below w.heap.size w w' := by
  have H := Lib.hid h
  clear h
  have hb := Boxed.new w 9 (.string ⟨s.toArray⟩)
  go_enter Try.func39, Try.ntmps39
  go_wp2_with (first | (go_at_call 45; refine (open_calls s _).mono ?_; rintro e w1 ⟨rfl, rfl⟩) | (go_at_call 40; refine (readNumber_none w.heap.size s hm H.out _ hb).mono ?_; rintro e w2 ⟨rfl, hg2⟩))
  go_ret3
  exact ⟨rfl, below_box hg2⟩

set_option maxHeartbeats 1000000 in
theorem GetNumber_none (s : List UInt8) (hm : s.length ≤ 4611686018427387904) (h : getN s = none) (w : World) :
    Calls Try.prog 34 #[.string ⟨s.toArray⟩] w fun e w' => e = .returned (.tuple #[.int .i64 0, .string ⟨#[]⟩, .bool false]) ∧ Below w.heap.size w w' := by
  have H := Lib.hid h
  clear h
  go_enter Try.func34, Try.ntmps34
  go_wp2_with (go_at_call 39; refine (getNumber_none s hm H.out _).mono ?_; rintro e w1 ⟨rfl, hB⟩)
  go_ret3
  exact ⟨rfl, hB⟩

set_option maxHeartbeats 1000000 in
theorem getNumber_some (s : List UInt8) (hm : s.length ≤ 4611686018427387904) {n : Nat} {r : List UInt8} (h : getN s = some (n, r)) (w : World) :
    Calls Try.prog 39 #[.string ⟨s.toArray⟩, .func (.func 40) #[] #[]] w fun e w' => e = .returned (.tuple #[.int .i64 n, .string ⟨r.toArray⟩, .bool true]) ∧ Below w.heap.size w w' := by
  have H := Lib.hid h
  clear h
  have hb := Boxed.new w 9 (.string ⟨s.toArray⟩)
  go_enter Try.func39, Try.ntmps39
  go_wp2_with (first | (go_at_call 45; refine (open_calls s _).mono ?_; rintro e w1 ⟨rfl, rfl⟩) | (go_at_call 40; refine (readNumber_some w.heap.size s hm H.out _ hb).mono ?_; rintro e w2 ⟨rfl, hg2, hb2⟩) | (go_at_call 49; refine (rest_calls w.heap.size r _ hb2).mono ?_; rintro e w3 ⟨rfl, rfl⟩))
  go_ret3
  exact ⟨rfl, below_box hg2⟩

set_option maxHeartbeats 1000000 in
theorem GetNumber_some (s : List UInt8) (hm : s.length ≤ 4611686018427387904) {n : Nat} {r : List UInt8} (h : getN s = some (n, r)) (w : World) :
    Calls Try.prog 34 #[.string ⟨s.toArray⟩] w fun e w' => e = .returned (.tuple #[.int .i64 n, .string ⟨r.toArray⟩, .bool true]) ∧ Below w.heap.size w w' := by
  have H := Lib.hid h
  clear h
  go_enter Try.func34, Try.ntmps34
  go_wp2_with (go_at_call 39; refine (getNumber_some s hm H.out _).mono ?_; rintro e w1 ⟨rfl, hB⟩)
  go_ret3
  exact ⟨rfl, hB⟩

end Go.Proofs.Ytijhbnkfkjfcfaa
