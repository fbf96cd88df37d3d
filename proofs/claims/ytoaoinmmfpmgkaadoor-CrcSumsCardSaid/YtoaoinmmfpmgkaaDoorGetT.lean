/-
  codec.GetText: the text that bytes begin with.
-/
import Derived.Test.YtoaoinmmfpmgkaaDoorReadT
namespace Go.Proofs.YtoaoinmmfpmgkaaDoor
open Go.RowKit

set_option maxHeartbeats 1000000 in
theorem getText_none (s : List UInt8) (hm : s.length ≤ 4611686018427387904) (h : getT s = none) (w : World) :
    Calls Tryd.prog 31 #[.string ⟨s.toArray⟩, .func (.func 32) #[] #[]] w fun e w' => e = .returned (.tuple #[.string ⟨#[]⟩, .string ⟨#[]⟩, .bool false]) ∧ Below w.heap.size w w' := by
  have H := Lib.hid h
  clear h
  have hb := Boxed.new w 9 (.string ⟨s.toArray⟩)
  go_enter Tryd.func31, Tryd.ntmps31
  go_wp2_with (first | (go_at_call 35; refine (open_calls s _).mono ?_; rintro e w1 ⟨rfl, rfl⟩) | (go_at_call 32; refine (readText_none w.heap.size s hm H.out _ hb).mono ?_; rintro e w2 ⟨rfl, hg2⟩))
  go_ret3
  exact ⟨rfl, below_box hg2⟩

set_option maxHeartbeats 1000000 in
theorem GetText_none (s : List UInt8) (hm : s.length ≤ 4611686018427387904) (h : getT s = none) (w : World) :
    Calls Tryd.prog 27 #[.string ⟨s.toArray⟩] w fun e w' => e = .returned (.tuple #[.string ⟨#[]⟩, .string ⟨#[]⟩, .bool false]) ∧ Below w.heap.size w w' := by
  have H := Lib.hid h
  clear h
  go_enter Tryd.func27, Tryd.ntmps27
  go_wp2_with (go_at_call 31; refine (getText_none s hm H.out _).mono ?_; rintro e w1 ⟨rfl, hB⟩)
  go_ret3
  exact ⟨rfl, hB⟩

set_option maxHeartbeats 1000000 in
theorem getText_some (s : List UInt8) (hm : s.length ≤ 4611686018427387904) {t r : List UInt8} (h : getT s = some (t, r)) (w : World) :
    Calls Tryd.prog 31 #[.string ⟨s.toArray⟩, .func (.func 32) #[] #[]] w fun e w' => e = .returned (.tuple #[.string ⟨t.toArray⟩, .string ⟨r.toArray⟩, .bool true]) ∧ Below w.heap.size w w' := by
  have H := Lib.hid h
  clear h
  have hb := Boxed.new w 9 (.string ⟨s.toArray⟩)
  go_enter Tryd.func31, Tryd.ntmps31
  go_wp2_with (first | (go_at_call 35; refine (open_calls s _).mono ?_; rintro e w1 ⟨rfl, rfl⟩) | (go_at_call 32; refine (readText_some w.heap.size s hm H.out _ hb).mono ?_; rintro e w2 ⟨rfl, hg2, hb2⟩) | (go_at_call 40; refine (rest_calls w.heap.size r _ hb2).mono ?_; rintro e w3 ⟨rfl, rfl⟩))
  go_ret3
  exact ⟨rfl, below_box hg2⟩

set_option maxHeartbeats 1000000 in
theorem GetText_some (s : List UInt8) (hm : s.length ≤ 4611686018427387904) {t r : List UInt8} (h : getT s = some (t, r)) (w : World) :
    Calls Tryd.prog 27 #[.string ⟨s.toArray⟩] w fun e w' => e = .returned (.tuple #[.string ⟨t.toArray⟩, .string ⟨r.toArray⟩, .bool true]) ∧ Below w.heap.size w w' := by
  have H := Lib.hid h
  clear h
  go_enter Tryd.func27, Tryd.ntmps27
  go_wp2_with (go_at_call 31; refine (getText_some s hm H.out _).mono ?_; rintro e w1 ⟨rfl, hB⟩)
  go_ret3
  exact ⟨rfl, hB⟩

end Go.Proofs.YtoaoinmmfpmgkaaDoor
