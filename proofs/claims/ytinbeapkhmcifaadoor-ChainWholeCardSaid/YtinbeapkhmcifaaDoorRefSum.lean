/-
  The document's own Sum.
-/
import Derived.Test.YtinbeapkhmcifaaDoorUnlike
namespace Go.Proofs.YtinbeapkhmcifaaDoor
open Go.RowKit
attribute [local go_sem] at_str app_mk ext_take ext_drop

set_option maxHeartbeats 2000000 in
theorem refSum_calls (s : List UInt8) (hm : s.length ≤ 4611686018427387904) (w : World) :
    Calls Tryd.prog 32 #[.string ⟨s.toArray⟩] w fun e w' => e = .returned (.int .i64 (sumN s : Nat)) ∧ Below w.heap.size w w' := by
  go_enter Tryd.func32, Tryd.ntmps32
  go_wp2_with fail
  go_loopw [3, 4, 5, 6] (fun q i _ _ wr => ∃ k : Nat, k ≤ s.length ∧ i = .int .i64 k ∧ q = .int .i64 (foldN 4294967295 (s.take k) : Nat) ∧ Below w.heap.size w wr) (fun _ i _ _ _ => s.length - (intOf i).toNat)
  case atStart => exact ⟨0, by omega, rfl, rfl, Below.refl _ _⟩
  case round =>
    obtain ⟨k, hk, rfl, rfl, hB⟩ := hrel
    have hl := fold_lt (s.take k) (c := 4294967295) (by omega)
    by_cases hlt : k < s.length
    · have hs := fold_snoc 4294967295 (s.take k) s[k]
      rw [← List.take_succ_eq_append_getElem hlt] at hs
      have HS := Lib.hid hs
      clear hs
      go_wp2_with (go_at_call 39; refine (refStep_ok _ hl s[k] _).mono ?_; rintro e w2 ⟨rfl, hB2⟩)
      go_roundw
      case rel => exact ⟨k + 1, by omega, by go_num, by rw [HS.out], below2 hB hB2⟩
      case measure => simp [intOf]; omega
    · obtain rfl : k = s.length := by omega
      rw [List.take_length] at hl ⊢
      go_wp2_with fail
      refine (unlike_calls _ 4294967295 hl (by omega) _).mono ?_
      rintro e w2 ⟨rfl, hB2⟩
      go_wp2_with fail
      go_ret
      exact ⟨rfl, below2 hB hB2⟩

end Go.Proofs.YtinbeapkhmcifaaDoor
