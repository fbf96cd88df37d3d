/-
  The document's own Sum, four, Put, Get, All.
-/
import Derived.Test.YtoaoinmmfpmgkaaDoorUnlike
import Derived.Test.YtoaoinmmfpmgkaaDoorRefG
import Derived.Laws.BytesArg
import Derived.Deep.RegionWith
namespace Go.Proofs.YtoaoinmmfpmgkaaDoor
open Go.RowKit
attribute [local go_sem] at_str app_mk ext_take ext_drop

set_option maxHeartbeats 2000000 in
theorem refSum_calls (s : List UInt8) (hm : s.length ≤ 4611686018427387904) (w : World) :
    Calls Tryd.prog 14 #[.string ⟨s.toArray⟩] w fun e w' => e = .returned (.int .i64 (sumN s : Nat)) ∧ Below w.heap.size w w' := by
  go_enter Tryd.func14, Tryd.ntmps14
  go_wp2_with fail
  go_loopw [3, 4, 5, 6] (fun q i _ _ wr => ∃ k : Nat, k ≤ s.length ∧ i = .int .i64 k ∧ q = .int .i64 (foldN 4294967295 (s.take k) : Nat) ∧ Below w.heap.size w wr) (fun _ i _ _ _ => s.length - (intOf i).toNat)
  case atStart => exact ⟨0, by omega, rfl, rfl, Below.refl _ _⟩
  case round =>
    obtain ⟨k, hk, rfl, rfl, hB⟩ := hrel
    have hl := fold_lt (s.take k) (c := 4294967295) (by omega)
    by_cases hlt : k < s.length
    · have hs := fold_snoc 4294967295 (s.take k) s[k]
      rw [← List.take_succ_eq_append_getElem hlt] at hs
      have HS := Lib.hid hs
      clear hs
      go_wp2_with (go_at_call 9; refine (refStep_ok _ hl s[k] _).mono ?_; rintro e w2 ⟨rfl, hB2⟩)
      go_roundw
      case rel => exact ⟨k + 1, by omega, by go_num, by rw [HS.out], below2 hB hB2⟩
      case measure => simp [intOf]; omega
    · obtain rfl : k = s.length := by omega
      rw [List.take_length] at hl ⊢
      go_wp2_with fail
      refine (unlike_calls _ 4294967295 hl (by omega) _).mono ?_
      rintro e w2 ⟨rfl, hB2⟩
      go_wp2_with fail
      go_ret
      exact ⟨rfl, below2 hB hB2⟩

/-- 'string([]byte{x0, x1, x2, x3})'. -/
theorem conv_fourR (W : World) (x0 x1 x2 x3 : Int) : (convert 39 9 (.slice (some ⟨W.heap.size, 0, none⟩) 4 4)).run Tryd.prog (W.alloc (.cells #[.int .u8 x0, .int .u8 x1, .int .u8 x2, .int .u8 x3] 5)) = .ok (.string ⟨[UInt8.ofNat x0.toNat, UInt8.ofNat x1.toNat, UInt8.ofNat x2.toNat, UInt8.ofNat x3.toNat].toArray⟩) (W.alloc (.cells #[.int .u8 x0, .int .u8 x1, .int .u8 x2, .int .u8 x3] 5)) := by
  have h := run_convert_bytes_arg (P := Tryd.prog) (W.alloc (.cells #[.int .u8 x0, .int .u8 x1, .int .u8 x2, .int .u8 x3] 5)) 39 5 Tryd.underlying39 Tryd.underlying5 W.heap.size 0 4 4 [x0, x1, x2, x3] rfl (fun i hi => by
    rcases (by omega : i = 0 ∨ i = 1 ∨ i = 2 ∨ i = 3) with rfl | rfl | rfl | rfl <;> simp) 9 Tryd.underlying9
  rw [h]
  rfl

set_option maxHeartbeats 1000000 in
theorem refFour_calls (n : Nat) (hn : n < 4294967296) (w : World) :
    Calls Tryd.prog 25 #[.int .i64 n] w fun e w' => e = .returned (.string ⟨(digsTo n 4).toArray⟩) ∧ Below w.heap.size w w' := by
  have kc := conv_fourR
  go_enter Tryd.func25, Tryd.ntmps25
  go_wp2_with fail
  go_ret
  exact ⟨by rw [← four_eq]; rfl, below_alloc _ _⟩

set_option maxHeartbeats 1000000 in
theorem refPut_ok (s : List UInt8) (h : s.length ≤ 4000) (w : World) :
    Calls Tryd.prog 11 #[.string ⟨s.toArray⟩] w fun e w' => e = .returned (.tuple #[.string ⟨(frameB s).toArray⟩, .int .i64 0]) ∧ Below w.heap.size w w' := by
  have hl1 : (digsTo (sumN s) 4).length ≤ 4 := by rw [digsTo_length]; omega
  have hl2 : (txtB s).length ≤ 4005 := by rw [txtB_length]; have := wid_le s.length; omega
  go_enter Tryd.func11, Tryd.ntmps11
  go_wp2_with fail
  refine (refText_ok s h _).mono ?_
  rintro e w1 ⟨rfl, hB1⟩
  go_wp2_with fail
  refine (refSum_calls s (by omega) _).mono ?_
  rintro e w2 ⟨rfl, hB2⟩
  go_wp2_with fail
  refine (refFour_calls _ (sum_lt s) _).mono ?_
  rintro e w3 ⟨rfl, hB3⟩
  go_wp2_with fail
  go_ret2
  exact ⟨rfl, below3 hB1 hB2 hB3⟩

set_option maxHeartbeats 1000000 in
theorem refPut_bad (s : List UInt8) (h : 4000 < s.length) (hm : s.length ≤ 9223372036854775807) (w : World) :
    Calls Tryd.prog 11 #[.string ⟨s.toArray⟩] w fun e w' => e = .returned (.tuple #[.string ⟨#[]⟩, .int .i64 2]) ∧ w = w' := by
  go_enter Tryd.func11, Tryd.ntmps11
  go_wp2_with fail
  refine (refText_bad s h hm _).mono ?_
  rintro e w1 ⟨rfl, rfl⟩
  go_wp2_with fail
  go_ret2
  exact ⟨rfl, rfl⟩

set_option maxHeartbeats 1000000 in
theorem refGetF_few (s : List UInt8) (h : s.length < 4) (w : World) :
    Calls Tryd.prog 16 #[.string ⟨s.toArray⟩] w fun e w' => e = .returned (.tuple #[.string ⟨#[]⟩, .string ⟨#[]⟩, .int .i64 30]) ∧ w = w' := by
  go_enter Tryd.func16, Tryd.ntmps16
  go_wp2_with fail
  go_ret3
  exact ⟨rfl, rfl⟩

set_option maxHeartbeats 1000000 in
theorem refGetF_noText (s : List UInt8) (h : 4 ≤ s.length) (hm : s.length ≤ 4611686018427387904) (hg : getT (s.drop 4) = none) (w : World) :
    Calls Tryd.prog 16 #[.string ⟨s.toArray⟩] w fun e w' => e = .returned (.tuple #[.string ⟨#[]⟩, .string ⟨#[]⟩, .int .i64 30]) ∧ Below w.heap.size w w' := by
  have HG := Lib.hid hg
  have hl : (s.drop 4).length ≤ 4611686018427387904 := by rw [List.length_drop]; omega
  clear hg
  go_enter Tryd.func16, Tryd.ntmps16
  go_wp2_with fail
  refine (refGetText_none (s.drop 4) hl HG.out _).mono ?_
  rintro e w1 ⟨rfl, hB1⟩
  go_wp2_with fail
  go_quiet (fail)
  go_wp2_with fail
  go_ret3
  exact ⟨rfl, below2 hB1 (drewn_below _ _)⟩

set_option maxHeartbeats 2000000 in
theorem refGetF_other (s t r : List UInt8) (h : 4 ≤ s.length) (hm : s.length ≤ 4611686018427387904) (hg : getT (s.drop 4) = some (t, r)) (he : s.take 4 ≠ digsTo (sumN t) 4) (w : World) :
    Calls Tryd.prog 16 #[.string ⟨s.toArray⟩] w fun e w' => e = .returned (.tuple #[.string ⟨#[]⟩, .string ⟨#[]⟩, .int .i64 30]) ∧ Below w.heap.size w w' := by
  have hl : (s.drop 4).length ≤ 4611686018427387904 := by rw [List.length_drop]; omega
  have ht := (getT_bounds hg).1
  have HG := Lib.hid hg
  have hsb : (digsTo (sumN t) 4 == s.take 4) = false := by simp; exact fun e => he e.symm
  have hsl := sum_lt t
  clear hg he
  go_enter Tryd.func16, Tryd.ntmps16
  go_wp2_with fail
  refine (refGetText_some (s.drop 4) hl HG.out _).mono ?_
  rintro e w1 ⟨rfl, hB1⟩
  go_wp2_with fail
  go_region_with (first | (go_at_call 14; refine (refSum_calls t (by omega) _).mono ?_; rintro e w2 ⟨rfl, hB2⟩) | (go_at_call 25; refine (refFour_calls (sumN t) hsl _).mono ?_; rintro e w3 ⟨rfl, hB3⟩))
  go_wp2_with fail
  go_ret3
  exact ⟨rfl, below2 (below2 (below2 hB1 (drew_below _)) hB2) hB3⟩

set_option maxHeartbeats 2000000 in
theorem refGetF_ok (s t r : List UInt8) (h : 4 ≤ s.length) (hm : s.length ≤ 4611686018427387904) (hg : getT (s.drop 4) = some (t, r)) (he : s.take 4 = digsTo (sumN t) 4) (w : World) :
    Calls Tryd.prog 16 #[.string ⟨s.toArray⟩] w fun e w' => e = .returned (.tuple #[.string ⟨t.toArray⟩, .string ⟨r.toArray⟩, .int .i64 0]) ∧ Below w.heap.size w w' := by
  have hl : (s.drop 4).length ≤ 4611686018427387904 := by rw [List.length_drop]; omega
  have ht := (getT_bounds hg).1
  have HG := Lib.hid hg
  have hsb : (digsTo (sumN t) 4 == s.take 4) = true := by simp [he]
  have hsl := sum_lt t
  clear hg he
  go_enter Tryd.func16, Tryd.ntmps16
  go_wp2_with fail
  refine (refGetText_some (s.drop 4) hl HG.out _).mono ?_
  rintro e w1 ⟨rfl, hB1⟩
  go_wp2_with fail
  go_region_with (first | (go_at_call 14; refine (refSum_calls t (by omega) _).mono ?_; rintro e w2 ⟨rfl, hB2⟩) | (go_at_call 25; refine (refFour_calls (sumN t) hsl _).mono ?_; rintro e w3 ⟨rfl, hB3⟩))
  go_wp2_with fail
  go_ret3
  exact ⟨rfl, below2 (below2 (below2 hB1 (drew_below _)) hB2) hB3⟩

end Go.Proofs.YtoaoinmmfpmgkaaDoor
