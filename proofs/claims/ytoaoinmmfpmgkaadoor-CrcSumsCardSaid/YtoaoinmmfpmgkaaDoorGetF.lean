/-
  crc.Get: the text whose frame bytes begin with.
-/
import Derived.Test.YtoaoinmmfpmgkaaDoorPut
import Derived.Test.YtoaoinmmfpmgkaaDoorGetT
import Derived.Deep.RegionWith
import Derived.Deep.QuietTactic
import Derived.BigQuiet
namespace Go.Proofs.YtoaoinmmfpmgkaaDoor
open Go.RowKit
attribute [local go_sem] ext_take ext_drop

set_option maxHeartbeats 1000000 in
theorem getF_few (s : List UInt8) (h : s.length < 4) (w : World) :
    Calls Tryd.prog 15 #[.string ⟨s.toArray⟩] w fun e w' => e = .returned (.tuple #[.string ⟨#[]⟩, .string ⟨#[]⟩, .int .i64 30]) ∧ w = w' := by
  go_enter Tryd.func15, Tryd.ntmps15
  go_wp2_with fail
  go_ret3
  exact ⟨rfl, rfl⟩

set_option maxHeartbeats 1000000 in
theorem getF_noText (s : List UInt8) (h : 4 ≤ s.length) (hm : s.length ≤ 4611686018427387904) (hg : getT (s.drop 4) = none) (w : World) :
    Calls Tryd.prog 15 #[.string ⟨s.toArray⟩] w fun e w' => e = .returned (.tuple #[.string ⟨#[]⟩, .string ⟨#[]⟩, .int .i64 30]) ∧ Below w.heap.size w w' := by
  have HG := Lib.hid hg
  have hl : (s.drop 4).length ≤ 4611686018427387904 := by rw [List.length_drop]; omega
  clear hg
  go_enter Tryd.func15, Tryd.ntmps15
  go_wp2_with fail
  refine (GetText_none (s.drop 4) hl HG.out _).mono ?_
  rintro e w1 ⟨rfl, hB1⟩
  go_wp2_with fail
  go_quiet (fail)
  go_wp2_with fail
  go_ret3
  exact ⟨rfl, below2 hB1 (drewn_below _ _)⟩

set_option maxHeartbeats 1000000 in
theorem getF_other_calls (s t r : List UInt8) (h : 4 ≤ s.length) (hm : s.length ≤ 4611686018427387904) (hg : getT (s.drop 4) = some (t, r)) (he : s.take 4 ≠ digsTo (sumN t) 4) (w : World) (hT : TabOk w) :
    Calls Tryd.prog 15 #[.string ⟨s.toArray⟩] w fun e w' => e = .returned (.tuple #[.string ⟨#[]⟩, .string ⟨#[]⟩, .int .i64 30]) ∧ Below w.heap.size w w' := by
  have hl : (s.drop 4).length ≤ 4611686018427387904 := by rw [List.length_drop]; omega
  have ht := (getT_bounds hg).1
  have HG := Lib.hid hg
  have hsb : (s.take 4 == digsTo (sumN t) 4) = false := by simp [he]
  clear hg he
  go_enter Tryd.func15, Tryd.ntmps15
  go_wp2_with fail
  refine (GetText_some (s.drop 4) hl HG.out _).mono ?_
  rintro e w1 ⟨rfl, hB1⟩
  have hT1 : TabOk w1.drew := (hT.below hB1).same rfl
  go_wp2_with fail
  go_region_with (go_at_call 23; refine (head_calls t (by omega) _ hT1).mono ?_; rintro e w2 ⟨rfl, hB2⟩)
  go_wp2_with fail
  go_ret3
  exact ⟨rfl, below3 hB1 (drew_below _) hB2⟩

set_option maxHeartbeats 1000000 in
theorem getF_ok_calls (s t r : List UInt8) (h : 4 ≤ s.length) (hm : s.length ≤ 4611686018427387904) (hg : getT (s.drop 4) = some (t, r)) (he : s.take 4 = digsTo (sumN t) 4) (w : World) (hT : TabOk w) :
    Calls Tryd.prog 15 #[.string ⟨s.toArray⟩] w fun e w' => e = .returned (.tuple #[.string ⟨t.toArray⟩, .string ⟨r.toArray⟩, .int .i64 0]) ∧ Below w.heap.size w w' := by
  have hl : (s.drop 4).length ≤ 4611686018427387904 := by rw [List.length_drop]; omega
  have ht := (getT_bounds hg).1
  have HG := Lib.hid hg
  have hsb : (s.take 4 == digsTo (sumN t) 4) = true := by simp [he]
  clear hg he
  go_enter Tryd.func15, Tryd.ntmps15
  go_wp2_with fail
  refine (GetText_some (s.drop 4) hl HG.out _).mono ?_
  rintro e w1 ⟨rfl, hB1⟩
  have hT1 : TabOk w1.drew := (hT.below hB1).same rfl
  go_wp2_with fail
  go_region_with (go_at_call 23; refine (head_calls t (by omega) _ hT1).mono ?_; rintro e w2 ⟨rfl, hB2⟩)
  go_wp2_with fail
  go_ret3
  exact ⟨rfl, below3 hB1 (drew_below _) hB2⟩

theorem get_none (s : List UInt8) (hm : s.length ≤ 4611686018427387904) (h : getF s = none) (w : World) (hT : TabOk w) :
    Calls Tryd.prog 15 #[.string ⟨s.toArray⟩] w fun e w' => e = .returned (.tuple #[.string ⟨#[]⟩, .string ⟨#[]⟩, .int .i64 30]) ∧ Below w.heap.size w w' := by
  by_cases h4 : s.length < 4
  · exact (getF_few s h4 w).mono fun e w' ⟨he, hw⟩ => ⟨he, hw ▸ Below.refl _ _⟩
  · cases hg : getT (s.drop 4) with
    | none => exact getF_noText s (by omega) hm hg w
    | some x =>
      obtain ⟨t, r⟩ := x
      refine getF_other_calls s t r (by omega) hm hg (fun he => ?_) w hT
      rw [getF_ok h4 hg he] at h
      cases h
theorem get_some (s : List UInt8) (hm : s.length ≤ 4611686018427387904) {t r : List UInt8} (h : getF s = some (t, r)) (w : World) (hT : TabOk w) :
    Calls Tryd.prog 15 #[.string ⟨s.toArray⟩] w fun e w' => e = .returned (.tuple #[.string ⟨t.toArray⟩, .string ⟨r.toArray⟩, .int .i64 0]) ∧ Below w.heap.size w w' := by
  by_cases h4 : s.length < 4
  · rw [getF_short h4] at h; cases h
  · cases hg : getT (s.drop 4) with
    | none => rw [getF_no h4 hg] at h; cases h
    | some x =>
      obtain ⟨t', r'⟩ := x
      by_cases he : s.take 4 = digsTo (sumN t') 4
      · rw [getF_ok h4 hg he] at h
        simp only [Option.some.injEq, Prod.mk.injEq] at h
        obtain ⟨rfl, rfl⟩ := h
        exact getF_ok_calls s _ _ (by omega) hm hg he w hT
      · rw [getF_other h4 hg he] at h; cases h

end Go.Proofs.YtoaoinmmfpmgkaaDoor
