/-
  The walk of PathJoins.
-/
import Derived.Test.YtifgcfgpkhgfoaaDoorPPaths
namespace Go.Proofs.YtifgcfgpkhgfoaaDoor
open Go.RowKit
attribute [local go_sem] app_mk

set_option maxRecDepth 100000 in
set_option maxHeartbeats 4000000 in
theorem joins_walk (d s t : List UInt8) (w : World) (hld : d.length ≤ reachBytes) (hls : s.length ≤ reachBytes) (hlt : t.length ≤ reachBytes) (hm : Ml w) :
    Calls Tryd.prog 8 #[.string ⟨d.toArray⟩, .string ⟨s.toArray⟩, .string ⟨t.toArray⟩] w fun e w' => e = .returned (.bool true) ∧ Below w.heap.size w w' := by
  unfold reachBytes at hld hls hlt
  have hm0 := hm
  have hB0 := Below.refl w.heap.size w
  by_cases h5 : 300 < d.length + s.length + t.length
  · go_enter Tryd.func8, Tryd.ntmps8
    go_wp2_with fail
    go_ret
    exact ⟨rfl, Below.refl _ _⟩
  · have h6 : d.length + s.length + t.length ≤ 300 := by omega
    have hd : decide ((300 : Int) < (d.length : Int) + s.length + t.length) = false := by simp; omega
    clear h5
    cases hj : joinOf d s with
    | none =>
      have e1 := Lib.hid hj
      clear hj
      go_enter Tryd.func8, Tryd.ntmps8
      go_wp2_with fail
      refine (Join_not e1.out (by omega) (by omega) _ hm0).mono ?_
      rintro e w1 ⟨rfl, hB1⟩
      have hm1 := hm0.below hB1
      go_wp2_with fail
      refine (paths_calls _ hm1).mono ?_
      rintro e w2 ⟨rfl, hB2⟩
      have hm2 := hm1.below hB2
      go_wp2_with fail
      go_ret
      exact ⟨rfl, (below2 (below2 hB0 hB1) hB2)⟩
    | some a =>
      have hal : a.length ≤ 1000 := by
        have h := hj
        unfold joinOf at h
        split at h
        · have := (norm_is h).2.1
          simp at this; omega
        · cases h
      have ej := joins hj h6
      have e1 := Lib.hid hj
      have hb1 : ¬ 9223372036854775807 < s.length + 1 := by omega
      have hb2 : ¬ 9223372036854775807 < s.length + 1 + t.length := by omega
      have hb3 : (s ++ 47 :: t).length ≤ 1000000 := by simp; omega
      clear hj
      cases hj2 : joinOf a t with
      | none =>
        rw [hj2] at ej
        have e2 := Lib.hid hj2
        have e3 := Lib.hid ej.symm
        clear hj2 ej
        go_enter Tryd.func8, Tryd.ntmps8
        go_wp2_with fail
        refine (Join_some e1.out (by omega) (by omega) _ hm0).mono ?_
        rintro e w1 ⟨rfl, hB1⟩
        have hm1 := hm0.below hB1
        go_wp2_with fail
        refine (Join_not e2.out (by omega) (by omega) _ hm1).mono ?_
        rintro e w2 ⟨rfl, hB2⟩
        have hm2 := hm1.below hB2
        go_wp2_with fail
        refine (Join_not e3.out (by omega) hb3 _ hm2).mono ?_
        rintro e w3 ⟨rfl, hB3⟩
        have hm3 := hm2.below hB3
        go_wp2_with fail
        refine (paths_calls _ hm3).mono ?_
        rintro e w4 ⟨rfl, hB4⟩
        have hm4 := hm3.below hB4
        go_wp2_with fail
        go_ret
        exact ⟨rfl, (below2 (below2 (below2 (below2 hB0 hB1) hB2) hB3) hB4)⟩
      | some r =>
        rw [hj2] at ej
        have e2 := Lib.hid hj2
        have e3 := Lib.hid ej.symm
        clear hj2 ej
        go_enter Tryd.func8, Tryd.ntmps8
        go_wp2_with fail
        refine (Join_some e1.out (by omega) (by omega) _ hm0).mono ?_
        rintro e w1 ⟨rfl, hB1⟩
        have hm1 := hm0.below hB1
        go_wp2_with fail
        refine (Join_some e2.out (by omega) (by omega) _ hm1).mono ?_
        rintro e w2 ⟨rfl, hB2⟩
        have hm2 := hm1.below hB2
        go_wp2_with fail
        refine (Join_some e3.out (by omega) hb3 _ hm2).mono ?_
        rintro e w3 ⟨rfl, hB3⟩
        have hm3 := hm2.below hB3
        go_wp2_with fail
        refine (paths_calls _ hm3).mono ?_
        rintro e w4 ⟨rfl, hB4⟩
        have hm4 := hm3.below hB4
        go_wp2_with fail
        go_ret
        exact ⟨rfl, (below2 (below2 (below2 (below2 hB0 hB1) hB2) hB3) hB4)⟩

end Go.Proofs.YtifgcfgpkhgfoaaDoor
