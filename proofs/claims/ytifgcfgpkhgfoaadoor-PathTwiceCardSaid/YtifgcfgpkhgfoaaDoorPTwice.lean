/-
  The walk of PathTwice.
-/
import Derived.Test.YtifgcfgpkhgfoaaDoorPPaths
namespace Go.Proofs.YtifgcfgpkhgfoaaDoor
open Go.RowKit

set_option maxRecDepth 100000 in
set_option maxHeartbeats 2000000 in
theorem twice_walk (s : List UInt8) (w : World) (hl : s.length ≤ reachBytes) (hm : Ml w) :
    Calls Tryd.prog 5 #[.string ⟨s.toArray⟩] w fun e w' => e = .returned (.bool true) ∧ Below w.heap.size w w' := by
  unfold reachBytes at hl
  by_cases h5 : 500 < s.length
  · go_enter Tryd.func5, Tryd.ntmps5
    go_wp2_with fail
    go_ret
    exact ⟨rfl, Below.refl _ _⟩
  · have hd : decide ((500 : Int) < s.length) = false := by simp; omega
    have h6 : s.length ≤ 500 := by omega
    cases hn : normOf s with
    | none =>
      have e1 := Lib.hid hn
      have e2 := Lib.hid (norm_none hn)
      clear hn h5
      go_enter Tryd.func5, Tryd.ntmps5
      go_wp2_with fail
      refine (norm_not e1.out (by omega) _ hm).mono ?_
      rintro e w1 ⟨rfl, hB1⟩
      have hm1 := hm.below hB1
      go_wp2_with fail
      refine (paths_calls _ hm1).mono ?_
      rintro e w2 ⟨rfl, hB2⟩
      have hm2 := hm1.below hB2
      go_wp2_with fail
      refine (is_calls s (by omega) _ hm2).mono ?_
      rintro e w3 ⟨rfl, hB3⟩
      rw [e2.out]
      go_wp2_with fail
      go_ret
      exact ⟨rfl, below3 hB1 hB2 hB3⟩
    | some a =>
      obtain ⟨ha, hal, _⟩ := norm_is hn
      have e1 := Lib.hid hn
      have e2 := Lib.hid (norm_eq hn)
      have e3 := Lib.hid ha
      have e4 := Lib.hid (norm_path ha)
      clear hn h5 ha
      go_enter Tryd.func5, Tryd.ntmps5
      go_wp2_with fail
      refine (norm_some e1.out (by omega) _ hm).mono ?_
      rintro e w1 ⟨rfl, hB1⟩
      have hm1 := hm.below hB1
      go_wp2_with fail
      refine (norm_some e4.out (by omega) _ hm1).mono ?_
      rintro e w2 ⟨rfl, hB2⟩
      have hm2 := hm1.below hB2
      go_wp2_with fail
      refine (paths_calls _ hm2).mono ?_
      rintro e w3 ⟨rfl, hB3⟩
      have hm3 := hm2.below hB3
      go_wp2_with fail
      refine (is_calls a (by omega) _ hm3).mono ?_
      rintro e w4 ⟨rfl, hB4⟩
      have hm4 := hm3.below hB4
      rw [e3.out]
      go_wp2_with fail
      refine (is_calls s (by omega) _ hm4).mono ?_
      rintro e w5 ⟨rfl, hB5⟩
      rw [e2.out]
      go_wp2_with fail
      go_ret
      exact ⟨rfl, below3 (below2 hB1 hB2) (below2 hB3 hB4) hB5⟩

end Go.Proofs.YtifgcfgpkhgfoaaDoor
