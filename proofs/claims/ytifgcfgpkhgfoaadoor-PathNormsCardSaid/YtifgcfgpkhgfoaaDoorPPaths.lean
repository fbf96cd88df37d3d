/-
  The document's rows (paths, in the laws' file).
-/
import Derived.Test.YtifgcfgpkhgfoaaDoorPNorm
namespace Go.Proofs.YtifgcfgpkhgfoaaDoor
open Go.RowKit

theorem not_false_run : ∀ (x : Bool) (w : World), (Op.unary .not (.bool x)).run Tryd.prog w = .ok (.bool (!x)) w := fun _ _ => rfl

set_option maxRecDepth 100000 in
set_option maxHeartbeats 2000000 in
theorem paths_calls (w : World) (hm : Ml w) :
    Calls Tryd.prog 13 #[] w fun e w' => e = .returned (.bool true) ∧ Below w.heap.size w w' := by
  have e1 := Lib.hid (show normOf [47, 97, 47, 47, 98, 47, 46, 47, 99, 47, 46, 46, 47, 100, 47] = some [97, 47, 98, 47, 100] by decide)
  have e2 := Lib.hid (show normOf [46, 46] = none by decide)
  have e3 := Lib.hid (show normOf [] = some [] by decide)
  have e4 := Lib.hid (show namesOf [97, 47, 98] = some [[97], [98]] by decide)
  have e5 := Lib.hid (show underOf [97] [97, 47, 98] = true by decide)
  have e6 := Lib.hid (show underOf [97] [97, 98] = false by decide)
  have e7 := Lib.hid (show isP [97, 47, 98] = true by decide)
  have e8 := Lib.hid (show isP [97, 47, 47, 98] = false by decide)
  have e9 := Lib.hid (show depthOf [97, 47, 98] = 2 by decide)
  go_enter Tryd.func13, Tryd.ntmps13
  go_wp2_with fail
  refine (norm_some e1.out (by decide) _ hm).mono ?_
  rintro e w1 ⟨rfl, hB1⟩
  have hm1 := hm.below hB1
  go_wp2_with fail
  refine (norm_not e2.out (by decide) _ hm1).mono ?_
  rintro e w2 ⟨rfl, hB2⟩
  have hm2 := hm1.below hB2
  go_wp2_with fail
  refine (norm_some e3.out (by decide) _ hm2).mono ?_
  rintro e w3 ⟨rfl, hB3⟩
  have hm3 := hm2.below hB3
  go_wp2_with fail
  refine (parent_some e4.out (by simp) _ hm3).mono ?_
  rintro e w4 ⟨rfl, hB4⟩
  have hm4 := hm3.below hB4
  go_wp2_with fail
  refine (under_calls [97] [97, 47, 98] (by decide) (by decide) _ hm4).mono ?_
  rintro e w5 ⟨rfl, hB5⟩
  have hm5 := hm4.below hB5
  rw [e5.out]
  go_wp2_with fail
  refine (under_calls [97] [97, 98] (by decide) (by decide) _ hm5).mono ?_
  rintro e w6 ⟨rfl, hB6⟩
  have hm6 := hm5.below hB6
  rw [e6.out]
  go_wp2_with fail
  refine (is_calls [97, 47, 98] (by decide) _ hm6).mono ?_
  rintro e w7 ⟨rfl, hB7⟩
  have hm7 := hm6.below hB7
  rw [e7.out]
  go_wp2_with fail
  refine (is_calls [97, 47, 47, 98] (by decide) _ hm7).mono ?_
  rintro e w8 ⟨rfl, hB8⟩
  have hm8 := hm7.below hB8
  rw [e8.out]
  go_wp2_with fail
  refine (depth_calls [97, 47, 98] (by decide) _ hm8).mono ?_
  rintro e w9 ⟨rfl, hB9⟩
  rw [e9.out]
  go_wp2_with fail
  go_ret
  exact ⟨rfl, below3 (below3 hB1 hB2 hB3) (below3 hB4 hB5 hB6) (below3 hB7 hB8 hB9)⟩

end Go.Proofs.YtifgcfgpkhgfoaaDoor
