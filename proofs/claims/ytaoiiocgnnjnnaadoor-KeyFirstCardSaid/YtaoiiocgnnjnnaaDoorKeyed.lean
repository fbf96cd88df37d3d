/-
  The document's rows (keyed, in the laws' file).
-/
import Derived.Test.YtaoiiocgnnjnnaaDoorKyPut
import Derived.Test.YtaoiiocgnnjnnaaDoorKyGet
import Derived.Test.YtaoiiocgnnjnnaaDoorKyCmp
namespace Go.Proofs.YtaoiiocgnnjnnaaDoor
open Go.RowKit

theorem kd1 : putT ([97], 5) = [97, 0, 255, 255, 255, 250] ∧ putE ([97], 5) = 0 := by decide
theorem kd2 : getK [97, 0, 255, 255, 255, 250] = ([97], 5) ∧ getE [97, 0, 255, 255, 255, 250] = 0 := by decide
theorem kd3 : getK [97] = ([], 0) ∧ getE [97] = 30 := by decide
theorem kd4 : putT ([47], 0) = [] ∧ putE ([47], 0) = 1 := by decide
theorem kd5 : lessK ([97], 5) ([97], 3) = true ∧ lessK ([97], 3) ([97, 47, 98], 9) = true ∧ keyB ([97], 5) = true := by decide

set_option maxRecDepth 100000 in
set_option maxHeartbeats 4000000 in
theorem keyed_calls (w : World) (hm : Ml w) :
    Calls Tryd.prog 15 #[] w fun e w' => e = .returned (.bool true) ∧ Below w.heap.size w w' := by
  have k1 := Lib.hid kd1
  have k2 := Lib.hid kd2
  have k3 := Lib.hid kd3
  have k4 := Lib.hid kd4
  have k5 := Lib.hid kd5
  have hA := Lib.hid (Cx.new w 23 [.string ⟨#[97]⟩, .int .i64 5])
  have hB0 := below_alloc w (.cells #[.string ⟨#[97]⟩, .int .i64 5] 23)
  have hm0 := hm.below hB0
  go_enter Tryd.func15, Tryd.ntmps15
  go_wp2_with fail
  refine (kPut_calls [97] 5 (by decide) _ hm0).mono ?_
  rintro e w1 ⟨rfl, hB1⟩
  rw [k1.out.1, k1.out.2]
  have hm1 := hm0.below hB1
  go_wp2_with fail
  refine (kGet_calls [97, 0, 255, 255, 255, 250] (by decide) _ hm1).mono ?_
  rintro e w2 ⟨rfl, hB2⟩
  rw [k2.out.1, k2.out.2]
  have hm2 := hm1.below hB2
  have hC := Lib.hid (Cx.new w2 23 [.string ⟨#[97]⟩, .int .i64 5])
  go_wp2_with fail
  refine (kGet_calls [97] (by decide) _ (hm2.below (below_alloc _ _))).mono ?_
  rintro e w3 ⟨rfl, hB3⟩
  rw [k3.out.1, k3.out.2]
  have hm3 := (hm2.below (below_alloc _ _)).below hB3
  go_wp2_with fail
  refine (kPut_calls [47] 0 (by decide) _ (hm3.below (below_alloc _ _))).mono ?_
  rintro e w4 ⟨rfl, hB4⟩
  rw [k4.out.1, k4.out.2]
  have hm4 := (hm3.below (below_alloc _ _)).below hB4
  have hW2 := below2 hB1 hB2
  have hW4 := below2 (below2 (below_alloc w2 (.cells #[.string ⟨#[97]⟩, .int .i64 5] 23)) hB3) (below2 (below_alloc w3 (.cells #[.string ⟨#[]⟩, .int .i64 0] 23)) hB4)
  obtain ⟨c0, c1, _⟩ := ((hA.out.below hW2).below hW4).two
  obtain ⟨d0, d1, _⟩ := ((hC.out.below hB3).below (below2 (below_alloc w3 (.cells #[.string ⟨#[]⟩, .int .i64 0] 23)) hB4)).two
  have hAll := below3 hB0 hW2 hW4
  clear hB1 hB2 hB3 hB4 hW2
  go_wp2_with fail
  refine (kLess_calls [97] [97] 5 3 _).mono ?_
  rintro e w5 ⟨rfl, hB5⟩
  rw [k5.out.1]
  go_wp2_with fail
  refine (kLess_calls [97] [97, 47, 98] 3 9 _).mono ?_
  rintro e w6 ⟨rfl, hB6⟩
  rw [k5.out.2.1]
  have a0 := look_below (below2 hB5 hB6) c0
  have a1 := look_below (below2 hB5 hB6) c1
  go_wp2_with fail
  refine (kIs_calls [97] 5 (by decide) _ (hm4.below (below2 hB5 hB6))).mono ?_
  rintro e w7 ⟨rfl, hB7⟩
  rw [k5.out.2.2]
  go_wp2_with fail
  go_ret
  exact ⟨rfl, below2 hAll (below3 hB5 hB6 hB7)⟩

end Go.Proofs.YtaoiiocgnnjnnaaDoor
