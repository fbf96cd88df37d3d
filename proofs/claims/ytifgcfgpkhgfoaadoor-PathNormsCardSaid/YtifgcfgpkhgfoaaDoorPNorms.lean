/-
  The walk of PathNorms.
-/
import Derived.Test.YtifgcfgpkhgfoaaDoorPPaths
import Derived.Test.YtifgcfgpkhgfoaaDoorRNorm
namespace Go.Proofs.YtifgcfgpkhgfoaaDoor
open Go.RowKit

set_option maxRecDepth 100000 in
set_option maxHeartbeats 8000000 in
theorem norms_walk (s t : List UInt8) (w : World) (hls : s.length ≤ reachBytes) (hlt : t.length ≤ reachBytes) (hm : Ml w) :
    Calls Tryd.prog 3 #[.string ⟨s.toArray⟩, .string ⟨t.toArray⟩] w fun e w' => e = .returned (.bool true) ∧ Below w.heap.size w w' := by
  unfold reachBytes at hls hlt
  have hm0 := hm
  have hB0 := Below.refl w.heap.size w
  by_cases h5 : 500 < s.length
  · go_enter Tryd.func3, Tryd.ntmps3
    go_wp2_with fail
    go_ret
    exact ⟨rfl, Below.refl _ _⟩
  · have d5 : decide ((500 : Int) < s.length) = false := by simp; omega
    have h5' : s.length ≤ 500 := by omega
    clear h5
    by_cases h6 : 500 < t.length
    · go_enter Tryd.func3, Tryd.ntmps3
      go_wp2_with fail
      go_ret
      exact ⟨rfl, Below.refl _ _⟩
    · have d6 : decide ((500 : Int) < t.length) = false := by simp; omega
      have h6' : t.length ≤ 500 := by omega
      clear h6
      cases hn : normOf s with
      | none =>
        cases hj : joinOf s t with
        | none =>
          have e1 := Lib.hid hn
          have e2 := Lib.hid hj
          clear hn hj
          go_enter Tryd.func3, Tryd.ntmps3
          go_wp2_with fail
          refine (norm_not e1.out (by omega) _ hm0).mono ?_
          rintro e w1 ⟨rfl, hB1⟩
          have hm1 := hm0.below hB1
          go_wp2_with fail
          refine (refNorm_not e1.out (by omega) _).mono ?_
          rintro e w2 ⟨rfl, hB2⟩
          have hm2 := hm1.below hB2
          go_wp2_with fail
          refine (Join_not e2.out (by omega) (by omega) _ hm2).mono ?_
          rintro e w3 ⟨rfl, hB3⟩
          have hm3 := hm2.below hB3
          go_wp2_with fail
          refine (refJoin_not e2.out (by omega) (by omega) _).mono ?_
          rintro e w4 ⟨rfl, hB4⟩
          have hm4 := hm3.below hB4
          go_wp2_with fail
          refine (paths_calls _ hm4).mono ?_
          rintro e w5 ⟨rfl, hB5⟩
          have hm5 := hm4.below hB5
          go_wp2_with fail
          refine (is_calls s (by omega) _ hm5).mono ?_
          rintro e w6 ⟨rfl, hB6⟩
          have hm6 := hm5.below hB6
          go_wp2_with fail
          refine (refIs_calls s (by omega) _).mono ?_
          rintro e w7 ⟨rfl, hB7⟩
          have hm7 := hm6.below hB7
          go_wp2_with fail
          go_ret
          exact ⟨rfl, (below2 (below2 (below2 (below2 (below2 (below2 (below2 hB0 hB1) hB2) hB3) hB4) hB5) hB6) hB7)⟩
        | some c =>
          have e1 := Lib.hid hn
          have e2 := Lib.hid hj
          clear hn hj
          go_enter Tryd.func3, Tryd.ntmps3
          go_wp2_with fail
          refine (norm_not e1.out (by omega) _ hm0).mono ?_
          rintro e w1 ⟨rfl, hB1⟩
          have hm1 := hm0.below hB1
          go_wp2_with fail
          refine (refNorm_not e1.out (by omega) _).mono ?_
          rintro e w2 ⟨rfl, hB2⟩
          have hm2 := hm1.below hB2
          go_wp2_with fail
          refine (Join_some e2.out (by omega) (by omega) _ hm2).mono ?_
          rintro e w3 ⟨rfl, hB3⟩
          have hm3 := hm2.below hB3
          go_wp2_with fail
          refine (refJoin_some e2.out (by omega) (by omega) _).mono ?_
          rintro e w4 ⟨rfl, hB4⟩
          have hm4 := hm3.below hB4
          go_wp2_with fail
          refine (paths_calls _ hm4).mono ?_
          rintro e w5 ⟨rfl, hB5⟩
          have hm5 := hm4.below hB5
          go_wp2_with fail
          refine (is_calls s (by omega) _ hm5).mono ?_
          rintro e w6 ⟨rfl, hB6⟩
          have hm6 := hm5.below hB6
          go_wp2_with fail
          refine (refIs_calls s (by omega) _).mono ?_
          rintro e w7 ⟨rfl, hB7⟩
          have hm7 := hm6.below hB7
          go_wp2_with fail
          go_ret
          exact ⟨rfl, (below2 (below2 (below2 (below2 (below2 (below2 (below2 hB0 hB1) hB2) hB3) hB4) hB5) hB6) hB7)⟩
      | some a =>
        cases hj : joinOf s t with
        | none =>
          have e1 := Lib.hid hn
          have e2 := Lib.hid hj
          clear hn hj
          go_enter Tryd.func3, Tryd.ntmps3
          go_wp2_with fail
          refine (norm_some e1.out (by omega) _ hm0).mono ?_
          rintro e w1 ⟨rfl, hB1⟩
          have hm1 := hm0.below hB1
          go_wp2_with fail
          refine (refNorm_some e1.out (by omega) _).mono ?_
          rintro e w2 ⟨rfl, hB2⟩
          have hm2 := hm1.below hB2
          go_wp2_with fail
          refine (Join_not e2.out (by omega) (by omega) _ hm2).mono ?_
          rintro e w3 ⟨rfl, hB3⟩
          have hm3 := hm2.below hB3
          go_wp2_with fail
          refine (refJoin_not e2.out (by omega) (by omega) _).mono ?_
          rintro e w4 ⟨rfl, hB4⟩
          have hm4 := hm3.below hB4
          go_wp2_with fail
          refine (paths_calls _ hm4).mono ?_
          rintro e w5 ⟨rfl, hB5⟩
          have hm5 := hm4.below hB5
          go_wp2_with fail
          refine (is_calls s (by omega) _ hm5).mono ?_
          rintro e w6 ⟨rfl, hB6⟩
          have hm6 := hm5.below hB6
          go_wp2_with fail
          refine (refIs_calls s (by omega) _).mono ?_
          rintro e w7 ⟨rfl, hB7⟩
          have hm7 := hm6.below hB7
          go_wp2_with fail
          go_ret
          exact ⟨rfl, (below2 (below2 (below2 (below2 (below2 (below2 (below2 hB0 hB1) hB2) hB3) hB4) hB5) hB6) hB7)⟩
        | some c =>
          have e1 := Lib.hid hn
          have e2 := Lib.hid hj
          clear hn hj
          go_enter Tryd.func3, Tryd.ntmps3
          go_wp2_with fail
          refine (norm_some e1.out (by omega) _ hm0).mono ?_
          rintro e w1 ⟨rfl, hB1⟩
          have hm1 := hm0.below hB1
          go_wp2_with fail
          refine (refNorm_some e1.out (by omega) _).mono ?_
          rintro e w2 ⟨rfl, hB2⟩
          have hm2 := hm1.below hB2
          go_wp2_with fail
          refine (Join_some e2.out (by omega) (by omega) _ hm2).mono ?_
          rintro e w3 ⟨rfl, hB3⟩
          have hm3 := hm2.below hB3
          go_wp2_with fail
          refine (refJoin_some e2.out (by omega) (by omega) _).mono ?_
          rintro e w4 ⟨rfl, hB4⟩
          have hm4 := hm3.below hB4
          go_wp2_with fail
          refine (paths_calls _ hm4).mono ?_
          rintro e w5 ⟨rfl, hB5⟩
          have hm5 := hm4.below hB5
          go_wp2_with fail
          refine (is_calls s (by omega) _ hm5).mono ?_
          rintro e w6 ⟨rfl, hB6⟩
          have hm6 := hm5.below hB6
          go_wp2_with fail
          refine (refIs_calls s (by omega) _).mono ?_
          rintro e w7 ⟨rfl, hB7⟩
          have hm7 := hm6.below hB7
          go_wp2_with fail
          go_ret
          exact ⟨rfl, (below2 (below2 (below2 (below2 (below2 (below2 (below2 hB0 hB1) hB2) hB3) hB4) hB5) hB6) hB7)⟩

end Go.Proofs.YtifgcfgpkhgfoaaDoor
