/-
  The walk of PathParts.
-/
import Derived.Test.YtifgcfgpkhgfoaaDoorPPaths
import Derived.Test.YtifgcfgpkhgfoaaDoorRUnder
import Derived.Test.YtifgcfgpkhgfoaaDoorShort
namespace Go.Proofs.YtifgcfgpkhgfoaaDoor
open Go.RowKit

set_option maxRecDepth 100000 in
set_option maxHeartbeats 8000000 in
theorem parts_walk (s t : List UInt8) (w : World) (hls : s.length ≤ reachBytes) (hlt : t.length ≤ reachBytes) (hm : Ml w) :
    Calls Tryd.prog 4 #[.string ⟨s.toArray⟩, .string ⟨t.toArray⟩] w fun e w' => e = .returned (.bool true) ∧ Below w.heap.size w w' := by
  unfold reachBytes at hls hlt
  have hB0 := below_alloc w (.cells #[SV s, SV t] 9)
  have hm0 := hm.below hB0
  have CS := short_calls _ [s, t] _ (strs_new w [s, t] 9) (by simp)
  cases hs : shortB [s, t] with
  | false =>
    rw [hs] at CS
    go_enter Tryd.func4, Tryd.ntmps4
    go_wp2_with fail
    refine CS.mono ?_
    rintro e w1 ⟨rfl, rfl⟩
    go_wp2_with fail
    go_ret
    exact ⟨rfl, hB0⟩
  | true =>
    rw [hs] at CS
    have C0 := Lib.hid CS
    have hl3 : s.length ≤ 300 ∧ t.length ≤ 300 := by simpa [shortB] using hs
    obtain ⟨h3, h4⟩ := hl3
    clear CS hs
    by_cases h : ∀ l, namesOf s = some l → l = []
    · have e1 := Lib.hid h
      clear h
      go_enter Tryd.func4, Tryd.ntmps4
      go_wp2_with fail
      refine C0.out.mono ?_
      rintro e w0 ⟨rfl, rfl⟩
      go_wp2_with fail
      refine (parent_none e1.out (by omega) _ hm0).mono ?_
      rintro e w1 ⟨rfl, hB1⟩
      have hm1 := hm0.below hB1
      go_wp2_with fail
      refine (refParent_none e1.out (by omega) _).mono ?_
      rintro e w2 ⟨rfl, hB2⟩
      have hm2 := hm1.below hB2
      go_wp2_with fail
      refine (base_none e1.out (by omega) _ hm2).mono ?_
      rintro e w3 ⟨rfl, hB3⟩
      have hm3 := hm2.below hB3
      go_wp2_with fail
      refine (refBase_none e1.out (by omega) _).mono ?_
      rintro e w4 ⟨rfl, hB4⟩
      have hm4 := hm3.below hB4
      go_wp2_with fail
      refine (paths_calls _ hm4).mono ?_
      rintro e w5 ⟨rfl, hB5⟩
      have hm5 := hm4.below hB5
      go_wp2_with fail
      refine (depth_calls s (by omega) _ hm5).mono ?_
      rintro e w6 ⟨rfl, hB6⟩
      have hm6 := hm5.below hB6
      go_wp2_with fail
      refine (refDepth_calls s (by omega) _).mono ?_
      rintro e w7 ⟨rfl, hB7⟩
      have hm7 := hm6.below hB7
      go_wp2_with fail
      refine (under_calls s t (by omega) (by omega) _ hm7).mono ?_
      rintro e w8 ⟨rfl, hB8⟩
      have hm8 := hm7.below hB8
      go_wp2_with fail
      refine (refUnder_calls s t (by omega) (by omega) _).mono ?_
      rintro e w9 ⟨rfl, hB9⟩
      have hm9 := hm8.below hB9
      go_wp2_with fail
      go_ret
      exact ⟨rfl, (below2 (below2 (below2 (below2 (below2 (below2 (below2 (below2 (below2 hB0 hB1) hB2) hB3) hB4) hB5) hB6) hB7) hB8) hB9)⟩
    · cases hn : namesOf s with
      | none => exact absurd (fun l e => by rw [hn] at e; cases e) h
      | some l =>
        by_cases h0 : l = []
        · exact absurd (fun l' e => by rw [hn] at e; cases e; exact h0) h
        · have e1 := Lib.hid hn
          have e2 := Lib.hid h0
          clear h hn h0
          go_enter Tryd.func4, Tryd.ntmps4
          go_wp2_with fail
          refine C0.out.mono ?_
          rintro e w0 ⟨rfl, rfl⟩
          go_wp2_with fail
          refine (parent_some e1.out e2.out _ hm0).mono ?_
          rintro e w1 ⟨rfl, hB1⟩
          have hm1 := hm0.below hB1
          go_wp2_with fail
          refine (refParent_some e1.out e2.out _).mono ?_
          rintro e w2 ⟨rfl, hB2⟩
          have hm2 := hm1.below hB2
          go_wp2_with fail
          refine (base_some e1.out e2.out _ hm2).mono ?_
          rintro e w3 ⟨rfl, hB3⟩
          have hm3 := hm2.below hB3
          go_wp2_with fail
          refine (refBase_some e1.out e2.out _).mono ?_
          rintro e w4 ⟨rfl, hB4⟩
          have hm4 := hm3.below hB4
          go_wp2_with fail
          refine (paths_calls _ hm4).mono ?_
          rintro e w5 ⟨rfl, hB5⟩
          have hm5 := hm4.below hB5
          go_wp2_with fail
          refine (depth_calls s (by omega) _ hm5).mono ?_
          rintro e w6 ⟨rfl, hB6⟩
          have hm6 := hm5.below hB6
          go_wp2_with fail
          refine (refDepth_calls s (by omega) _).mono ?_
          rintro e w7 ⟨rfl, hB7⟩
          have hm7 := hm6.below hB7
          go_wp2_with fail
          refine (under_calls s t (by omega) (by omega) _ hm7).mono ?_
          rintro e w8 ⟨rfl, hB8⟩
          have hm8 := hm7.below hB8
          go_wp2_with fail
          refine (refUnder_calls s t (by omega) (by omega) _).mono ?_
          rintro e w9 ⟨rfl, hB9⟩
          have hm9 := hm8.below hB9
          go_wp2_with fail
          go_ret
          exact ⟨rfl, (below2 (below2 (below2 (below2 (below2 (below2 (below2 (below2 (below2 hB0 hB1) hB2) hB3) hB4) hB5) hB6) hB7) hB8) hB9)⟩

end Go.Proofs.YtifgcfgpkhgfoaaDoor
