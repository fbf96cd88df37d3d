/-
  The walk of KeyUnder.
-/
import Derived.Test.YtaoiiocgnnjnnaaDoorKeyed
import Derived.Test.YtaoiiocgnnjnnaaDoorShort
import Derived.Test.YtaoiiocgnnjnnaaDoorPUnd
namespace Go.Proofs.YtaoiiocgnnjnnaaDoor
open Go.RowKit

set_option maxRecDepth 100000 in
set_option maxHeartbeats 8000000 in
theorem keyUnder_walk (d p : List UInt8) (n m : Int) (w : World) (hm : Ml w) :
    Calls Tryd.prog 7 #[.string ⟨d.toArray⟩, .agg #[.string ⟨p.toArray⟩, .int .i64 n], .int .i64 m] w fun e w' => e = .returned (.bool true) ∧ Below w.heap.size w w' := by
  have hB0 := below_alloc2 w (.cells #[.string ⟨p.toArray⟩, .int .i64 n] 23) (.cells #[SV d, SV p] 9)
  have hm0 := hm.below hB0
  have hA := Lib.hid ((Cx.new w 23 [.string ⟨p.toArray⟩, .int .i64 n]).below (below_alloc _ (.cells #[SV d, SV p] 9)))
  have CS := short_calls _ [d, p] _ (strs_new (w.alloc (.cells #[.string ⟨p.toArray⟩, .int .i64 n] 23)) [d, p] 9) (by simp)
  rw [World.size_alloc] at CS
  cases hs : shortB [d, p] with
  | false =>
    rw [hs] at CS
    go_enter Tryd.func7, Tryd.ntmps7
    go_wp2_with fail
    refine CS.mono ?_
    rintro e w1 ⟨rfl, rfl⟩
    go_wp2_with fail
    go_ret
    exact ⟨rfl, hB0⟩
  | true =>
    rw [hs] at CS
    have hl3 : d.length ≤ 300 ∧ p.length ≤ 300 := by simpa [shortB] using hs
    obtain ⟨h3, h4⟩ := hl3
    have C0 := Lib.hid CS
    clear CS hs
    cases hu : underOf d p with
    | false =>
      have hU := Lib.hid hu
      clear hu
      go_enter Tryd.func7, Tryd.ntmps7
      go_wp2_with fail
      refine C0.out.mono ?_
      rintro e w0 ⟨rfl, rfl⟩
      go_wp2_with fail
      refine (under_calls d p (by omega) (by omega) _ hm0).mono ?_
      rintro e w1 ⟨rfl, hB1⟩
      rw [hU.out]
      go_wp2_with fail
      refine (keyed_calls _ (hm0.below hB1)).mono ?_
      rintro e w2 ⟨rfl, hB2⟩
      go_wp2_with fail
      go_ret
      exact ⟨rfl, below3 hB0 hB1 hB2⟩
    | true =>
      have hU := Lib.hid hu
      cases he : (d == p) with
      | true =>
        clear hu
        go_enter Tryd.func7, Tryd.ntmps7
        go_wp2_with fail
        refine C0.out.mono ?_
        rintro e w0 ⟨rfl, rfl⟩
        go_wp2_with fail
        refine (under_calls d p (by omega) (by omega) _ hm0).mono ?_
        rintro e w1 ⟨rfl, hB1⟩
        obtain ⟨c0, c1, _⟩ := (hA.out.below hB1).two
        rw [hU.out]
        go_wp2_with fail
        refine (keyed_calls _ (hm0.below hB1)).mono ?_
        rintro e w2 ⟨rfl, hB2⟩
        go_wp2_with fail
        go_ret
        exact ⟨rfl, below3 hB0 hB1 hB2⟩
      | false =>
        have hL := Lib.hid (under_less hu (by simpa using he) m n)
        clear hu
        go_enter Tryd.func7, Tryd.ntmps7
        go_wp2_with fail
        refine C0.out.mono ?_
        rintro e w0 ⟨rfl, rfl⟩
        go_wp2_with fail
        refine (under_calls d p (by omega) (by omega) _ hm0).mono ?_
        rintro e w1 ⟨rfl, hB1⟩
        obtain ⟨c0, c1, _⟩ := (hA.out.below hB1).two
        rw [hU.out]
        go_wp2_with fail
        refine (keyed_calls _ (hm0.below hB1)).mono ?_
        rintro e w2 ⟨rfl, hB2⟩
        replace c0 := look_below hB2 c0
        replace c1 := look_below hB2 c1
        go_wp2_with fail
        refine (kLess_calls d p m n _).mono ?_
        rintro e w3 ⟨rfl, hB3⟩
        rw [hL.out.1]
        replace c0 := look_below hB3 c0
        replace c1 := look_below hB3 c1
        go_wp2_with fail
        refine (kLess_calls p d n m _).mono ?_
        rintro e w4 ⟨rfl, hB4⟩
        rw [hL.out.2]
        go_wp2_with fail
        go_ret
        exact ⟨rfl, below2 (below3 hB0 hB1 hB2) (below2 hB3 hB4)⟩

end Go.Proofs.YtaoiiocgnnjnnaaDoor
