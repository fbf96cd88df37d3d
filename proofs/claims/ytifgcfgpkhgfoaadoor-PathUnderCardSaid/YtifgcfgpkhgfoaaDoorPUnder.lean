/-
  The walk of PathUnder.
-/
import Derived.Test.YtifgcfgpkhgfoaaDoorPPaths
import Derived.Test.YtifgcfgpkhgfoaaDoorShort
namespace Go.Proofs.YtifgcfgpkhgfoaaDoor
open Go.RowKit

theorem below_short (w : World) (o : Obj) : Below w.heap.size w (w.alloc o) := below_alloc w o

set_option maxRecDepth 100000 in
set_option maxHeartbeats 8000000 in
theorem under_walk (a b c : List UInt8) (w : World) (hla : a.length ≤ reachBytes) (hlb : b.length ≤ reachBytes) (hlc : c.length ≤ reachBytes) (hm : Ml w) :
    Calls Tryd.prog 7 #[.string ⟨a.toArray⟩, .string ⟨b.toArray⟩, .string ⟨c.toArray⟩] w fun e w' => e = .returned (.bool true) ∧ Below w.heap.size w w' := by
  unfold reachBytes at hla hlb hlc
  have hB0 := below_alloc w (.cells #[SV a, SV b, SV c] 9)
  have hm0 := hm.below hB0
  have CS := short_calls _ [a, b, c] _ (strs_new w [a, b, c] 9) (by simp)
  cases hs : shortB [a, b, c] with
  | false =>
    rw [hs] at CS
    go_enter Tryd.func7, Tryd.ntmps7
    go_wp2_with fail
    refine CS.mono ?_
    rintro e w1 ⟨rfl, rfl⟩
    go_wp2_with fail
    go_ret
    exact ⟨rfl, hB0⟩
  | true =>
    rw [hs] at CS
    have C0 := Lib.hid CS
    clear CS hs
    cases hab : underOf a b with
    | false =>
      have e1 := Lib.hid hab
      clear hab
      go_enter Tryd.func7, Tryd.ntmps7
      go_wp2_with fail
      refine C0.out.mono ?_
      rintro e w0 ⟨rfl, rfl⟩
      go_wp2_with fail
      refine (under_calls a b (by omega) (by omega) _ hm0).mono ?_
      rintro e w1 ⟨rfl, hB1⟩
      have hm1 := hm0.below hB1
      rw [e1.out]
      go_wp2_with fail
      refine (under_calls a b (by omega) (by omega) _ hm1).mono ?_
      rintro e w2 ⟨rfl, hB2⟩
      have hm2 := hm1.below hB2
      rw [e1.out]
      go_wp2_with fail
      refine (paths_calls _ hm2).mono ?_
      rintro e w3 ⟨rfl, hB3⟩
      have hm3 := hm2.below hB3
      go_wp2_with fail
      refine (under_calls a a (by omega) (by omega) _ hm3).mono ?_
      rintro e w4 ⟨rfl, hB4⟩
      have hm4 := hm3.below hB4
      rw [under_self]
      go_wp2_with fail
      refine (is_calls a (by omega) _ hm4).mono ?_
      rintro e w5 ⟨rfl, hB5⟩
      have hm5 := hm4.below hB5
      go_wp2_with fail
      refine (under_calls [] a (by decide) (by omega) _ hm5).mono ?_
      rintro e w6 ⟨rfl, hB6⟩
      have hm6 := hm5.below hB6
      rw [under_root]
      go_wp2_with fail
      refine (is_calls a (by omega) _ hm6).mono ?_
      rintro e w7 ⟨rfl, hB7⟩
      have hm7 := hm6.below hB7
      go_wp2_with fail
      go_ret
      exact ⟨rfl, (below2 (below2 (below2 (below2 (below2 (below2 (below2 hB0 hB1) hB2) hB3) hB4) hB5) hB6) hB7)⟩
    | true =>
      cases hbc : underOf b c with
      | false =>
        cases hba : underOf b a with
        | false =>
          have e1 := Lib.hid hab
          have e2 := Lib.hid hbc
          have e3 := Lib.hid hba
          clear hab hbc hba
          go_enter Tryd.func7, Tryd.ntmps7
          go_wp2_with fail
          refine C0.out.mono ?_
          rintro e w0 ⟨rfl, rfl⟩
          go_wp2_with fail
          refine (under_calls a b (by omega) (by omega) _ hm0).mono ?_
          rintro e w1 ⟨rfl, hB1⟩
          have hm1 := hm0.below hB1
          rw [e1.out]
          go_wp2_with fail
          refine (under_calls b c (by omega) (by omega) _ hm1).mono ?_
          rintro e w2 ⟨rfl, hB2⟩
          have hm2 := hm1.below hB2
          rw [e2.out]
          go_wp2_with fail
          refine (under_calls a b (by omega) (by omega) _ hm2).mono ?_
          rintro e w3 ⟨rfl, hB3⟩
          have hm3 := hm2.below hB3
          rw [e1.out]
          go_wp2_with fail
          refine (under_calls b a (by omega) (by omega) _ hm3).mono ?_
          rintro e w4 ⟨rfl, hB4⟩
          have hm4 := hm3.below hB4
          rw [e3.out]
          go_wp2_with fail
          refine (paths_calls _ hm4).mono ?_
          rintro e w5 ⟨rfl, hB5⟩
          have hm5 := hm4.below hB5
          go_wp2_with fail
          refine (under_calls a a (by omega) (by omega) _ hm5).mono ?_
          rintro e w6 ⟨rfl, hB6⟩
          have hm6 := hm5.below hB6
          rw [under_self]
          go_wp2_with fail
          refine (is_calls a (by omega) _ hm6).mono ?_
          rintro e w7 ⟨rfl, hB7⟩
          have hm7 := hm6.below hB7
          go_wp2_with fail
          refine (under_calls [] a (by decide) (by omega) _ hm7).mono ?_
          rintro e w8 ⟨rfl, hB8⟩
          have hm8 := hm7.below hB8
          rw [under_root]
          go_wp2_with fail
          refine (is_calls a (by omega) _ hm8).mono ?_
          rintro e w9 ⟨rfl, hB9⟩
          have hm9 := hm8.below hB9
          go_wp2_with fail
          go_ret
          exact ⟨rfl, (below2 (below2 (below2 (below2 (below2 (below2 (below2 (below2 (below2 hB0 hB1) hB2) hB3) hB4) hB5) hB6) hB7) hB8) hB9)⟩
        | true =>
          obtain rfl := under_anti hab hba
          have e1 := Lib.hid hab
          have e2 := Lib.hid hbc
          clear hab hbc hba
          go_enter Tryd.func7, Tryd.ntmps7
          go_wp2_with fail
          refine C0.out.mono ?_
          rintro e w0 ⟨rfl, rfl⟩
          go_wp2_with fail
          refine (under_calls a a (by omega) (by omega) _ hm0).mono ?_
          rintro e w1 ⟨rfl, hB1⟩
          have hm1 := hm0.below hB1
          rw [e1.out]
          go_wp2_with fail
          refine (under_calls a c (by omega) (by omega) _ hm1).mono ?_
          rintro e w2 ⟨rfl, hB2⟩
          have hm2 := hm1.below hB2
          rw [e2.out]
          go_wp2_with fail
          refine (under_calls a a (by omega) (by omega) _ hm2).mono ?_
          rintro e w3 ⟨rfl, hB3⟩
          have hm3 := hm2.below hB3
          rw [e1.out]
          go_wp2_with fail
          refine (under_calls a a (by omega) (by omega) _ hm3).mono ?_
          rintro e w4 ⟨rfl, hB4⟩
          have hm4 := hm3.below hB4
          rw [e1.out]
          go_wp2_with fail
          refine (paths_calls _ hm4).mono ?_
          rintro e w5 ⟨rfl, hB5⟩
          have hm5 := hm4.below hB5
          go_wp2_with fail
          refine (under_calls a a (by omega) (by omega) _ hm5).mono ?_
          rintro e w6 ⟨rfl, hB6⟩
          have hm6 := hm5.below hB6
          rw [under_self]
          go_wp2_with fail
          refine (is_calls a (by omega) _ hm6).mono ?_
          rintro e w7 ⟨rfl, hB7⟩
          have hm7 := hm6.below hB7
          go_wp2_with fail
          refine (under_calls [] a (by decide) (by omega) _ hm7).mono ?_
          rintro e w8 ⟨rfl, hB8⟩
          have hm8 := hm7.below hB8
          rw [under_root]
          go_wp2_with fail
          refine (is_calls a (by omega) _ hm8).mono ?_
          rintro e w9 ⟨rfl, hB9⟩
          have hm9 := hm8.below hB9
          go_wp2_with fail
          go_ret
          exact ⟨rfl, (below2 (below2 (below2 (below2 (below2 (below2 (below2 (below2 (below2 hB0 hB1) hB2) hB3) hB4) hB5) hB6) hB7) hB8) hB9)⟩
      | true =>
        have e4 := Lib.hid (under_trans hab hbc)
        cases hba : underOf b a with
        | false =>
          have e1 := Lib.hid hab
          have e2 := Lib.hid hbc
          have e3 := Lib.hid hba
          clear hab hbc hba
          go_enter Tryd.func7, Tryd.ntmps7
          go_wp2_with fail
          refine C0.out.mono ?_
          rintro e w0 ⟨rfl, rfl⟩
          go_wp2_with fail
          refine (under_calls a b (by omega) (by omega) _ hm0).mono ?_
          rintro e w1 ⟨rfl, hB1⟩
          have hm1 := hm0.below hB1
          rw [e1.out]
          go_wp2_with fail
          refine (under_calls b c (by omega) (by omega) _ hm1).mono ?_
          rintro e w2 ⟨rfl, hB2⟩
          have hm2 := hm1.below hB2
          rw [e2.out]
          go_wp2_with fail
          refine (under_calls a c (by omega) (by omega) _ hm2).mono ?_
          rintro e w3 ⟨rfl, hB3⟩
          have hm3 := hm2.below hB3
          rw [e4.out]
          go_wp2_with fail
          refine (under_calls a b (by omega) (by omega) _ hm3).mono ?_
          rintro e w4 ⟨rfl, hB4⟩
          have hm4 := hm3.below hB4
          rw [e1.out]
          go_wp2_with fail
          refine (under_calls b a (by omega) (by omega) _ hm4).mono ?_
          rintro e w5 ⟨rfl, hB5⟩
          have hm5 := hm4.below hB5
          rw [e3.out]
          go_wp2_with fail
          refine (paths_calls _ hm5).mono ?_
          rintro e w6 ⟨rfl, hB6⟩
          have hm6 := hm5.below hB6
          go_wp2_with fail
          refine (under_calls a a (by omega) (by omega) _ hm6).mono ?_
          rintro e w7 ⟨rfl, hB7⟩
          have hm7 := hm6.below hB7
          rw [under_self]
          go_wp2_with fail
          refine (is_calls a (by omega) _ hm7).mono ?_
          rintro e w8 ⟨rfl, hB8⟩
          have hm8 := hm7.below hB8
          go_wp2_with fail
          refine (under_calls [] a (by decide) (by omega) _ hm8).mono ?_
          rintro e w9 ⟨rfl, hB9⟩
          have hm9 := hm8.below hB9
          rw [under_root]
          go_wp2_with fail
          refine (is_calls a (by omega) _ hm9).mono ?_
          rintro e w10 ⟨rfl, hB10⟩
          have hm10 := hm9.below hB10
          go_wp2_with fail
          go_ret
          exact ⟨rfl, (below2 (below2 (below2 (below2 (below2 (below2 (below2 (below2 (below2 (below2 hB0 hB1) hB2) hB3) hB4) hB5) hB6) hB7) hB8) hB9) hB10)⟩
        | true =>
          obtain rfl := under_anti hab hba
          have e1 := Lib.hid hab
          have e2 := Lib.hid hbc
          clear hab hbc hba
          go_enter Tryd.func7, Tryd.ntmps7
          go_wp2_with fail
          refine C0.out.mono ?_
          rintro e w0 ⟨rfl, rfl⟩
          go_wp2_with fail
          refine (under_calls a a (by omega) (by omega) _ hm0).mono ?_
          rintro e w1 ⟨rfl, hB1⟩
          have hm1 := hm0.below hB1
          rw [e1.out]
          go_wp2_with fail
          refine (under_calls a c (by omega) (by omega) _ hm1).mono ?_
          rintro e w2 ⟨rfl, hB2⟩
          have hm2 := hm1.below hB2
          rw [e2.out]
          go_wp2_with fail
          refine (under_calls a c (by omega) (by omega) _ hm2).mono ?_
          rintro e w3 ⟨rfl, hB3⟩
          have hm3 := hm2.below hB3
          rw [e4.out]
          go_wp2_with fail
          refine (under_calls a a (by omega) (by omega) _ hm3).mono ?_
          rintro e w4 ⟨rfl, hB4⟩
          have hm4 := hm3.below hB4
          rw [e1.out]
          go_wp2_with fail
          refine (under_calls a a (by omega) (by omega) _ hm4).mono ?_
          rintro e w5 ⟨rfl, hB5⟩
          have hm5 := hm4.below hB5
          rw [e1.out]
          go_wp2_with fail
          refine (paths_calls _ hm5).mono ?_
          rintro e w6 ⟨rfl, hB6⟩
          have hm6 := hm5.below hB6
          go_wp2_with fail
          refine (under_calls a a (by omega) (by omega) _ hm6).mono ?_
          rintro e w7 ⟨rfl, hB7⟩
          have hm7 := hm6.below hB7
          rw [under_self]
          go_wp2_with fail
          refine (is_calls a (by omega) _ hm7).mono ?_
          rintro e w8 ⟨rfl, hB8⟩
          have hm8 := hm7.below hB8
          go_wp2_with fail
          refine (under_calls [] a (by decide) (by omega) _ hm8).mono ?_
          rintro e w9 ⟨rfl, hB9⟩
          have hm9 := hm8.below hB9
          rw [under_root]
          go_wp2_with fail
          refine (is_calls a (by omega) _ hm9).mono ?_
          rintro e w10 ⟨rfl, hB10⟩
          have hm10 := hm9.below hB10
          go_wp2_with fail
          go_ret
          exact ⟨rfl, (below2 (below2 (below2 (below2 (below2 (below2 (below2 (below2 (below2 (below2 hB0 hB1) hB2) hB3) hB4) hB5) hB6) hB7) hB8) hB9) hB10)⟩

end Go.Proofs.YtifgcfgpkhgfoaaDoor
