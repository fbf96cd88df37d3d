/-
  BatchGets, walked.
-/
import Derived.Test.YtmbnmmnoahddcaaGreatDoorPks14b
import Derived.Test.YtmbnmmnoahddcaaGreatDoorPks14c
namespace Go.Proofs.YtmbnmmnoahddcaaGreatDoor
set_option maxRecDepth 100000
open Go.RowKit

theorem got_small (s : List UInt8) : SmallC (gotC s) ∧ (gotC s).length ≤ 1000000 := by
  cases h : getC s with
  | none =>
    rw [(got_none h).1]
    exact ⟨fun c hc => (by cases hc), by simp⟩
  | some l =>
    rw [(got_some h).1]
    obtain ⟨h1, h2, h3, _⟩ := isB_iff.1 (put_get_ba h).1
    refine ⟨fun c hc => ?_, by omega⟩
    have hm := mayB_iff.1 (h3 c hc)
    have hp := isP_len hm.2.1
    have hq := (metaB_iff.1 hm.2.2.1).1
    omega

set_option maxHeartbeats 4000000 in
theorem batchGets_walk (s : List UInt8) (W : World) (hs : s.length ≤ 9223372036854775807) (hm : Ml W) :
    Calls Tryz.prog 4 #[.string ⟨s.toArray⟩] W fun e w' => e = .returned (.bool true) ∧ Below W.heap.size W w' := by
  by_cases h : s.length ≤ 1000
  · have hd : decide ((1000 : Int) < (s.length : Int)) = false := by rw [decide_eq_false_iff_not]; omega
    have HM := Lib.hid hm
    have KG := Lib.hid (baGet_calls s (by omega) W hm)
    obtain ⟨E, hE⟩ : ∃ E, gotCE s = E := ⟨_, rfl⟩
    rw [hE] at KG
    have HE := Lib.hid hE
    clear hm hE
    go_enter Tryz.func4, Tryz.ntmps4
    go_wp2_with fail
    refine KG.out.mono ?_
    rintro e w1 ⟨v1, S1, rfl, ho1, hc1, hB1⟩
    have HO1 := Lib.hid ho1
    have HC1 := Lib.hid hc1
    have HB1 := Lib.hid hB1
    obtain ⟨a1, n1, c1, rfl⟩ := own_form ho1.1
    have KR := rBaGet_calls s h w1
    rw [HE.out] at KR
    have HKR := Lib.hid KR
    clear ho1 hc1 hB1 KR
    go_wp2_with fail
    refine HKR.out.mono ?_
    rintro e w2 ⟨v2, S2, rfl, ho2, hc2, hB2⟩
    have HO2 := Lib.hid (HO1.out.stays hB2)
    have HP2 := Lib.hid ho2
    have HC2 := Lib.hid hc2
    have HB2 := Lib.hid (below2 HB1.out hB2)
    obtain ⟨a2, n2, c2, rfl⟩ := own_form ho2.1
    have KL := Lib.hid (baLaid_calls w2 (HM.out.below HB2.out))
    clear ho2 hc2 hB2
    go_wp2_with fail
    refine KL.out.mono ?_
    rintro e w3 ⟨rfl, hB3⟩
    have HB3 := Lib.hid (below2 HB2.out hB3)
    have KS := bSame_calls _ _ S1 S2 w3 (HO2.out.cgs.below hB3) (HP2.out.cgs.below hB3) (by
      have := congrArg List.length HC1.out
      rw [List.length_map] at this
      rw [this]
      exact (got_small s).2) (by rw [HC1.out]; exact (got_small s).1)
    rw [HC1.out, HC2.out, beq_self_eq_true] at KS
    have HKS := Lib.hid KS
    clear hB3 KS
    go_wp2_with fail
    refine HKS.out.mono ?_
    rintro e w4 ⟨rfl, hB4⟩
    go_wp2_with fail
    go_ret
    exact ⟨by simp, below2 HB3.out hB4⟩
  · have hd : decide ((1000 : Int) < (s.length : Int)) = true := by rw [decide_eq_true_eq]; omega
    go_enter Tryz.func4, Tryz.ntmps4
    go_wp2_with fail
    go_ret
    exact ⟨rfl, Below.refl _ _⟩

end Go.Proofs.YtmbnmmnoahddcaaGreatDoor
