/-
  VacuumTwice: the walk.
-/
import Derived.Test.YtaaabmnaindgaaaGreatDoorPks18
import Derived.Test.YtaaabmnaindgaaaGreatDoorPks15
namespace Go.Proofs.YtaaabmnaindgaaaGreatDoor
set_option maxRecDepth 100000
open Go.RowKit

set_option maxHeartbeats 32000000 in
theorem vacuumTwice_walk (v : Value) (S : List Lv) (n more : Int) (w : World) (h : Lds w v S) (hf : FitL S) (hml : Ml w) :
    Calls Tryz.prog 5 #[v, .int .i64 n, .int .i64 more] w fun e w' => e = .returned (.bool true) ∧ Below w.heap.size w w' := by
  obtain ⟨av, cv, rfl⟩ := h.form
  obtain ⟨nl, hnL⟩ : ∃ k, S.length = k := ⟨_, rfl⟩
  have KB := Lib.hid (refL_calls _ S w h hf)
  rw [hnL] at KB ⊢
  cases hb : bigL S with
  | true =>
    rw [hb] at KB
    clear h hf hb hnL
    go_enter Tryz.func5, Tryz.ntmps5
    go_wp2_with fail
    refine KB.out.mono ?_
    rintro e w1 ⟨rfl, rfl⟩
    go_wp2_with fail
    go_ret
    exact ⟨rfl, Below.refl _ _⟩
  | false =>
    obtain ⟨hl20, hls⟩ := bigL_small hb
    rw [hb] at KB
    by_cases hmw : more < n
    · have hdd : decide (more < n) = true := decide_eq_true hmw
      clear h hf hb hnL hls hmw
      go_enter Tryz.func5, Tryz.ntmps5
      go_wp2_with fail
      refine KB.out.mono ?_
      rintro e w1 ⟨rfl, rfl⟩
      go_wp2_with fail
      go_ret
      exact ⟨rfl, Below.refl _ _⟩
    · have hdd : decide (more < n) = false := decide_eq_false hmw
      have KM := Lib.hid (vaLaid_calls _ S w h hl20 hls hml)
      rw [hnL] at KM
      obtain ⟨hK1, hK2, _⟩ := took_all S
      obtain ⟨hUr, hUs⟩ := pairsK_st hK1
      have hUn := pairsK_len hK1
      have hST : ∀ W tv, TreeV W tv (pairsK (tookS S)) → Ml W → Sto W tv (pairsK (tookS S)) := fun W tv ht hm => pairsK_sto hK1 (by omega) ht hm
      have hul : (pairsK (tookS S)).length ≤ 1000 := by omega
      obtain ⟨U, hU⟩ : ∃ U, pairsK (tookS S) = U := ⟨_, rfl⟩
      have hUF : TimesK (pairsK (tookS S)) ∧ (∀ x ∈ pairsK (tookS S), x.1.1.length ≤ 1000) ∧ (∀ x ∈ pairsK (tookS S), x.2.length ≤ 4611686018427387904) := took_small hK1 (by omega)
      rw [hU] at KM hUr hUs hul hST hUF
      have HST := Lib.hid hST
      have HUF := Lib.hid (And.intro hUF.1 (And.intro hul hUF.2))
      have HUT := Lib.hid (fun x hx => (hUF.1 x hx).2 : Timed U)
      have HUR := Lib.hid hUr
      have HIS := Lib.hid hUs
      have HM := Lib.hid hml
      clear h hf hb hnL hls hUr hUs hUn hU hml hK1 hK2 hl20 hST hUF
      by_cases hz : vaE U n = 0
      · have hle : n ≤ more := by omega
        have hz1 := live_ok hz (Int.le_refl n)
        have hz2 := more_ok hz hle
        have hz3 := live_ok hz hle
        have KR := Lib.hid (fun tv W (h : Sto W tv U) => vaRun_calls h n)
        have KR1 := Lib.hid (fun tv W (h : Sto W tv (liveL U n)) => vaRun_calls h n)
        have KR2 := Lib.hid (fun tv W (h : Sto W tv (liveL U n)) => vaRun_calls h more)
        have KR3 := Lib.hid (fun tv W (h : Sto W tv U) => vaRun_calls h more)
        have KN := Lib.hid (fun W tv (ht : TreeV W tv U) => tlen_calls tv U W ht)
        have KN1 := Lib.hid (fun W tv (ht : TreeV W tv (liveL U n)) => tlen_calls tv (liveL U n) W ht)
        have HSL := Lib.hid (sto_less (T := liveL U n) (fun x hx => live_mem hx) (live_le U n) HUF.out)
        unfold vaM at KR KR1 KR2 KR3
        rw [hz, show vaT U n = liveL U n from if_pos hz, show vaK U n = deadK U n from if_pos hz] at KR
        rw [hz1, show vaT (liveL U n) n = liveL U n from (if_pos hz1).trans (live_live (Int.le_refl n)), show vaK (liveL U n) n = [] from (if_pos hz1).trans (deadK_again U n)] at KR1
        rw [hz3, show vaT (liveL U n) more = liveL U more from (if_pos hz3).trans (live_live hle), show vaK (liveL U n) more = deadK (liveL U n) more from if_pos hz3] at KR2
        rw [hz2, show vaT U more = liveL U more from if_pos hz2, show vaK U more = deadK U more from if_pos hz2] at KR3
        have hnum := live_nums U n
        have htwo := deadK_two (U := U) hle
        have hl1 := live_le U n
        have hl2 := live_le U more
        have ht1 : Timed (liveL U n) := fun x hx => HUT.out x (live_mem hx)
        have ht2 : Timed (liveL U more) := fun x hx => HUT.out x (live_mem hx)
        obtain ⟨nA, hnA⟩ : ∃ k, (deadK U n).length = k := ⟨_, rfl⟩
        obtain ⟨nB, hnB⟩ : ∃ k, (deadK (liveL U n) more).length = k := ⟨_, rfl⟩
        obtain ⟨nC, hnC⟩ : ∃ k, (deadK U more).length = k := ⟨_, rfl⟩
        rw [hnA] at KR hnum htwo
        rw [hnB] at KR2 htwo
        rw [hnC] at KR3 htwo
        have hz0 : (([] : List Ky).length : Int) = 0 := rfl
        rw [hz0] at KR1
        obtain ⟨T, hT⟩ : ∃ x, liveL U n = x := ⟨_, rfl⟩
        rw [hT] at KR KR1 KR2 KN1 HSL hnum hl1 ht1
        obtain ⟨V, hV⟩ : ∃ x, liveL U more = x := ⟨_, rfl⟩
        rw [hV] at KR2 KR3 hl2 ht2
        obtain ⟨nT, hnT⟩ : ∃ k, T.length = k := ⟨_, rfl⟩
        obtain ⟨nU, hnU⟩ : ∃ k, U.length = k := ⟨_, rfl⟩
        have hTl : T.length ≤ 100000 := by omega
        have hVl : V.length ≤ 100000 := by omega
        rw [hnT] at KN1 hnum
        rw [hnU] at KN hnum hul hl1
        have e1 : ((nA : Int) + (nB : Int) == (nC : Int)) = true := by rw [beq_iff_eq]; omega
        have e2 : ((nT : Int) + (nA : Int) == (nU : Int)) = true := by rw [beq_iff_eq]; omega
        have b1 : nT ≤ 1000 := by omega
        have b2 : nA ≤ 1000 := by omega
        have b3 : nB ≤ 1000 := by
          have h1 := live_nums T more
          rw [← hT] at h1
          rw [hnB] at h1
          have h2 := live_le U n
          omega
        have HTV := Lib.hid (And.intro hTl (And.intro ht1 (And.intro hVl ht2)))
        clear hz hz1 hz2 hz3 hle hnum htwo hl1 hl2 ht1 ht2 hT hV hnA hnB hnC hnT hnU hul hmw hz0 hTl hVl
        go_enter Tryz.func5, Tryz.ntmps5
        go_wp2_with fail
        refine KB.out.mono ?_
        rintro e w1 ⟨rfl, rfl⟩
        go_wp2_with fail
        refine KM.out.mono ?_
        rintro e w2 ⟨t, rfl, ht, hB2⟩
        obtain ⟨tp, rfl⟩ := ht.val
        have HT := Lib.hid (HST.out _ _ ht (HM.out.below hB2))
        have HB2 := Lib.hid hB2
        clear ht hB2
        go_wp2_with fail
        refine (KR.out _ _ HT.out).mono ?_
        rintro e w11 ⟨pHVa, rfl, hv, hB⟩
        have HB11 := Lib.hid (below2 HB2.out hB)
        replace HT := Lib.hid (HT.out.below hB)
        have HVa := Lib.hid (HSL.out _ _ hv (HM.out.below (below2 HB2.out hB)))
        clear hB
        clear hv
        go_wp2_with fail
        refine (KR1.out _ _ HVa.out).mono ?_
        rintro e w12 ⟨pHVb, rfl, hv, hB⟩
        have HB12 := Lib.hid (below2 HB11.out hB)
        replace HT := Lib.hid (HT.out.below hB)
        replace HVa := Lib.hid (HVa.out.below hB)
        have HVb := Lib.hid (hv)
        clear hB
        clear hv
        go_wp2_with fail
        refine (KR2.out _ _ HVa.out).mono ?_
        rintro e w13 ⟨pHVc, rfl, hv, hB⟩
        have HB13 := Lib.hid (below2 HB12.out hB)
        replace HT := Lib.hid (HT.out.below hB)
        replace HVa := Lib.hid (HVa.out.below hB)
        replace HVb := Lib.hid (HVb.out.below hB)
        have HVc := Lib.hid (hv)
        clear hB
        clear hv
        go_wp2_with fail
        refine (KR3.out _ _ HT.out).mono ?_
        rintro e w14 ⟨pHVd, rfl, hv, hB⟩
        have HB14 := Lib.hid (below2 HB13.out hB)
        replace HT := Lib.hid (HT.out.below hB)
        replace HVa := Lib.hid (HVa.out.below hB)
        replace HVb := Lib.hid (HVb.out.below hB)
        replace HVc := Lib.hid (HVc.out.below hB)
        have HVd := Lib.hid (hv)
        clear hB
        clear hv
        go_wp2_with fail
        refine (swept_calls _ (HM.out.below HB14.out)).mono ?_
        rintro e w15 ⟨rfl, hB⟩
        have HB15 := Lib.hid (below2 HB14.out hB)
        replace HT := Lib.hid (HT.out.below hB)
        replace HVa := Lib.hid (HVa.out.below hB)
        replace HVb := Lib.hid (HVb.out.below hB)
        replace HVc := Lib.hid (HVc.out.below hB)
        replace HVd := Lib.hid (HVd.out.below hB)
        clear hB
        go_wp2_with fail
        refine (all_calls _ T _ HVa.out.1 HTV.out.1 HTV.out.2.1).mono ?_
        rintro e w16 ⟨u, rfl, ho, hB⟩
        obtain ⟨_, _, rfl⟩ := ho.form
        have HB16 := Lib.hid (below2 HB15.out hB)
        replace HT := Lib.hid (HT.out.below hB)
        replace HVa := Lib.hid (HVa.out.below hB)
        replace HVb := Lib.hid (HVb.out.below hB)
        replace HVc := Lib.hid (HVc.out.below hB)
        replace HVd := Lib.hid (HVd.out.below hB)
        have RA := Lib.hid (ho.prs)
        clear hB ho
        go_wp2_with fail
        refine (all_calls _ T _ HVb.out HTV.out.1 HTV.out.2.1).mono ?_
        rintro e w17 ⟨u, rfl, ho, hB⟩
        obtain ⟨_, _, rfl⟩ := ho.form
        have HB17 := Lib.hid (below2 HB16.out hB)
        replace HT := Lib.hid (HT.out.below hB)
        replace HVa := Lib.hid (HVa.out.below hB)
        replace HVb := Lib.hid (HVb.out.below hB)
        replace HVc := Lib.hid (HVc.out.below hB)
        replace HVd := Lib.hid (HVd.out.below hB)
        replace RA := Lib.hid (RA.out.below hB)
        have RB := Lib.hid (ho.prs)
        clear hB ho
        go_wp2_with fail
        refine (vaSame_self _ _ T _ RA.out RB.out HTV.out.1).mono ?_
        rintro e w18 ⟨rfl, hB⟩
        have HB18 := Lib.hid (below2 HB17.out hB)
        replace HT := Lib.hid (HT.out.below hB)
        replace HVa := Lib.hid (HVa.out.below hB)
        replace HVb := Lib.hid (HVb.out.below hB)
        replace HVc := Lib.hid (HVc.out.below hB)
        replace HVd := Lib.hid (HVd.out.below hB)
        replace RA := Lib.hid (RA.out.below hB)
        replace RB := Lib.hid (RB.out.below hB)
        clear hB
        go_wp2_with fail
        refine (all_calls _ V _ HVc.out HTV.out.2.2.1 HTV.out.2.2.2).mono ?_
        rintro e w19 ⟨u, rfl, ho, hB⟩
        obtain ⟨_, _, rfl⟩ := ho.form
        have HB19 := Lib.hid (below2 HB18.out hB)
        replace HT := Lib.hid (HT.out.below hB)
        replace HVa := Lib.hid (HVa.out.below hB)
        replace HVb := Lib.hid (HVb.out.below hB)
        replace HVc := Lib.hid (HVc.out.below hB)
        replace HVd := Lib.hid (HVd.out.below hB)
        replace RA := Lib.hid (RA.out.below hB)
        replace RB := Lib.hid (RB.out.below hB)
        have RC := Lib.hid (ho.prs)
        clear hB ho
        go_wp2_with fail
        refine (all_calls _ V _ HVd.out HTV.out.2.2.1 HTV.out.2.2.2).mono ?_
        rintro e w20 ⟨u, rfl, ho, hB⟩
        obtain ⟨_, _, rfl⟩ := ho.form
        have HB20 := Lib.hid (below2 HB19.out hB)
        replace HT := Lib.hid (HT.out.below hB)
        replace HVa := Lib.hid (HVa.out.below hB)
        replace HVb := Lib.hid (HVb.out.below hB)
        replace HVc := Lib.hid (HVc.out.below hB)
        replace HVd := Lib.hid (HVd.out.below hB)
        replace RA := Lib.hid (RA.out.below hB)
        replace RB := Lib.hid (RB.out.below hB)
        replace RC := Lib.hid (RC.out.below hB)
        have RD := Lib.hid (ho.prs)
        clear hB ho
        go_wp2_with fail
        refine (vaSame_self _ _ V _ RC.out RD.out HTV.out.2.2.1).mono ?_
        rintro e w21 ⟨rfl, hB⟩
        have HB21 := Lib.hid (below2 HB20.out hB)
        replace HT := Lib.hid (HT.out.below hB)
        replace HVa := Lib.hid (HVa.out.below hB)
        replace HVb := Lib.hid (HVb.out.below hB)
        replace HVc := Lib.hid (HVc.out.below hB)
        replace HVd := Lib.hid (HVd.out.below hB)
        replace RA := Lib.hid (RA.out.below hB)
        replace RB := Lib.hid (RB.out.below hB)
        replace RC := Lib.hid (RC.out.below hB)
        replace RD := Lib.hid (RD.out.below hB)
        clear hB
        go_wp2_with fail
        refine (KN1.out _ _ HVa.out.1).mono ?_
        rintro e w40 ⟨rfl, rfl⟩
        go_wp2_with fail
        refine (KN.out _ _ HT.out.1).mono ?_
        rintro e w41 ⟨rfl, rfl⟩
        go_wp2_with fail
        go_ret
        exact ⟨rfl, HB21.out⟩
      · have hn0 : decide (n < 0) = true := decide_eq_true (by have h3 : ¬ (isSt U = true ∧ 0 ≤ n) := fun h2 => hz (vaE_zero.2 h2); by_cases h0 : n < 0; exact h0; exact absurd ⟨HIS.out, by omega⟩ h3)
        have KR := Lib.hid (fun tv W (h : Sto W tv U) => vaRun_calls h n)
        rw [vaE_one hz] at KR
        obtain ⟨M, hM⟩ : ∃ x, vaM U n = x := ⟨_, rfl⟩
        rw [hM] at KR
        clear hz hM hul
        clear hmw
        go_enter Tryz.func5, Tryz.ntmps5
        go_wp2_with fail
        refine KB.out.mono ?_
        rintro e w1 ⟨rfl, rfl⟩
        go_wp2_with fail
        refine KM.out.mono ?_
        rintro e w2 ⟨t, rfl, ht, hB2⟩
        obtain ⟨tp, rfl⟩ := ht.val
        have HT := Lib.hid (HST.out _ _ ht (HM.out.below hB2))
        have HB2 := Lib.hid hB2
        clear ht hB2
        go_wp2_with fail
        refine (KR.out _ _ HT.out).mono ?_
        rintro e w11 ⟨up, rfl, hv, hB⟩
        have HB11 := Lib.hid (below2 HB2.out hB)
        replace HT := Lib.hid (HT.out.below hB)
        clear hB
        clear hv
        go_wp2_with fail
        refine (swept_calls _ (HM.out.below HB11.out)).mono ?_
        rintro e w12 ⟨rfl, hB⟩
        have HB12 := Lib.hid (below2 HB11.out hB)
        replace HT := Lib.hid (HT.out.below hB)
        clear hB
        go_wp2_with fail
        go_ret
        exact ⟨rfl, HB12.out⟩

end Go.Proofs.YtaaabmnaindgaaaGreatDoor
