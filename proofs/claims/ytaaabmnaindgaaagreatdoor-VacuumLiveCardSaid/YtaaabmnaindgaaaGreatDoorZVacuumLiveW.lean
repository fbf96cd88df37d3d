/-
  VacuumLive: the walk.
-/
import Derived.Test.YtaaabmnaindgaaaGreatDoorPks18
import Derived.Test.YtaaabmnaindgaaaGreatDoorPks09
namespace Go.Proofs.YtaaabmnaindgaaaGreatDoor
set_option maxRecDepth 100000
open Go.RowKit

set_option maxHeartbeats 32000000 in
theorem vacuumLive_walk (v : Value) (l : List Pr) (n more : Int) (w : World) (h : Prs w v l) (hnl : l.length ≤ 9223372036854775807) (hti : TimesK l) (hml : Ml w) :
    Calls Tryz.prog 7 #[v, .int .i64 n, .int .i64 more] w fun e w' => e = .returned (.bool true) ∧ Below w.heap.size w w' := by
  obtain ⟨av, cv, rfl⟩ := h.form
  obtain ⟨nl, hnL⟩ : ∃ k, l.length = k := ⟨_, rfl⟩
  have KB := Lib.hid (big_calls _ l w h hnl)
  rw [hnL] at KB ⊢
  cases hb : bigP l with
  | true =>
    rw [hb] at KB
    clear h hti hb hnL
    go_enter Tryz.func7, Tryz.ntmps7
    go_wp2_with fail
    refine KB.out.mono ?_
    rintro e w1 ⟨rfl, rfl⟩
    go_wp2_with fail
    go_ret
    exact ⟨rfl, Below.refl _ _⟩
  | false =>
    obtain ⟨hl80, hls⟩ := bigP_small hb
    rw [hb] at KB
    by_cases hmw : more < n
    · have hdd : decide (more < n) = true := decide_eq_true hmw
      clear h hti hb hnL hls hmw
      go_enter Tryz.func7, Tryz.ntmps7
      go_wp2_with fail
      refine KB.out.mono ?_
      rintro e w1 ⟨rfl, rfl⟩
      go_wp2_with fail
      go_ret
      exact ⟨rfl, Below.refl _ _⟩
    · have hdd : decide (more < n) = false := decide_eq_false hmw
      have KM := Lib.hid (vaMade_calls _ l w h (by omega))
      rw [hnL] at KM
      obtain ⟨hUr, hUl, hUm⟩ := made_facts l
      obtain ⟨U, hU⟩ : ∃ U, madeL l = U := ⟨_, rfl⟩
      rw [hU] at KM hUr hUl hUm
      have hUt : TimesK U := fun x hx => hti x (hUm x hx)
      have hUs : ∀ x ∈ U, x.1.1.length ≤ 1000 ∧ x.2.length ≤ 1000 := fun x hx => by have := hls x (hUm x hx); omega
      have HST : Hid (∀ W tv, TreeV W tv U → Ml W → Sto W tv U) := Lib.hid (fun W tv ht hm => ⟨ht, hUt, by omega, fun x hx => (hUs x hx).1, fun x hx => Nat.le_trans (hUs x hx).2 (by decide), hm⟩)
      have HUF := Lib.hid (And.intro hUt (And.intro (show U.length ≤ 1000 by omega) (And.intro (fun x hx => (hUs x hx).1 : ∀ x ∈ U, x.1.1.length ≤ 1000) (fun x hx => Nat.le_trans (hUs x hx).2 (by decide) : ∀ x ∈ U, x.2.length ≤ 4611686018427387904))))
      have HUS := Lib.hid (fun x hx => ⟨Nat.le_trans (hUs x hx).1 (by decide), (hUs x hx).2⟩ : ∀ x ∈ U, x.1.1.length ≤ 1000000 ∧ x.2.length ≤ 1000)
      have HUT := Lib.hid (fun x hx => (hUt x hx).2 : Timed U)
      have HUR := Lib.hid hUr
      have hul : U.length ≤ 1000 := by omega
      have HM := Lib.hid hml
      clear h hti hb hnL hls hUr hUl hUm hUt hUs hU hml
      by_cases hz : vaE U n = 0
      · have hle : n ≤ more := by omega
        have hz1 := live_ok hz (Int.le_refl n)
        have hz2 := more_ok hz hle
        have KO := Lib.hid (fun tv W (h : Sto W tv U) => vaOf_calls h n)
        have KL := Lib.hid (fun tv W (h : Sto W tv U) => vaLive_calls h n)
        have KR := Lib.hid (fun tv W (h : Sto W tv U) => vaRun_calls h n)
        have KO1 := Lib.hid (fun tv W (h : Sto W tv (liveL U n)) => vaOf_calls h n)
        have KL1 := Lib.hid (fun tv W (h : Sto W tv (liveL U n)) => vaLive_calls h n)
        have KO2 := Lib.hid (fun tv W (h : Sto W tv U) => vaOf_calls h more)
        have HLT := Lib.hid (fun W tv (ht : TreeV W tv U) => tlen_calls tv U W ht)
        have HSL := Lib.hid (sto_less (T := liveL U n) (fun x hx => live_mem hx) (live_le U n) HUF.out)
        rw [hz, show vaK U n = deadK U n from if_pos hz] at KO
        rw [hz, show vaN U n = (liveL U n).length from if_pos hz] at KL
        rw [hz, show vaT U n = liveL U n from if_pos hz] at KR
        rw [hz1, show vaK (liveL U n) n = [] from (if_pos hz1).trans (deadK_again U n)] at KO1
        rw [hz1, show vaN (liveL U n) n = (liveL U n).length from (if_pos hz1).trans (by rw [live_live (Int.le_refl n)])] at KL1
        rw [hz2, show vaK U more = deadK U more from if_pos hz2] at KO2
        have hnum := live_nums U n
        have hmo := deadK_more (U := U) hle
        obtain ⟨A, hA⟩ : ∃ x, deadK U n = x := ⟨_, rfl⟩
        rw [hA] at KO hnum hmo
        obtain ⟨C, hC⟩ : ∃ x, deadK U more = x := ⟨_, rfl⟩
        rw [hC] at KO2 hmo
        obtain ⟨T, hT⟩ : ∃ x, liveL U n = x := ⟨_, rfl⟩
        rw [hT] at KL KR KO1 KL1 HSL hnum
        obtain ⟨M, hM⟩ : ∃ x, vaM U n = x := ⟨_, rfl⟩
        rw [hM] at KR
        obtain ⟨nA, hnA⟩ : ∃ k, A.length = k := ⟨_, rfl⟩
        obtain ⟨nC, hnC⟩ : ∃ k, C.length = k := ⟨_, rfl⟩
        obtain ⟨nT, hnT⟩ : ∃ k, T.length = k := ⟨_, rfl⟩
        obtain ⟨nU, hnU⟩ : ∃ k, U.length = k := ⟨_, rfl⟩
        rw [hnA] at hnum hmo
        rw [hnC] at hmo
        rw [hnT] at KL KL1 hnum
        rw [hnU] at hnum hul HLT
        have e1 : ((nT : Int) + (nA : Int) == (nU : Int)) = true := by rw [beq_iff_eq]; omega
        have e2 : ((nT : Int) == (nT : Int)) = true := by simp
        have e3 : decide (nA ≤ nC) = true := by rw [decide_eq_true_eq]; omega
        have b1 : nT ≤ 1000 := by omega
        have b2 : nA ≤ 1000 := by omega
        have HNN := Lib.hid (And.intro hnA hnC)
        clear hz hz1 hz2 hle hnum hmo hA hC hT hM hnA hnC hnT hnU hul hmw
        go_enter Tryz.func7, Tryz.ntmps7
        go_wp2_with fail
        refine KB.out.mono ?_
        rintro e w1 ⟨rfl, rfl⟩
        go_wp2_with fail
        refine KM.out.mono ?_
        rintro e w2 ⟨t, rfl, ht, hB2⟩
        obtain ⟨tp, rfl⟩ := ht.val
        have HT := Lib.hid (HST.out _ _ ht (HM.out.below hB2))
        have HB2 := Lib.hid hB2
        clear ht hB2
        go_wp2_with fail
        refine (KO.out _ _ HT.out).mono ?_
        rintro e w11 ⟨u, rfl, ho, hB⟩
        obtain ⟨_, _, rfl⟩ := ho.form
        have HB11 := Lib.hid (below2 HB2.out hB)
        replace HT := Lib.hid (HT.out.below hB)
        clear hB ho
        rw [HNN.out.1]
        go_wp2_with fail
        refine (KL.out _ _ HT.out).mono ?_
        rintro e w12 ⟨rfl, hB⟩
        have HB12 := Lib.hid (below2 HB11.out hB)
        replace HT := Lib.hid (HT.out.below hB)
        clear hB
        go_wp2_with fail
        refine (KR.out _ _ HT.out).mono ?_
        rintro e w13 ⟨up, rfl, hv, hB⟩
        have HB13 := Lib.hid (below2 HB12.out hB)
        replace HT := Lib.hid (HT.out.below hB)
        have HV := Lib.hid (HSL.out _ _ hv (HM.out.below (below2 HB12.out hB)))
        clear hB
        clear hv
        go_wp2_with fail
        refine (KO1.out _ _ HV.out).mono ?_
        rintro e w14 ⟨u, rfl, ho, hB⟩
        obtain ⟨_, _, rfl⟩ := ho.form
        have HB14 := Lib.hid (below2 HB13.out hB)
        replace HT := Lib.hid (HT.out.below hB)
        replace HV := Lib.hid (HV.out.below hB)
        clear hB ho
        go_wp2_with fail
        refine (KL1.out _ _ HV.out).mono ?_
        rintro e w15 ⟨rfl, hB⟩
        have HB15 := Lib.hid (below2 HB14.out hB)
        replace HT := Lib.hid (HT.out.below hB)
        replace HV := Lib.hid (HV.out.below hB)
        clear hB
        go_wp2_with fail
        refine (KO2.out _ _ HT.out).mono ?_
        rintro e w16 ⟨u, rfl, ho, hB⟩
        obtain ⟨_, _, rfl⟩ := ho.form
        have HB16 := Lib.hid (below2 HB15.out hB)
        replace HT := Lib.hid (HT.out.below hB)
        replace HV := Lib.hid (HV.out.below hB)
        clear hB ho
        rw [HNN.out.2]
        go_wp2_with fail
        refine (swept_calls _ (HM.out.below HB16.out)).mono ?_
        rintro e w17 ⟨rfl, hB⟩
        have HB17 := Lib.hid (below2 HB16.out hB)
        replace HT := Lib.hid (HT.out.below hB)
        replace HV := Lib.hid (HV.out.below hB)
        clear hB
        go_wp2_with fail
        refine (HLT.out _ _ HT.out.1).mono ?_
        rintro e w40 ⟨rfl, rfl⟩
        go_wp2_with fail
        go_ret
        exact ⟨rfl, HB17.out⟩
      · have KO := Lib.hid (fun tv W (h : Sto W tv U) => vaOf_calls h n)
        have KL := Lib.hid (fun tv W (h : Sto W tv U) => vaLive_calls h n)
        rw [vaE_one hz, show vaK U n = [] from if_neg hz] at KO
        rw [vaE_one hz, show vaN U n = 0 from if_neg hz] at KL
        clear hz hul
        go_enter Tryz.func7, Tryz.ntmps7
        go_wp2_with fail
        refine KB.out.mono ?_
        rintro e w1 ⟨rfl, rfl⟩
        go_wp2_with fail
        refine KM.out.mono ?_
        rintro e w2 ⟨t, rfl, ht, hB2⟩
        obtain ⟨tp, rfl⟩ := ht.val
        have HT := Lib.hid (HST.out _ _ ht (HM.out.below hB2))
        have HB2 := Lib.hid hB2
        clear ht hB2
        go_wp2_with fail
        refine (KO.out _ _ HT.out).mono ?_
        rintro e w11 ⟨u, rfl, ho, hB⟩
        obtain ⟨_, _, rfl⟩ := ho.form
        have HB11 := Lib.hid (below2 HB2.out hB)
        replace HT := Lib.hid (HT.out.below hB)
        clear hB ho
        go_wp2_with fail
        refine (KL.out _ _ HT.out).mono ?_
        rintro e w12 ⟨rfl, hB⟩
        have HB12 := Lib.hid (below2 HB11.out hB)
        replace HT := Lib.hid (HT.out.below hB)
        clear hB
        go_wp2_with fail
        refine (swept_calls _ (HM.out.below HB12.out)).mono ?_
        rintro e w13 ⟨rfl, hB⟩
        have HB13 := Lib.hid (below2 HB12.out hB)
        replace HT := Lib.hid (HT.out.below hB)
        clear hB
        go_wp2_with fail
        go_ret
        exact ⟨rfl, HB13.out⟩

end Go.Proofs.YtaaabmnaindgaaaGreatDoor
