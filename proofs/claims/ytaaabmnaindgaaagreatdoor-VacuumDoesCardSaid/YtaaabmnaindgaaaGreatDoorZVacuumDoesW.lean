/-
  VacuumDoes: the walk.
-/
import Derived.Test.YtaaabmnaindgaaaGreatDoorPks18
import Derived.Test.YtaaabmnaindgaaaGreatDoorPks09
namespace Go.Proofs.YtaaabmnaindgaaaGreatDoor
set_option maxRecDepth 100000
open Go.RowKit

set_option maxHeartbeats 32000000 in
theorem vacuumDoes_walk (v : Value) (l : List Pr) (n : Int) (w : World) (h : Prs w v l) (hnl : l.length ≤ 9223372036854775807) (hti : TimesK l) (hml : Ml w) :
    Calls Tryz.prog 3 #[v, .int .i64 n] w fun e w' => e = .returned (.bool true) ∧ Below w.heap.size w w' := by
  obtain ⟨av, cv, rfl⟩ := h.form
  obtain ⟨nl, hnL⟩ : ∃ k, l.length = k := ⟨_, rfl⟩
  have KB := Lib.hid (big_calls _ l w h hnl)
  rw [hnL] at KB ⊢
  cases hb : bigP l with
  | true =>
    rw [hb] at KB
    clear h hti hb hnL
    go_enter Tryz.func3, Tryz.ntmps3
    go_wp2_with fail
    refine KB.out.mono ?_
    rintro e w1 ⟨rfl, rfl⟩
    go_wp2_with fail
    go_ret
    exact ⟨rfl, Below.refl _ _⟩
  | false =>
    obtain ⟨hl80, hls⟩ := bigP_small hb
    rw [hb] at KB
    have KM := Lib.hid (vaMade_calls _ l w h (by omega))
    rw [hnL] at KM
    obtain ⟨hUr, hUl, hUm⟩ := made_facts l
    obtain ⟨U, hU⟩ : ∃ U, madeL l = U := ⟨_, rfl⟩
    rw [hU] at KM hUr hUl hUm
    have hUt : TimesK U := fun x hx => hti x (hUm x hx)
    have hUs : ∀ x ∈ U, x.1.1.length ≤ 1000 ∧ x.2.length ≤ 1000 := fun x hx => by have := hls x (hUm x hx); omega
    have HST : Hid (∀ W tv, TreeV W tv U → Ml W → Sto W tv U) := Lib.hid (fun W tv ht hm => ⟨ht, hUt, by omega, fun x hx => (hUs x hx).1, fun x hx => Nat.le_trans (hUs x hx).2 (by decide), hm⟩)
    have HUF := Lib.hid (And.intro hUt (And.intro (show U.length ≤ 1000 by omega) (And.intro (fun x hx => (hUs x hx).1 : ∀ x ∈ U, x.1.1.length ≤ 1000) (fun x hx => Nat.le_trans (hUs x hx).2 (by decide) : ∀ x ∈ U, x.2.length ≤ 4611686018427387904))))
    have HUS := Lib.hid (fun x hx => ⟨Nat.le_trans (hUs x hx).1 (by decide), (hUs x hx).2⟩ : ∀ x ∈ U, x.1.1.length ≤ 1000000 ∧ x.2.length ≤ 1000)
    have HUT := Lib.hid (fun x hx => (hUt x hx).2 : Timed U)
    have HUR := Lib.hid hUr
    have hul : U.length ≤ 1000 := by omega
    have HM := Lib.hid hml
    clear h hti hb hnL hls hUr hUl hUm hUt hUs hU hml
    have hKL := vaK_len U n
    have hTL := vaT_le U n
    have hTM := fun x (hx : x ∈ vaT U n) => HUT.out x (vaT_mem hx)
    have KO := Lib.hid (fun tv W (h : Sto W tv U) => vaOf_calls h n)
    have KRO := Lib.hid (fun v W (h : Prs W v U) => vaRefOf_calls v U n W h hul HUS.out)
    have KR := Lib.hid (fun tv W (h : Sto W tv U) => vaRun_calls h n)
    have KRR := Lib.hid (fun v W (h : Prs W v U) => vaRefRun_calls v U n W h hul HUS.out)
    have KL := Lib.hid (fun tv W (h : Sto W tv U) => vaLive_calls h n)
    have KRL := Lib.hid (fun v W (h : Prs W v U) => vaRefLive_calls v U n W h hul HUS.out)
    obtain ⟨A, hA⟩ : ∃ x, vaK U n = x := ⟨_, rfl⟩
    rw [hA] at KO KRO hKL
    obtain ⟨T, hT⟩ : ∃ x, vaT U n = x := ⟨_, rfl⟩
    rw [hT] at KR KRR hTL hTM
    obtain ⟨M, hM⟩ : ∃ x, vaM U n = x := ⟨_, rfl⟩
    rw [hM] at KR KRR
    obtain ⟨N, hN⟩ : ∃ x, vaN U n = x := ⟨_, rfl⟩
    rw [hN] at KL KRL
    have HKL := Lib.hid (show A.length ≤ 1000000 by omega)
    have HTL := Lib.hid (show T.length ≤ 100000 by omega)
    have HTT := Lib.hid (hTM : Timed T)
    have HUL := Lib.hid (show U.length ≤ 100000 by omega)
    have eM : ((M : Int) == (M : Int)) = true := by simp
    have eN : ((N : Int) == (N : Int)) = true := by simp
    clear hKL hTL hTM hA hT hM hN hul
    by_cases hz : vaE U n = 0
    · rw [hz] at KO KRO KR KRR KL KRL
      clear hz
      go_enter Tryz.func3, Tryz.ntmps3
      go_wp2_with fail
      refine KB.out.mono ?_
      rintro e w1 ⟨rfl, rfl⟩
      go_wp2_with fail
      refine KM.out.mono ?_
      rintro e w2 ⟨t, rfl, ht, hB2⟩
      obtain ⟨tp, rfl⟩ := ht.val
      have HT := Lib.hid (HST.out _ _ ht (HM.out.below hB2))
      have HB2 := Lib.hid hB2
      clear ht hB2
      go_wp2_with fail
      refine (all_calls _ U _ HT.out.1 HUL.out HUT.out).mono ?_
      rintro e w11 ⟨u, rfl, ho, hB⟩
      obtain ⟨_, _, rfl⟩ := ho.form
      have HB11 := Lib.hid (below2 HB2.out hB)
      replace HT := Lib.hid (HT.out.below hB)
      have HA := Lib.hid (ho.prs)
      clear hB ho
      go_wp2_with fail
      refine (KO.out _ _ HT.out).mono ?_
      rintro e w12 ⟨u, rfl, ho, hB⟩
      obtain ⟨_, _, rfl⟩ := ho.form
      have HB12 := Lib.hid (below2 HB11.out hB)
      replace HT := Lib.hid (HT.out.below hB)
      replace HA := Lib.hid (HA.out.below hB)
      have RA := Lib.hid (ho.row)
      clear hB ho
      go_wp2_with fail
      refine (KRO.out _ _ HA.out).mono ?_
      rintro e w13 ⟨u, rfl, ho, hB⟩
      obtain ⟨_, _, rfl⟩ := ho.form
      have HB13 := Lib.hid (below2 HB12.out hB)
      replace HT := Lib.hid (HT.out.below hB)
      replace HA := Lib.hid (HA.out.below hB)
      replace RA := Lib.hid (RA.out.below hB)
      have RB := Lib.hid (ho.row)
      clear hB ho
      go_wp2_with fail
      refine (KR.out _ _ HT.out).mono ?_
      rintro e w14 ⟨up, rfl, hv, hB⟩
      have HB14 := Lib.hid (below2 HB13.out hB)
      replace HT := Lib.hid (HT.out.below hB)
      replace HA := Lib.hid (HA.out.below hB)
      replace RA := Lib.hid (RA.out.below hB)
      replace RB := Lib.hid (RB.out.below hB)
      have HV := Lib.hid (hv)
      clear hB
      clear hv
      go_wp2_with fail
      refine (KRR.out _ _ HA.out).mono ?_
      rintro e w15 ⟨u, rfl, ho, hB⟩
      obtain ⟨_, _, rfl⟩ := ho.form
      have HB15 := Lib.hid (below2 HB14.out hB)
      replace HT := Lib.hid (HT.out.below hB)
      replace HA := Lib.hid (HA.out.below hB)
      replace RA := Lib.hid (RA.out.below hB)
      replace RB := Lib.hid (RB.out.below hB)
      replace HV := Lib.hid (HV.out.below hB)
      have RV := Lib.hid (ho.prs)
      clear hB ho
      go_wp2_with fail
      refine (KL.out _ _ HT.out).mono ?_
      rintro e w16 ⟨rfl, hB⟩
      have HB16 := Lib.hid (below2 HB15.out hB)
      replace HT := Lib.hid (HT.out.below hB)
      replace HA := Lib.hid (HA.out.below hB)
      replace RA := Lib.hid (RA.out.below hB)
      replace RB := Lib.hid (RB.out.below hB)
      replace HV := Lib.hid (HV.out.below hB)
      replace RV := Lib.hid (RV.out.below hB)
      clear hB
      go_wp2_with fail
      refine (KRL.out _ _ HA.out).mono ?_
      rintro e w17 ⟨rfl, hB⟩
      have HB17 := Lib.hid (below2 HB16.out hB)
      replace HT := Lib.hid (HT.out.below hB)
      replace HA := Lib.hid (HA.out.below hB)
      replace RA := Lib.hid (RA.out.below hB)
      replace RB := Lib.hid (RB.out.below hB)
      replace HV := Lib.hid (HV.out.below hB)
      replace RV := Lib.hid (RV.out.below hB)
      clear hB
      go_wp2_with fail
      refine (swept_calls _ (HM.out.below HB17.out)).mono ?_
      rintro e w18 ⟨rfl, hB⟩
      have HB18 := Lib.hid (below2 HB17.out hB)
      replace HT := Lib.hid (HT.out.below hB)
      replace HA := Lib.hid (HA.out.below hB)
      replace RA := Lib.hid (RA.out.below hB)
      replace RB := Lib.hid (RB.out.below hB)
      replace HV := Lib.hid (HV.out.below hB)
      replace RV := Lib.hid (RV.out.below hB)
      clear hB
      go_wp2_with fail
      refine (refKksame_self _ _ A _ RA.out RB.out HKL.out).mono ?_
      rintro e w19 ⟨rfl, hB⟩
      have HB19 := Lib.hid (below2 HB18.out hB)
      replace HT := Lib.hid (HT.out.below hB)
      replace HA := Lib.hid (HA.out.below hB)
      replace RA := Lib.hid (RA.out.below hB)
      replace RB := Lib.hid (RB.out.below hB)
      replace HV := Lib.hid (HV.out.below hB)
      replace RV := Lib.hid (RV.out.below hB)
      clear hB
      go_wp2_with fail
      refine (all_calls _ T _ HV.out HTL.out HTT.out).mono ?_
      rintro e w20 ⟨u, rfl, ho, hB⟩
      obtain ⟨_, _, rfl⟩ := ho.form
      have HB20 := Lib.hid (below2 HB19.out hB)
      replace HT := Lib.hid (HT.out.below hB)
      replace HA := Lib.hid (HA.out.below hB)
      replace RA := Lib.hid (RA.out.below hB)
      replace RB := Lib.hid (RB.out.below hB)
      replace HV := Lib.hid (HV.out.below hB)
      replace RV := Lib.hid (RV.out.below hB)
      have RU := Lib.hid (ho.prs)
      clear hB ho
      go_wp2_with fail
      refine (vaSame_self _ _ T _ RU.out RV.out HTL.out).mono ?_
      rintro e w21 ⟨rfl, hB⟩
      have HB21 := Lib.hid (below2 HB20.out hB)
      replace HT := Lib.hid (HT.out.below hB)
      replace HA := Lib.hid (HA.out.below hB)
      replace RA := Lib.hid (RA.out.below hB)
      replace RB := Lib.hid (RB.out.below hB)
      replace HV := Lib.hid (HV.out.below hB)
      replace RV := Lib.hid (RV.out.below hB)
      replace RU := Lib.hid (RU.out.below hB)
      clear hB
      go_wp2_with fail
      refine (all_calls _ U _ HT.out.1 HUL.out HUT.out).mono ?_
      rintro e w22 ⟨u, rfl, ho, hB⟩
      obtain ⟨_, _, rfl⟩ := ho.form
      have HB22 := Lib.hid (below2 HB21.out hB)
      replace HT := Lib.hid (HT.out.below hB)
      replace HA := Lib.hid (HA.out.below hB)
      replace RA := Lib.hid (RA.out.below hB)
      replace RB := Lib.hid (RB.out.below hB)
      replace HV := Lib.hid (HV.out.below hB)
      replace RV := Lib.hid (RV.out.below hB)
      replace RU := Lib.hid (RU.out.below hB)
      have RW := Lib.hid (ho.prs)
      clear hB ho
      go_wp2_with fail
      refine (vaSame_self _ _ U _ RW.out HA.out HUL.out).mono ?_
      rintro e w23 ⟨rfl, hB⟩
      have HB23 := Lib.hid (below2 HB22.out hB)
      replace HT := Lib.hid (HT.out.below hB)
      replace HA := Lib.hid (HA.out.below hB)
      replace RA := Lib.hid (RA.out.below hB)
      replace RB := Lib.hid (RB.out.below hB)
      replace HV := Lib.hid (HV.out.below hB)
      replace RV := Lib.hid (RV.out.below hB)
      replace RU := Lib.hid (RU.out.below hB)
      replace RW := Lib.hid (RW.out.below hB)
      clear hB
      go_wp2_with fail
      go_ret
      exact ⟨rfl, HB23.out⟩
    · rw [vaE_one hz] at KO KRO KR KRR KL KRL
      clear hz
      go_enter Tryz.func3, Tryz.ntmps3
      go_wp2_with fail
      refine KB.out.mono ?_
      rintro e w1 ⟨rfl, rfl⟩
      go_wp2_with fail
      refine KM.out.mono ?_
      rintro e w2 ⟨t, rfl, ht, hB2⟩
      obtain ⟨tp, rfl⟩ := ht.val
      have HT := Lib.hid (HST.out _ _ ht (HM.out.below hB2))
      have HB2 := Lib.hid hB2
      clear ht hB2
      go_wp2_with fail
      refine (all_calls _ U _ HT.out.1 HUL.out HUT.out).mono ?_
      rintro e w11 ⟨u, rfl, ho, hB⟩
      obtain ⟨_, _, rfl⟩ := ho.form
      have HB11 := Lib.hid (below2 HB2.out hB)
      replace HT := Lib.hid (HT.out.below hB)
      have HA := Lib.hid (ho.prs)
      clear hB ho
      go_wp2_with fail
      refine (KO.out _ _ HT.out).mono ?_
      rintro e w12 ⟨u, rfl, ho, hB⟩
      obtain ⟨_, _, rfl⟩ := ho.form
      have HB12 := Lib.hid (below2 HB11.out hB)
      replace HT := Lib.hid (HT.out.below hB)
      replace HA := Lib.hid (HA.out.below hB)
      have RA := Lib.hid (ho.row)
      clear hB ho
      go_wp2_with fail
      refine (KRO.out _ _ HA.out).mono ?_
      rintro e w13 ⟨u, rfl, ho, hB⟩
      obtain ⟨_, _, rfl⟩ := ho.form
      have HB13 := Lib.hid (below2 HB12.out hB)
      replace HT := Lib.hid (HT.out.below hB)
      replace HA := Lib.hid (HA.out.below hB)
      replace RA := Lib.hid (RA.out.below hB)
      have RB := Lib.hid (ho.row)
      clear hB ho
      go_wp2_with fail
      refine (KR.out _ _ HT.out).mono ?_
      rintro e w14 ⟨up, rfl, hv, hB⟩
      have HB14 := Lib.hid (below2 HB13.out hB)
      replace HT := Lib.hid (HT.out.below hB)
      replace HA := Lib.hid (HA.out.below hB)
      replace RA := Lib.hid (RA.out.below hB)
      replace RB := Lib.hid (RB.out.below hB)
      have HV := Lib.hid (hv)
      clear hB
      clear hv
      go_wp2_with fail
      refine (KRR.out _ _ HA.out).mono ?_
      rintro e w15 ⟨u, rfl, ho, hB⟩
      obtain ⟨_, _, rfl⟩ := ho.form
      have HB15 := Lib.hid (below2 HB14.out hB)
      replace HT := Lib.hid (HT.out.below hB)
      replace HA := Lib.hid (HA.out.below hB)
      replace RA := Lib.hid (RA.out.below hB)
      replace RB := Lib.hid (RB.out.below hB)
      replace HV := Lib.hid (HV.out.below hB)
      have RV := Lib.hid (ho.prs)
      clear hB ho
      go_wp2_with fail
      refine (KL.out _ _ HT.out).mono ?_
      rintro e w16 ⟨rfl, hB⟩
      have HB16 := Lib.hid (below2 HB15.out hB)
      replace HT := Lib.hid (HT.out.below hB)
      replace HA := Lib.hid (HA.out.below hB)
      replace RA := Lib.hid (RA.out.below hB)
      replace RB := Lib.hid (RB.out.below hB)
      replace HV := Lib.hid (HV.out.below hB)
      replace RV := Lib.hid (RV.out.below hB)
      clear hB
      go_wp2_with fail
      refine (KRL.out _ _ HA.out).mono ?_
      rintro e w17 ⟨rfl, hB⟩
      have HB17 := Lib.hid (below2 HB16.out hB)
      replace HT := Lib.hid (HT.out.below hB)
      replace HA := Lib.hid (HA.out.below hB)
      replace RA := Lib.hid (RA.out.below hB)
      replace RB := Lib.hid (RB.out.below hB)
      replace HV := Lib.hid (HV.out.below hB)
      replace RV := Lib.hid (RV.out.below hB)
      clear hB
      go_wp2_with fail
      refine (swept_calls _ (HM.out.below HB17.out)).mono ?_
      rintro e w18 ⟨rfl, hB⟩
      have HB18 := Lib.hid (below2 HB17.out hB)
      replace HT := Lib.hid (HT.out.below hB)
      replace HA := Lib.hid (HA.out.below hB)
      replace RA := Lib.hid (RA.out.below hB)
      replace RB := Lib.hid (RB.out.below hB)
      replace HV := Lib.hid (HV.out.below hB)
      replace RV := Lib.hid (RV.out.below hB)
      clear hB
      go_wp2_with fail
      refine (refKksame_self _ _ A _ RA.out RB.out HKL.out).mono ?_
      rintro e w19 ⟨rfl, hB⟩
      have HB19 := Lib.hid (below2 HB18.out hB)
      replace HT := Lib.hid (HT.out.below hB)
      replace HA := Lib.hid (HA.out.below hB)
      replace RA := Lib.hid (RA.out.below hB)
      replace RB := Lib.hid (RB.out.below hB)
      replace HV := Lib.hid (HV.out.below hB)
      replace RV := Lib.hid (RV.out.below hB)
      clear hB
      go_wp2_with fail
      refine (all_calls _ U _ HT.out.1 HUL.out HUT.out).mono ?_
      rintro e w20 ⟨u, rfl, ho, hB⟩
      obtain ⟨_, _, rfl⟩ := ho.form
      have HB20 := Lib.hid (below2 HB19.out hB)
      replace HT := Lib.hid (HT.out.below hB)
      replace HA := Lib.hid (HA.out.below hB)
      replace RA := Lib.hid (RA.out.below hB)
      replace RB := Lib.hid (RB.out.below hB)
      replace HV := Lib.hid (HV.out.below hB)
      replace RV := Lib.hid (RV.out.below hB)
      have RW := Lib.hid (ho.prs)
      clear hB ho
      go_wp2_with fail
      refine (vaSame_self _ _ U _ RW.out HA.out HUL.out).mono ?_
      rintro e w21 ⟨rfl, hB⟩
      have HB21 := Lib.hid (below2 HB20.out hB)
      replace HT := Lib.hid (HT.out.below hB)
      replace HA := Lib.hid (HA.out.below hB)
      replace RA := Lib.hid (RA.out.below hB)
      replace RB := Lib.hid (RB.out.below hB)
      replace HV := Lib.hid (HV.out.below hB)
      replace RV := Lib.hid (RV.out.below hB)
      replace RW := Lib.hid (RW.out.below hB)
      clear hB
      go_wp2_with fail
      go_ret
      exact ⟨rfl, HB21.out⟩

end Go.Proofs.YtaaabmnaindgaaaGreatDoor
