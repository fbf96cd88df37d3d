/-
  VacuumKeeps: the walk.
-/
import Derived.Test.YtaaabmnaindgaaaGreatDoorPks18
import Derived.Test.YtaaabmnaindgaaaGreatDoorPks15
namespace Go.Proofs.YtaaabmnaindgaaaGreatDoor
set_option maxRecDepth 100000
open Go.RowKit

theorem ents_both {S T : List Ev} {L : List En} (h1 : ens S = L) (h2 : ens T = L) : sameEs (ens S) (ens T) = true := by
  unfold sameEs
  rw [h1, h2]
  simp
set_option maxHeartbeats 32000000 in
theorem vacuumKeeps_walk (v : Value) (S : List Lv) (d : List UInt8) (n m : Int) (w : World) (h : Lds w v S) (hf : FitL S) (hdl : d.length ≤ 9223372036854775807) (hml : Ml w) :
    Calls Tryz.prog 4 #[v, .string ⟨d.toArray⟩, .int .i64 n, .int .i64 m] w fun e w' => e = .returned (.bool true) ∧ Below w.heap.size w w' := by
  obtain ⟨av, cv, rfl⟩ := h.form
  obtain ⟨nl, hnL⟩ : ∃ k, S.length = k := ⟨_, rfl⟩
  have KB := Lib.hid (refL_calls _ S w h hf)
  rw [hnL] at KB ⊢
  cases hb : bigL S with
  | true =>
    rw [hb] at KB
    clear h hf hb hnL
    go_enter Tryz.func4, Tryz.ntmps4
    go_wp2_with fail
    refine KB.out.mono ?_
    rintro e w1 ⟨rfl, rfl⟩
    go_wp2_with fail
    go_ret
    exact ⟨rfl, Below.refl _ _⟩
  | false =>
    obtain ⟨hl20, hls⟩ := bigL_small hb
    rw [hb] at KB
    by_cases hp3 : 300 < d.length
    · have hdp : decide ((300 : Int) < (d.length : Int)) = true := by rw [decide_eq_true_eq]; omega
      clear h hf hb hnL hls hp3
      go_enter Tryz.func4, Tryz.ntmps4
      go_wp2_with fail
      refine KB.out.mono ?_
      rintro e w1 ⟨rfl, rfl⟩
      go_wp2_with fail
      go_ret
      exact ⟨rfl, Below.refl _ _⟩
    · have hdp : decide ((300 : Int) < (d.length : Int)) = false := by rw [decide_eq_false_iff_not]; omega
      by_cases hmw : m < n
      · have hdd : decide (m < n) = true := decide_eq_true hmw
        clear h hf hb hnL hls hmw
        go_enter Tryz.func4, Tryz.ntmps4
        go_wp2_with fail
        refine KB.out.mono ?_
        rintro e w1 ⟨rfl, rfl⟩
        go_wp2_with fail
        go_ret
        exact ⟨rfl, Below.refl _ _⟩
      · have hdd : decide (m < n) = false := decide_eq_false hmw
        have KM := Lib.hid (vaLaid_calls _ S w h hl20 hls hml)
        rw [hnL] at KM
        obtain ⟨hK1, hK2, _⟩ := took_all S
        obtain ⟨hUr, hUs⟩ := pairsK_st hK1
        have hUn := pairsK_len hK1
        have hST : ∀ W tv, TreeV W tv (pairsK (tookS S)) → Ml W → Sto W tv (pairsK (tookS S)) := fun W tv ht hm => pairsK_sto hK1 (by omega) ht hm
        have hul : (pairsK (tookS S)).length ≤ 1000 := by omega
        obtain ⟨U, hU⟩ : ∃ U, pairsK (tookS S) = U := ⟨_, rfl⟩
        have hUF : TimesK (pairsK (tookS S)) ∧ (∀ x ∈ pairsK (tookS S), x.1.1.length ≤ 1000) ∧ (∀ x ∈ pairsK (tookS S), x.2.length ≤ 4611686018427387904) := took_small hK1 (by omega)
        rw [hU] at KM hUr hUs hul hST hUF
        have HST := Lib.hid hST
        have HUF := Lib.hid (And.intro hUF.1 (And.intro hul hUF.2))
        have HUT := Lib.hid (fun x hx => (hUF.1 x hx).2 : Timed U)
        have HUR := Lib.hid hUr
        have HIS := Lib.hid hUs
        have HM := Lib.hid hml
        have HP := Lib.hid (show d.length ≤ 1000000 by omega)
        clear h hf hb hnL hls hUr hUs hUn hU hml hK1 hK2 hl20 hST hUF hp3
        by_cases hz : vaE U n = 0
        · have hle : n ≤ m := by omega
          have hsT : isSt (liveL U n) = true := live_isSt HIS.out n
          have hX : refX (liveL U n) d m = refX U d m := by unfold refX; rw [hsT, HIS.out]
          have hLL : listX (liveL U n) d m = listX U d m := by unfold listX; rw [hX, live_list HUR.out hle]
          have hAA : asX (liveL U n) d m = asX U d m := by unfold asX asL; rw [hsT, HIS.out, live_told HUR.out hle]
          have KR := Lib.hid (fun tv W (h : Sto W tv U) => vaRun_calls h n)
          have KL := Lib.hid (fun tv W (h : Sto W tv U) => listX_calls h d m HP.out)
          have KL1 := Lib.hid (fun tv W (h : Sto W tv (liveL U n)) => listX_calls h d m HP.out)
          have KA := Lib.hid (fun tv W (h : Sto W tv U) => asOfX_calls h d m HP.out)
          have KA1 := Lib.hid (fun tv W (h : Sto W tv (liveL U n)) => asOfX_calls h d m HP.out)
          have KI := Lib.hid (fun tv W (h : Sto W tv (liveL U n)) => soIs_calls h)
          have HSL := Lib.hid (sto_less (T := liveL U n) (fun x hx => live_mem hx) (live_le U n) HUF.out)
          rw [hz, show vaT U n = liveL U n from if_pos hz] at KR
          rw [hX, hLL] at KL1
          rw [hX, hAA] at KA1
          rw [hsT] at KI
          have hch := asX_chunks U d m
          have hlx := listX_facts HUR.out d m
          obtain ⟨⟨q, tm, z, dd, cs⟩, hD⟩ : ∃ x, enD (asX U d m) = x := ⟨_, rfl⟩
          obtain ⟨bo, hbo⟩ : ∃ x, (asX U d m).isSome = x := ⟨_, rfl⟩
          obtain ⟨E, hE⟩ : ∃ x, refX U d m = x := ⟨_, rfl⟩
          obtain ⟨L, hL⟩ : ∃ x, listX U d m = x := ⟨_, rfl⟩
          obtain ⟨M, hM⟩ : ∃ x, vaM U n = x := ⟨_, rfl⟩
          obtain ⟨T, hT⟩ : ∃ x, liveL U n = x := ⟨_, rfl⟩
          rw [hT, hM] at KR
          rw [hT] at KL1 KA1 KI HSL
          rw [hD] at KA KA1 hch
          rw [hbo, hE] at KA KA1
          rw [hE, hL] at KL KL1
          rw [hL] at hlx
          dsimp only [EV] at KA KA1 hch
          have HX := Lib.hid (And.intro (show cs.length ≤ 1000000 by omega) (And.intro hlx (show U.length ≤ 1000 from hul)))
          have eb : (bo == bo) = true := by simp
          have eE : (E == E) = true := by simp
          obtain ⟨nX, hnX⟩ : ∃ k, cs.length = k := ⟨_, rfl⟩
          have HNX := Lib.hid hnX
          clear hz hle hsT hX hLL hAA hch hlx hD hbo hE hL hM hT hnX hul hmw
          go_enter Tryz.func4, Tryz.ntmps4
          go_wp2_with fail
          refine KB.out.mono ?_
          rintro e w1 ⟨rfl, rfl⟩
          go_wp2_with fail
          refine KM.out.mono ?_
          rintro e w2 ⟨t, rfl, ht, hB2⟩
          obtain ⟨tp, rfl⟩ := ht.val
          have HT := Lib.hid (HST.out _ _ ht (HM.out.below hB2))
          have HB2 := Lib.hid hB2
          clear ht hB2
          go_wp2_with fail
          refine (KR.out _ _ HT.out).mono ?_
          rintro e w11 ⟨up, rfl, hv, hB⟩
          have HB11 := Lib.hid (below2 HB2.out hB)
          replace HT := Lib.hid (HT.out.below hB)
          have HV := Lib.hid (HSL.out _ _ hv (HM.out.below (below2 HB2.out hB)))
          clear hB
          clear hv
          go_wp2_with fail
          refine (KL.out _ _ HT.out).mono ?_
          rintro e w12 ⟨u, Sa, rfl, hS, hSe, hB⟩
          obtain ⟨aa, ca, rfl⟩ := hS.form
          have Na := Lib.hid (ents_len hSe)
          rw [Na.out] at hS ⊢
          have La := Lib.hid hS.ents
          have Qa := Lib.hid hSe
          have HB12 := Lib.hid (below2 HB11.out hB)
          replace HT := Lib.hid (HT.out.below hB)
          replace HV := Lib.hid (HV.out.below hB)
          clear hB
          clear hS hSe
          go_wp2_with fail
          refine (KL1.out _ _ HV.out).mono ?_
          rintro e w13 ⟨u, Sb, rfl, hS, hSe, hB⟩
          obtain ⟨ab, cb, rfl⟩ := hS.form
          have Nb := Lib.hid (ents_len hSe)
          rw [Nb.out] at hS ⊢
          have Lb := Lib.hid hS.ents
          have Qb := Lib.hid hSe
          have HB13 := Lib.hid (below2 HB12.out hB)
          replace HT := Lib.hid (HT.out.below hB)
          replace HV := Lib.hid (HV.out.below hB)
          replace La := Lib.hid (La.out.below hB)
          clear hB
          clear hS hSe
          go_wp2_with fail
          refine (KA.out _ _ HT.out).mono ?_
          rintro e w14 ⟨u, rfl, hI, hB⟩
          obtain ⟨ax, cx, rfl⟩ := (ints_own hI).form
          rw [HNX.out] at hI ⊢
          have hba := below_alloc w14 (.cells #[.string ⟨q.toArray⟩, .int .i64 tm, .int .i64 z, .int .i64 dd, .slice ax nX cx] 53)
          replace hB := below2 hB hba
          replace HT := Lib.hid (HT.out.below hB)
          replace HV := Lib.hid (HV.out.below hB)
          replace La := Lib.hid (La.out.below hB)
          replace Lb := Lib.hid (Lb.out.below hB)
          have HB14 := Lib.hid (below2 HB13.out hB)
          have Ix := Lib.hid ((ints_own hI).below hba)
          have Bx := Lib.hid (Cx.new w14 53 [.string ⟨q.toArray⟩, .int .i64 tm, .int .i64 z, .int .i64 dd, .slice ax nX cx])
          clear hB hI hba
          go_wp2_with fail
          refine (KA1.out _ _ HV.out).mono ?_
          rintro e w15 ⟨u, rfl, hI, hB⟩
          obtain ⟨ay, cy, rfl⟩ := (ints_own hI).form
          rw [HNX.out] at hI ⊢
          have hba := below_alloc w15 (.cells #[.string ⟨q.toArray⟩, .int .i64 tm, .int .i64 z, .int .i64 dd, .slice ay nX cy] 53)
          replace hB := below2 hB hba
          replace HT := Lib.hid (HT.out.below hB)
          replace HV := Lib.hid (HV.out.below hB)
          replace La := Lib.hid (La.out.below hB)
          replace Lb := Lib.hid (Lb.out.below hB)
          replace Ix := Lib.hid (Ix.out.below hB)
          replace Bx := Lib.hid (Bx.out.below hB)
          have HB15 := Lib.hid (below2 HB14.out hB)
          have Iy := Lib.hid ((ints_own hI).below hba)
          have By := Lib.hid (Cx.new w15 53 [.string ⟨q.toArray⟩, .int .i64 tm, .int .i64 z, .int .i64 dd, .slice ay nX cy])
          clear hB hI hba
          go_wp2_with fail
          refine (swept_calls _ (HM.out.below HB15.out)).mono ?_
          rintro e w16 ⟨rfl, hB⟩
          have HB16 := Lib.hid (below2 HB15.out hB)
          replace HT := Lib.hid (HT.out.below hB)
          replace HV := Lib.hid (HV.out.below hB)
          replace La := Lib.hid (La.out.below hB)
          replace Lb := Lib.hid (Lb.out.below hB)
          replace Ix := Lib.hid (Ix.out.below hB)
          replace Bx := Lib.hid (Bx.out.below hB)
          replace Iy := Lib.hid (Iy.out.below hB)
          replace By := Lib.hid (By.out.below hB)
          clear hB
          go_wp2_with fail
          have KE := Lib.hid (sameEs_calls _ _ Sa Sb _ La.out Lb.out (ents_chunks Qa.out HX.out.2.1.2) (by have := Na.out; have := HX.out.2.1.1; have := HX.out.2.2; omega))
          rw [ents_both Qa.out Qb.out] at KE
          refine (KE.out).mono ?_
          rintro e w17 ⟨rfl, hB⟩
          have HB17 := Lib.hid (below2 HB16.out hB)
          replace HT := Lib.hid (HT.out.below hB)
          replace HV := Lib.hid (HV.out.below hB)
          replace La := Lib.hid (La.out.below hB)
          replace Lb := Lib.hid (Lb.out.below hB)
          replace Ix := Lib.hid (Ix.out.below hB)
          replace Bx := Lib.hid (Bx.out.below hB)
          replace Iy := Lib.hid (Iy.out.below hB)
          replace By := Lib.hid (By.out.below hB)
          clear hB
          clear KE
          obtain ⟨⟨x0, x1, x2, x3, x4⟩, _, _⟩ := Bx.out.five2
          obtain ⟨⟨y0, y1, y2, y3, y4⟩, _, _⟩ := By.out.five2
          go_wp2_with fail
          have KE := Lib.hid (sameEntry_calls (q, tm, z, dd, cs) (q, tm, z, dd, cs) _ _ _ Ix.out Iy.out HX.out.1)
          rw [sameE_iff.2 rfl] at KE
          dsimp only [EV] at KE
          refine (KE.out).mono ?_
          rintro e w18 ⟨rfl, hB⟩
          have HB18 := Lib.hid (below2 HB17.out hB)
          replace HT := Lib.hid (HT.out.below hB)
          replace HV := Lib.hid (HV.out.below hB)
          replace La := Lib.hid (La.out.below hB)
          replace Lb := Lib.hid (Lb.out.below hB)
          replace Ix := Lib.hid (Ix.out.below hB)
          replace Bx := Lib.hid (Bx.out.below hB)
          replace Iy := Lib.hid (Iy.out.below hB)
          replace By := Lib.hid (By.out.below hB)
          clear hB
          clear KE x0 x1 x2 x3 x4 y0 y1 y2 y3 y4
          go_wp2_with fail
          refine (KI.out _ _ HV.out).mono ?_
          rintro e w19 ⟨rfl, hB⟩
          have HB19 := Lib.hid (below2 HB18.out hB)
          replace HT := Lib.hid (HT.out.below hB)
          replace HV := Lib.hid (HV.out.below hB)
          replace La := Lib.hid (La.out.below hB)
          replace Lb := Lib.hid (Lb.out.below hB)
          replace Ix := Lib.hid (Ix.out.below hB)
          replace Bx := Lib.hid (Bx.out.below hB)
          replace Iy := Lib.hid (Iy.out.below hB)
          replace By := Lib.hid (By.out.below hB)
          clear hB
          go_wp2_with fail
          go_ret
          exact ⟨rfl, HB19.out⟩
        · have hn0 : decide (n < 0) = true := decide_eq_true (by have h3 : ¬ (isSt U = true ∧ 0 ≤ n) := fun h2 => hz (vaE_zero.2 h2); by_cases h0 : n < 0; exact h0; exact absurd ⟨HIS.out, by omega⟩ h3)
          have KR := Lib.hid (fun tv W (h : Sto W tv U) => vaRun_calls h n)
          rw [vaE_one hz] at KR
          obtain ⟨M, hM⟩ : ∃ x, vaM U n = x := ⟨_, rfl⟩
          rw [hM] at KR
          clear hz hM hul
          clear hmw
          go_enter Tryz.func4, Tryz.ntmps4
          go_wp2_with fail
          refine KB.out.mono ?_
          rintro e w1 ⟨rfl, rfl⟩
          go_wp2_with fail
          refine KM.out.mono ?_
          rintro e w2 ⟨t, rfl, ht, hB2⟩
          obtain ⟨tp, rfl⟩ := ht.val
          have HT := Lib.hid (HST.out _ _ ht (HM.out.below hB2))
          have HB2 := Lib.hid hB2
          clear ht hB2
          go_wp2_with fail
          refine (KR.out _ _ HT.out).mono ?_
          rintro e w11 ⟨up, rfl, hv, hB⟩
          have HB11 := Lib.hid (below2 HB2.out hB)
          replace HT := Lib.hid (HT.out.below hB)
          clear hB
          clear hv
          go_wp2_with fail
          refine (swept_calls _ (HM.out.below HB11.out)).mono ?_
          rintro e w12 ⟨rfl, hB⟩
          have HB12 := Lib.hid (below2 HB11.out hB)
          replace HT := Lib.hid (HT.out.below hB)
          clear hB
          go_wp2_with fail
          go_ret
          exact ⟨rfl, HB12.out⟩

end Go.Proofs.YtaaabmnaindgaaaGreatDoor
