/-
  DiffBack: the walk.
-/
import Derived.Test.YtogicnciheedoaaGreatDoorPks16a
import Derived.Test.YtogicnciheedoaaGreatDoorPks16b
import Derived.Test.YtogicnciheedoaaGreatDoorPks16c
namespace Go.Proofs.YtogicnciheedoaaGreatDoor
set_option maxRecDepth 100000
open Go.RowKit

set_option maxHeartbeats 32000000 in
theorem diffBack_walk (v : Value) (S : List Lv) (d : List UInt8) (m n : Int) (w : World) (h : Lds w v S) (hf : FitL S) (hdl : d.length ≤ 9223372036854775807) (hml : Ml w) (hki : KiOk w) :
    Calls Tryz.prog 4 #[v, .string ⟨d.toArray⟩, .int .i64 m, .int .i64 n] w fun e w' => e = .returned (.bool true) ∧ Below w.heap.size w w' := by
  obtain ⟨av, cv, rfl⟩ := h.form
  obtain ⟨nl, hnL⟩ : ∃ k, S.length = k := ⟨_, rfl⟩
  have KB := Lib.hid (refL_calls _ S w h hf)
  rw [hnL] at KB ⊢
  cases hb : bigL S with
  | true =>
    rw [hb] at KB
    clear h hf hb hnL
    go_enter Tryz.func4, Tryz.ntmps4
    go_wp2_with fail
    refine KB.out.mono ?_
    rintro e w1 ⟨rfl, rfl⟩
    go_wp2_with fail
    go_ret
    exact ⟨rfl, Below.refl _ _⟩
  | false =>
    obtain ⟨hl20, hls⟩ := bigL_small hb
    rw [hb] at KB
    by_cases hp3 : 300 < d.length
    · have hdd : decide ((300 : Int) < (d.length : Int)) = true := by rw [decide_eq_true_eq]; omega
      clear h hf hb hnL hls hp3
      go_enter Tryz.func4, Tryz.ntmps4
      go_wp2_with fail
      refine KB.out.mono ?_
      rintro e w1 ⟨rfl, rfl⟩
      go_wp2_with fail
      go_ret
      exact ⟨rfl, Below.refl _ _⟩
    · have hdd : decide ((300 : Int) < (d.length : Int)) = false := by rw [decide_eq_false_iff_not]; omega
      have KL := Lib.hid (diLaid_calls _ S w h hl20 hls hml)
      rw [hnL] at KL
      obtain ⟨hK1, hK2, _⟩ := took_all S
      obtain ⟨hUr, hUs⟩ := pairsK_st hK1
      have hUn := pairsK_len hK1
      have HST : Hid (∀ W tv, TreeV W tv (pairsK (tookS S)) → Ml W → Sto W tv (pairsK (tookS S))) := Lib.hid (fun W tv ht hm => pairsK_sto hK1 (by omega) ht hm)
      have hUn1 : (pairsK (tookS S)).length ≤ 1000 := by omega
      obtain ⟨U, hU⟩ : ∃ U, pairsK (tookS S) = U := ⟨_, rfl⟩
      rw [hU] at KL hUr hUs hUn1 HST
      have HU := Lib.hid (And.intro hUr hUn1)
      have HP := Lib.hid (show d.length ≤ 1000000 by omega)
      have HM := Lib.hid (And.intro hml hki)
      have HLEN := Lib.hid (fun (p : List UInt8) (m n : Int) => ofX_len (U := U) (d := p) (fun n => Nat.le_trans (listX_facts hUr p n).1 HU.out.2) m n)
      clear h hf hb hnL hls hUr hUs hUn hUn1 hU hml hki hp3 hK1 hK2 hl20
      go_enter Tryz.func4, Tryz.ntmps4
      go_wp2_with fail
      refine KB.out.mono ?_
      rintro e w1 ⟨rfl, rfl⟩
      go_wp2_with fail
      refine KL.out.mono ?_
      rintro e w2 ⟨t, rfl, ht, hB2⟩
      obtain ⟨tp, rfl⟩ := ht.val
      have HT := Lib.hid (And.intro (HST.out _ _ ht (HM.out.1.below hB2)) hB2)
      clear ht hB2
      go_wp2_with fail
      refine (of_calls HT.out.1 d m n HP.out).mono ?_
      rintro e w11 ⟨u, rfl, ho, hB⟩
      obtain ⟨_, _, rfl⟩ := ho.form
      have HB11 := Lib.hid (below2 HT.out.2 hB)
      have HS11 := Lib.hid (HT.out.1.below hB)
      have RA := Lib.hid (ho.row)
      clear hB ho
      go_wp2_with fail
      refine (of_calls HS11.out d n m HP.out).mono ?_
      rintro e w12 ⟨u, rfl, ho, hB⟩
      obtain ⟨_, _, rfl⟩ := ho.form
      have HB12 := Lib.hid (below2 HB11.out hB)
      have HS12 := Lib.hid (HS11.out.below hB)
      replace RA := Lib.hid (RA.out.below hB)
      have RB := Lib.hid (ho.row)
      clear hB ho
      go_wp2_with fail
      refine (of_calls HS12.out d m m HP.out).mono ?_
      rintro e w13 ⟨u, rfl, ho, hB⟩
      obtain ⟨_, _, rfl⟩ := ho.form
      have HB13 := Lib.hid (below2 HB12.out hB)
      have HS13 := Lib.hid (HS12.out.below hB)
      replace RA := Lib.hid (RA.out.below hB)
      replace RB := Lib.hid (RB.out.below hB)
      have RC := Lib.hid (ho.row)
      clear hB ho
      by_cases h0 : ofE U d m n = 0
      · obtain ⟨hk1, hk2, hk3⟩ := ofX_back HU.out.1 d m n h0
        have h1 : ofE U d n m = 0 := ofE_zero.2 ⟨(ofE_zero.1 h0).2, (ofE_zero.1 h0).1⟩
        have hk4 := (ofX_back HU.out.1 d n m h1).1
        rw [hk2] at RC
        rw [h0, h1, hk3, hk2]
        have HK1 := Lib.hid hk1
        have HK4 := Lib.hid hk4
        clear hk1 hk2 hk3 hk4 h0 h1
        go_wp2_with fail
        refine (diffs_calls _ (HM.out.2.below HB13.out)).mono ?_
        rintro e w14 ⟨rfl, hB⟩
        have HB14 := Lib.hid (below2 HB13.out hB)
        have HS14 := Lib.hid (HS13.out.below hB)
        replace RA := Lib.hid (RA.out.below hB)
        replace RB := Lib.hid (RB.out.below hB)
        replace RC := Lib.hid (RC.out.below hB)
        clear hB
        go_wp2_with fail
        refine (back_calls _ (ofX U d m n) _ RA.out (Nat.le_trans (HLEN.out d m n) (by decide)) (ofX_kinds U d m n) (HM.out.2.below HB14.out)).mono ?_
        rintro e w15 ⟨u, rfl, ho, hB⟩
        obtain ⟨_, _, rfl⟩ := ho.form
        have HB15 := Lib.hid (below2 HB14.out hB)
        have HS15 := Lib.hid (HS14.out.below hB)
        replace RA := Lib.hid (RA.out.below hB)
        replace RB := Lib.hid (RB.out.below hB)
        replace RC := Lib.hid (RC.out.below hB)
        have RD := Lib.hid (ho.row)
        clear hB ho
        rw [HK1.out] at RD ⊢
        go_wp2_with fail
        refine (refDsame_self _ _ (ofX U d n m) _ RD.out RB.out (Nat.le_trans (HLEN.out d n m) (by decide))).mono ?_
        rintro e w16 ⟨rfl, hB⟩
        have HB16 := Lib.hid (below2 HB15.out hB)
        have HS16 := Lib.hid (HS15.out.below hB)
        replace RA := Lib.hid (RA.out.below hB)
        replace RB := Lib.hid (RB.out.below hB)
        replace RC := Lib.hid (RC.out.below hB)
        replace RD := Lib.hid (RD.out.below hB)
        clear hB
        go_wp2_with fail
        refine (back_calls _ (ofX U d n m) _ RB.out (Nat.le_trans (HLEN.out d n m) (by decide)) (ofX_kinds U d n m) (HM.out.2.below HB16.out)).mono ?_
        rintro e w17 ⟨u, rfl, ho, hB⟩
        obtain ⟨_, _, rfl⟩ := ho.form
        have HB17 := Lib.hid (below2 HB16.out hB)
        have HS17 := Lib.hid (HS16.out.below hB)
        replace RA := Lib.hid (RA.out.below hB)
        replace RB := Lib.hid (RB.out.below hB)
        replace RC := Lib.hid (RC.out.below hB)
        replace RD := Lib.hid (RD.out.below hB)
        have RE := Lib.hid (ho.row)
        clear hB ho
        rw [HK4.out] at RE ⊢
        go_wp2_with fail
        refine (refDsame_self _ _ (ofX U d m n) _ RE.out RA.out (Nat.le_trans (HLEN.out d m n) (by decide))).mono ?_
        rintro e w18 ⟨rfl, hB⟩
        have HB18 := Lib.hid (below2 HB17.out hB)
        have HS18 := Lib.hid (HS17.out.below hB)
        replace RA := Lib.hid (RA.out.below hB)
        replace RB := Lib.hid (RB.out.below hB)
        replace RC := Lib.hid (RC.out.below hB)
        replace RD := Lib.hid (RD.out.below hB)
        replace RE := Lib.hid (RE.out.below hB)
        clear hB
        go_wp2_with fail
        refine (refRisingD_calls _ (ofX U d m n) _ RA.out (Nat.le_trans (HLEN.out d m n) (by decide))).mono ?_
        rintro e w19 ⟨B, rfl, hBB, hB⟩
        have HB19 := Lib.hid (below2 HB18.out hB)
        have HS19 := Lib.hid (HS18.out.below hB)
        replace RA := Lib.hid (RA.out.below hB)
        replace RB := Lib.hid (RB.out.below hB)
        replace RC := Lib.hid (RC.out.below hB)
        replace RD := Lib.hid (RD.out.below hB)
        replace RE := Lib.hid (RE.out.below hB)
        clear hB
        obtain rfl : B = true := hBB.2 ⟨ofX_rise HU.out.1 d m n, ofX_kinds U d m n⟩
        clear hBB
        go_wp2_with fail
        go_ret
        exact ⟨rfl, HB19.out⟩
      · have h1 : ofE U d n m ≠ 0 := fun e => h0 (ofE_zero.2 ⟨(ofE_zero.1 e).2, (ofE_zero.1 e).1⟩)
        have hX0 : ofX U d m n = [] := if_neg h0
        have hX1 : ofX U d n m = [] := if_neg h1
        rw [hX0, hX1]
        have e1 : (ofE U d m n == 0) = false := by rw [beq_eq_false_iff_ne]; exact h0
        generalize ofE U d m n = E1 at *
        generalize ofE U d n m = E2 at *
        generalize ofE U d m m = E3 at *
        clear h0 h1 hX0 hX1
        go_wp2_with fail
        refine (diffs_calls _ (HM.out.2.below HB13.out)).mono ?_
        rintro e w14 ⟨rfl, hB⟩
        have HB14 := Lib.hid (below2 HB13.out hB)
        have HS14 := Lib.hid (HS13.out.below hB)
        clear hB
        go_wp2_with fail
        go_ret
        exact ⟨rfl, HB14.out⟩

end Go.Proofs.YtogicnciheedoaaGreatDoor
