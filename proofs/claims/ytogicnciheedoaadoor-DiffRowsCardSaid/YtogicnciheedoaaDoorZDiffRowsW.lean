/-
  DiffRows: the walk.
-/
import Derived.Test.YtogicnciheedoaaDoorPks16a
import Derived.Test.YtogicnciheedoaaDoorPks16b
import Derived.Test.YtogicnciheedoaaDoorPks16c
import Derived.Test.YtogicnciheedoaaDoorPks16d
namespace Go.Proofs.YtogicnciheedoaaDoor
set_option maxRecDepth 100000
open Go.RowKit

set_option maxHeartbeats 32000000 in
theorem diffRows_walk (va : Value) (A : List Ev) (vb : Value) (B : List Ev) (vx : Value) (X : List Dl) (vy : Value) (Y : List Dl) (w : World) (ha : Ents w va A) (hb : Ents w vb B) (hx : Dls w vx X) (hlx : X.length ≤ 9223372036854775807) (hy : Dls w vy Y) (hly : Y.length ≤ 9223372036854775807) (hki : KiOk w) :
    Calls Tryd.prog 3 #[va, vb, vx, vy] w fun e w' => e = .returned (.bool true) ∧ Below w.heap.size w w' := by
  obtain ⟨aa, ca, rfl⟩ := ha.form
  obtain ⟨ab, cb, rfl⟩ := hb.form
  obtain ⟨ax, cx, rfl⟩ := hx.form
  obtain ⟨ay, cy, rfl⟩ := hy.form
  obtain ⟨nA, hnA⟩ : ∃ n, A.length = n := ⟨_, rfl⟩
  obtain ⟨nB, hnB⟩ : ∃ n, B.length = n := ⟨_, rfl⟩
  obtain ⟨nX, hnX⟩ : ∃ n, X.length = n := ⟨_, rfl⟩
  obtain ⟨nY, hnY⟩ : ∃ n, Y.length = n := ⟨_, rfl⟩
  rw [hnA] at ha ⊢
  rw [hnB] at hb ⊢
  rw [hnX] at hx hlx ⊢
  rw [hnY] at hy hly ⊢
  have HA := Lib.hid (And.intro ha hnA)
  have HB := Lib.hid (And.intro hb hnB)
  have HX := Lib.hid (And.intro hx hnX)
  have HY := Lib.hid (And.intro hy hnY)
  have HK := Lib.hid hki
  have KD := Lib.hid (fun W (hW : Below w.heap.size w W) => diffs_calls W (hki.below hW))
  have KFa := Lib.hid (dfar_calls _ A w ha)
  have KFb := Lib.hid (dfar_calls _ B w hb)
  clear ha hb hx hy hnA hnB hnX hnY hki
  go_enter Tryd.func3, Tryd.ntmps3
  go_wp2_with fail
  refine KFa.out.mono ?_
  rintro e w1 ⟨B1, rfl, hF1, rfl⟩
  cases B1 with
  | true =>
    clear hF1
    go_wp2_with fail
    refine (KD.out _ (Below.refl _ _)).mono ?_
    rintro e w9 ⟨rfl, hB9⟩
    go_wp2_with fail
    go_ret
    exact ⟨rfl, below2 (Below.refl _ _) hB9⟩
  | false =>
    have HF1 := Lib.hid (hF1 rfl)
    clear hF1
    go_wp2_with fail
    refine KFb.out.mono ?_
    rintro e w1 ⟨B2, rfl, hF2, rfl⟩
    cases B2 with
    | true =>
      clear hF2
      go_wp2_with fail
      refine (KD.out _ (Below.refl _ _)).mono ?_
      rintro e w9 ⟨rfl, hB9⟩
      go_wp2_with fail
      go_ret
      exact ⟨rfl, below2 (Below.refl _ _) hB9⟩
    | false =>
      have HF2 := Lib.hid (hF2 rfl)
      clear hF2
      by_cases hX : 60 < nX
      · have eX : decide (60 < nX) = true := by rw [decide_eq_true_eq]; exact hX
        have eX' : decide (60 < (nX : Int)) = true := by rw [decide_eq_true_eq]; omega
        clear hX
        go_wp2_with fail
        refine (KD.out _ (Below.refl _ _)).mono ?_
        rintro e w9 ⟨rfl, hB9⟩
        go_wp2_with fail
        go_ret
        exact ⟨rfl, below2 (Below.refl _ _) hB9⟩
      · have eX : decide (60 < nX) = false := by rw [decide_eq_false_iff_not]; exact hX
        have eX' : decide (60 < (nX : Int)) = false := by rw [decide_eq_false_iff_not]; omega
        have HLX := Lib.hid (show nX ≤ 60 by omega)
        clear hX
        by_cases hY : 60 < nY
        · have eY : decide (60 < nY) = true := by rw [decide_eq_true_eq]; exact hY
          have eY' : decide (60 < (nY : Int)) = true := by rw [decide_eq_true_eq]; omega
          clear hY
          go_wp2_with fail
          refine (KD.out _ (Below.refl _ _)).mono ?_
          rintro e w9 ⟨rfl, hB9⟩
          go_wp2_with fail
          go_ret
          exact ⟨rfl, below2 (Below.refl _ _) hB9⟩
        · have eY : decide (60 < nY) = false := by rw [decide_eq_false_iff_not]; exact hY
          have eY' : decide (60 < (nY : Int)) = false := by rw [decide_eq_false_iff_not]; omega
          have HLY := Lib.hid (show nY ≤ 60 by omega)
          clear hY
          go_wp2_with fail
          refine (refRising_calls _ A _ (HA.out.1.below (Below.refl _ _)) (by have := HF1.out.1; omega)).mono ?_
          rintro e w21 ⟨BA, rfl, hRA, hB⟩
          have HBA := Lib.hid (below2 (Below.refl _ _) hB)
          clear hB
          cases BA with
          | false =>
            clear hRA
            go_wp2_with fail
            refine (KD.out _ (HBA.out)).mono ?_
            rintro e w9 ⟨rfl, hB9⟩
            go_wp2_with fail
            go_ret
            exact ⟨rfl, below2 (HBA.out) hB9⟩
          | true =>
            have HRA := Lib.hid (hRA rfl)
            clear hRA
            go_wp2_with fail
            refine (refRising_calls _ B _ (HB.out.1.below (HBA.out)) (by have := HF2.out.1; omega)).mono ?_
            rintro e w22 ⟨BB, rfl, hRB, hB⟩
            have HBB := Lib.hid (below2 (HBA.out) hB)
            clear hB
            cases BB with
            | false =>
              clear hRB
              go_wp2_with fail
              refine (KD.out _ (HBB.out)).mono ?_
              rintro e w9 ⟨rfl, hB9⟩
              go_wp2_with fail
              go_ret
              exact ⟨rfl, below2 (HBB.out) hB9⟩
            | true =>
              have HRB := Lib.hid (hRB rfl)
              clear hRB
              go_wp2_with fail
              refine (refRisingD_calls _ X _ (HX.out.1.below (HBB.out)) (by have := HX.out.2; have := HLX.out; omega)).mono ?_
              rintro e w23 ⟨BX, rfl, hRX, hB⟩
              have HBX := Lib.hid (below2 (HBB.out) hB)
              clear hB
              cases BX with
              | false =>
                clear hRX
                go_wp2_with fail
                refine (KD.out _ (HBX.out)).mono ?_
                rintro e w9 ⟨rfl, hB9⟩
                go_wp2_with fail
                go_ret
                exact ⟨rfl, below2 (HBX.out) hB9⟩
              | true =>
                have HRX := Lib.hid (hRX.1 rfl)
                clear hRX
                go_wp2_with fail
                refine (refRisingD_calls _ Y _ (HY.out.1.below (HBX.out)) (by have := HY.out.2; have := HLY.out; omega)).mono ?_
                rintro e w24 ⟨BY, rfl, hRY, hB⟩
                have HBY := Lib.hid (below2 (HBX.out) hB)
                clear hB
                cases BY with
                | false =>
                  clear hRY
                  go_wp2_with fail
                  refine (KD.out _ (HBY.out)).mono ?_
                  rintro e w9 ⟨rfl, hB9⟩
                  go_wp2_with fail
                  go_ret
                  exact ⟨rfl, below2 (HBY.out) hB9⟩
                | true =>
                  have HRY := Lib.hid (hRY.1 rfl)
                  clear hRY
                  go_wp2_with fail
                  refine (refDown_calls _ X _ (HX.out.1.below (HBY.out)) (by have := HX.out.2; have := HLX.out; omega)).mono ?_
                  rintro e w25 ⟨u1, rfl, ho, hB⟩
                  obtain ⟨_, _, rfl⟩ := ho.form
                  have Hm := Lib.hid ho.row
                  have HC1 := Lib.hid (below2 (HBY.out) hB)
                  clear ho hB
                  go_wp2_with fail
                  refine (refDown_calls _ Y _ (HY.out.1.below (HC1.out)) (by have := HY.out.2; have := HLY.out; omega)).mono ?_
                  rintro e w26 ⟨u2, rfl, ho, hB⟩
                  obtain ⟨_, _, rfl⟩ := ho.form
                  have Hn := Lib.hid ho.row
                  have HC2 := Lib.hid (below2 (HC1.out) hB)
                  replace Hm := Lib.hid (Hm.out.below hB)
                  clear ho hB
                  go_wp2_with fail
                  refine (KD.out _ (HC2.out)).mono ?_
                  rintro e w27 ⟨rfl, hB⟩
                  have HC3 := Lib.hid (below2 (HC2.out) hB)
                  replace Hm := Lib.hid (Hm.out.below hB)
                  replace Hn := Lib.hid (Hn.out.below hB)
                  clear hB
                  go_wp2_with fail
                  refine (entries_calls _ _ A B _ (HA.out.1.below (HC3.out)) (HB.out.1.below (HC3.out)) (by have := HF1.out.1; omega) (by have := HF2.out.1; omega) (fun x hx => Nat.le_trans (HF1.out.2 x hx) (by decide))).mono ?_
                  rintro e w28 ⟨u4, rfl, ho, hB⟩
                  obtain ⟨_, _, rfl⟩ := ho.form
                  have Hp := Lib.hid ho.row
                  have HC4 := Lib.hid (below2 (HC3.out) hB)
                  replace Hm := Lib.hid (Hm.out.below hB)
                  replace Hn := Lib.hid (Hn.out.below hB)
                  clear ho hB
                  go_wp2_with fail
                  refine (refEntries_calls _ _ A B _ (HA.out.1.below (HC4.out)) (HB.out.1.below (HC4.out)) (by have := HF1.out.1; omega) (by have := HF2.out.1; omega) (fun x hx => Nat.le_trans (HF1.out.2 x hx) (by decide))).mono ?_
                  rintro e w29 ⟨u5, rfl, ho, hB⟩
                  obtain ⟨_, _, rfl⟩ := ho.form
                  have Hq := Lib.hid ho.row
                  have HC5 := Lib.hid (below2 (HC4.out) hB)
                  replace Hm := Lib.hid (Hm.out.below hB)
                  replace Hn := Lib.hid (Hn.out.below hB)
                  replace Hp := Lib.hid (Hp.out.below hB)
                  clear ho hB
                  go_wp2_with fail
                  refine (refDsame_self _ _ (diffE (ens A) (ens B)) _ Hp.out Hq.out (Nat.le_trans (merge_len _ _) (by have := HF1.out.1; have := HF2.out.1; simp only [List.length_map]; omega))).mono ?_
                  rintro e w30 ⟨rfl, hB⟩
                  have HC6 := Lib.hid (below2 (HC5.out) hB)
                  replace Hm := Lib.hid (Hm.out.below hB)
                  replace Hn := Lib.hid (Hn.out.below hB)
                  replace Hp := Lib.hid (Hp.out.below hB)
                  replace Hq := Lib.hid (Hq.out.below hB)
                  clear hB
                  go_wp2_with fail
                  refine (back_calls _ X _ (HX.out.1.below (HC6.out)) (by have := HX.out.2; have := HLX.out; omega) HRX.out.2 (HK.out.below (HC6.out))).mono ?_
                  rintro e w31 ⟨u7, rfl, ho, hB⟩
                  obtain ⟨_, _, rfl⟩ := ho.form
                  have Hp2 := Lib.hid ho.row
                  have HC7 := Lib.hid (below2 (HC6.out) hB)
                  replace Hm := Lib.hid (Hm.out.below hB)
                  replace Hn := Lib.hid (Hn.out.below hB)
                  clear ho hB
                  go_wp2_with fail
                  refine (refBack_calls _ X _ Hm.out (by have := HX.out.2; have := HLX.out; omega)).mono ?_
                  rintro e w32 ⟨u8, rfl, ho, hB⟩
                  obtain ⟨_, _, rfl⟩ := ho.form
                  have Hq2 := Lib.hid ho.row
                  have HC8 := Lib.hid (below2 (HC7.out) hB)
                  replace Hm := Lib.hid (Hm.out.below hB)
                  replace Hn := Lib.hid (Hn.out.below hB)
                  replace Hp2 := Lib.hid (Hp2.out.below hB)
                  clear ho hB
                  go_wp2_with fail
                  refine (refDsame_self _ _ (backL X) _ Hp2.out Hq2.out (by unfold backL; rw [List.length_map]; have := HX.out.2; have := HLX.out; omega)).mono ?_
                  rintro e w33 ⟨rfl, hB⟩
                  have HC9 := Lib.hid (below2 (HC8.out) hB)
                  replace Hm := Lib.hid (Hm.out.below hB)
                  replace Hn := Lib.hid (Hn.out.below hB)
                  replace Hp2 := Lib.hid (Hp2.out.below hB)
                  replace Hq2 := Lib.hid (Hq2.out.below hB)
                  clear hB
                  go_wp2_with fail
                  refine (then_calls _ _ X Y _ (HX.out.1.below (HC9.out)) (HY.out.1.below (HC9.out)) (by have := HX.out.2; have := HLX.out; omega) (by have := HY.out.2; have := HLY.out; omega) HRX.out.2 HRY.out.2 (HK.out.below (HC9.out))).mono ?_
                  rintro e w34 ⟨u10, rfl, ho, hB⟩
                  obtain ⟨_, _, rfl⟩ := ho.form
                  have Hp3 := Lib.hid ho.row
                  have HC10 := Lib.hid (below2 (HC9.out) hB)
                  replace Hm := Lib.hid (Hm.out.below hB)
                  replace Hn := Lib.hid (Hn.out.below hB)
                  clear ho hB
                  go_wp2_with fail
                  refine (refThen_calls _ _ X Y _ Hm.out Hn.out (by have := HX.out.2; have := HLX.out; omega) (by have := HY.out.2; have := HLY.out; omega)).mono ?_
                  rintro e w35 ⟨u11, rfl, ho, hB⟩
                  obtain ⟨_, _, rfl⟩ := ho.form
                  have Hq3 := Lib.hid ho.row
                  have HC11 := Lib.hid (below2 (HC10.out) hB)
                  replace Hm := Lib.hid (Hm.out.below hB)
                  replace Hn := Lib.hid (Hn.out.below hB)
                  replace Hp3 := Lib.hid (Hp3.out.below hB)
                  clear ho hB
                  go_wp2_with fail
                  refine (refDsame_self _ _ (thenL X Y) _ Hp3.out Hq3.out (Nat.le_trans (merge_len _ _) (by have := HX.out.2; have := HLX.out; have := HY.out.2; have := HLY.out; omega))).mono ?_
                  rintro e w36 ⟨rfl, hB⟩
                  have HC12 := Lib.hid (below2 (HC11.out) hB)
                  replace Hm := Lib.hid (Hm.out.below hB)
                  replace Hn := Lib.hid (Hn.out.below hB)
                  replace Hp3 := Lib.hid (Hp3.out.below hB)
                  replace Hq3 := Lib.hid (Hq3.out.below hB)
                  clear hB
                  go_wp2_with fail
                  refine (refDsame_self _ _ X _ (HX.out.1.below (HC12.out)) Hm.out (by have := HX.out.2; have := HLX.out; omega)).mono ?_
                  rintro e w37 ⟨rfl, hB⟩
                  have HC13 := Lib.hid (below2 (HC12.out) hB)
                  replace Hm := Lib.hid (Hm.out.below hB)
                  replace Hn := Lib.hid (Hn.out.below hB)
                  clear hB
                  go_wp2_with fail
                  refine (refDsame_self _ _ Y _ (HY.out.1.below (HC13.out)) Hn.out (by have := HY.out.2; have := HLY.out; omega)).mono ?_
                  rintro e w38 ⟨rfl, hB⟩
                  have HC14 := Lib.hid (below2 (HC13.out) hB)
                  replace Hm := Lib.hid (Hm.out.below hB)
                  replace Hn := Lib.hid (Hn.out.below hB)
                  clear hB
                  go_wp2_with fail
                  go_ret
                  exact ⟨rfl, HC14.out⟩

end Go.Proofs.YtogicnciheedoaaDoor
