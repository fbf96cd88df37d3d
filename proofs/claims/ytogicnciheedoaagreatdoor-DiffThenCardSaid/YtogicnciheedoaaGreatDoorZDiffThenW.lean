/-
  DiffThen: the walk.
-/
import Derived.Test.YtogicnciheedoaaGreatDoorPks16a
import Derived.Test.YtogicnciheedoaaGreatDoorPks16b
import Derived.Test.YtogicnciheedoaaGreatDoorPks16c
namespace Go.Proofs.YtogicnciheedoaaGreatDoor
set_option maxRecDepth 100000
open Go.RowKit

set_option maxHeartbeats 32000000 in
theorem diffThen_walk (v : Value) (S : List Lv) (d : List UInt8) (a b c : Int) (w : World) (h : Lds w v S) (hf : FitL S) (hdl : d.length ≤ 9223372036854775807) (hml : Ml w) (hki : KiOk w) :
    Calls Tryz.prog 5 #[v, .string ⟨d.toArray⟩, .int .i64 a, .int .i64 b, .int .i64 c] w fun e w' => e = .returned (.bool true) ∧ Below w.heap.size w w' := by
  obtain ⟨av, cv, rfl⟩ := h.form
  obtain ⟨nl, hnL⟩ : ∃ k, S.length = k := ⟨_, rfl⟩
  have KB := Lib.hid (refL_calls _ S w h hf)
  rw [hnL] at KB ⊢
  cases hb : bigL S with
  | true =>
    rw [hb] at KB
    clear h hf hb hnL
    go_enter Tryz.func5, Tryz.ntmps5
    go_wp2_with fail
    refine KB.out.mono ?_
    rintro e w1 ⟨rfl, rfl⟩
    go_wp2_with fail
    go_ret
    exact ⟨rfl, Below.refl _ _⟩
  | false =>
    obtain ⟨hl20, hls⟩ := bigL_small hb
    rw [hb] at KB
    by_cases hp3 : 300 < d.length
    · have hdd : decide ((300 : Int) < (d.length : Int)) = true := by rw [decide_eq_true_eq]; omega
      clear h hf hb hnL hls hp3
      go_enter Tryz.func5, Tryz.ntmps5
      go_wp2_with fail
      refine KB.out.mono ?_
      rintro e w1 ⟨rfl, rfl⟩
      go_wp2_with fail
      go_ret
      exact ⟨rfl, Below.refl _ _⟩
    · have hdd : decide ((300 : Int) < (d.length : Int)) = false := by rw [decide_eq_false_iff_not]; omega
      have KL := Lib.hid (diLaid_calls _ S w h hl20 hls hml)
      rw [hnL] at KL
      obtain ⟨hK1, hK2, _⟩ := took_all S
      obtain ⟨hUr, hUs⟩ := pairsK_st hK1
      have hUn := pairsK_len hK1
      have HST : Hid (∀ W tv, TreeV W tv (pairsK (tookS S)) → Ml W → Sto W tv (pairsK (tookS S))) := Lib.hid (fun W tv ht hm => pairsK_sto hK1 (by omega) ht hm)
      have hUn1 : (pairsK (tookS S)).length ≤ 1000 := by omega
      obtain ⟨U, hU⟩ : ∃ U, pairsK (tookS S) = U := ⟨_, rfl⟩
      rw [hU] at KL hUr hUs hUn1 HST
      have HU := Lib.hid (And.intro hUr hUn1)
      have HP := Lib.hid (show d.length ≤ 1000000 by omega)
      have HM := Lib.hid (And.intro hml hki)
      have HLEN := Lib.hid (fun (p : List UInt8) (m n : Int) => ofX_len (U := U) (d := p) (fun n => Nat.le_trans (listX_facts hUr p n).1 HU.out.2) m n)
      clear h hf hb hnL hls hUr hUs hUn hUn1 hU hml hki hp3 hK1 hK2 hl20
      go_enter Tryz.func5, Tryz.ntmps5
      go_wp2_with fail
      refine KB.out.mono ?_
      rintro e w1 ⟨rfl, rfl⟩
      go_wp2_with fail
      refine KL.out.mono ?_
      rintro e w2 ⟨t, rfl, ht, hB2⟩
      obtain ⟨tp, rfl⟩ := ht.val
      have HT := Lib.hid (And.intro (HST.out _ _ ht (HM.out.1.below hB2)) hB2)
      clear ht hB2
      go_wp2_with fail
      refine (of_calls HT.out.1 d a b HP.out).mono ?_
      rintro e w11 ⟨u, rfl, ho, hB⟩
      obtain ⟨_, _, rfl⟩ := ho.form
      have HB11 := Lib.hid (below2 HT.out.2 hB)
      have HS11 := Lib.hid (HT.out.1.below hB)
      have RA := Lib.hid (ho.row)
      clear hB ho
      go_wp2_with fail
      refine (of_calls HS11.out d b c HP.out).mono ?_
      rintro e w12 ⟨u, rfl, ho, hB⟩
      obtain ⟨_, _, rfl⟩ := ho.form
      have HB12 := Lib.hid (below2 HB11.out hB)
      have HS12 := Lib.hid (HS11.out.below hB)
      replace RA := Lib.hid (RA.out.below hB)
      have RB := Lib.hid (ho.row)
      clear hB ho
      go_wp2_with fail
      refine (of_calls HS12.out d a c HP.out).mono ?_
      rintro e w13 ⟨u, rfl, ho, hB⟩
      obtain ⟨_, _, rfl⟩ := ho.form
      have HB13 := Lib.hid (below2 HB12.out hB)
      have HS13 := Lib.hid (HS12.out.below hB)
      replace RA := Lib.hid (RA.out.below hB)
      replace RB := Lib.hid (RB.out.below hB)
      have RC := Lib.hid (ho.row)
      clear hB ho
      by_cases h1 : ofE U d a b = 0
      · by_cases h2 : ofE U d b c = 0
        · have h3 : ofE U d a c = 0 := ofE_zero.2 ⟨(ofE_zero.1 h1).1, (ofE_zero.1 h2).2⟩
          obtain ⟨q1, q2, q3, q4⟩ := ofX_then HU.out.1 d a b c h1 h2
          have HQ := Lib.hid (And.intro q1 (And.intro q2 (And.intro q3 q4)))
          rw [h1, h2, h3]
          clear h1 h2 h3 q1 q2 q3 q4
          go_wp2_with fail
          refine (then_calls _ _ (ofX U d a b) (ofX U d b c) _ RA.out RB.out (Nat.le_trans (HLEN.out d a b) (by decide)) (Nat.le_trans (HLEN.out d b c) (by decide)) (ofX_kinds U d a b) (ofX_kinds U d b c) (HM.out.2.below HB13.out)).mono ?_
          rintro e w14 ⟨u, rfl, ho, hB⟩
          obtain ⟨_, _, rfl⟩ := ho.form
          have HB14 := Lib.hid (below2 HB13.out hB)
          have HS14 := Lib.hid (HS13.out.below hB)
          replace RA := Lib.hid (RA.out.below hB)
          replace RB := Lib.hid (RB.out.below hB)
          replace RC := Lib.hid (RC.out.below hB)
          have RH := Lib.hid (ho.row)
          clear hB ho
          have HLH := Lib.hid (show (thenL (ofX U d a b) (ofX U d b c)).length ≤ 4000 from Nat.le_trans (merge_len _ _) (by have := HLEN.out d a b; have := HLEN.out d b c; omega))
          have HLZ := Lib.hid (show (ofX U d a c).length ≤ 2000 from HLEN.out d a c)
          obtain ⟨H, hH⟩ : ∃ H, thenL (ofX U d a b) (ofX U d b c) = H := ⟨_, rfl⟩
          obtain ⟨Z, hZ⟩ : ∃ Z, ofX U d a c = Z := ⟨_, rfl⟩
          rw [hH] at RH HQ HLH ⊢
          rw [hZ] at RC HQ HLZ ⊢
          obtain ⟨nH, hnH⟩ : ∃ k, H.length = k := ⟨_, rfl⟩
          obtain ⟨nZ, hnZ⟩ : ∃ k, Z.length = k := ⟨_, rfl⟩
          rw [hnH] at RH HLH ⊢
          rw [hnZ] at RC HLZ ⊢
          have HNN := Lib.hid (And.intro hnH hnZ)
          clear hH hZ hnH hnZ
          go_wp2_with fail
          go_loopw [19] (fun i wr => ∃ k : Nat, i = .int .i64 k ∧ k ≤ nZ ∧ Hid (Below w14.heap.size w14 wr)) (fun i _ => nZ - (intOf i).toNat)
          case atStart => exact ⟨0, rfl, Nat.zero_le _, Lib.hid (Below.refl _ _)⟩
          case round =>
            obtain ⟨k, rfl, hk, hB⟩ := hrel
            have hz2 := HLZ.out
            by_cases hlt : k < nZ
            · have hd : decide ((k : Int) < (nZ : Int)) = true := by rw [decide_eq_true_eq]; omega
              have hkl : k < Z.length := by have := HNN.out.2; omega
              obtain ⟨bz, oz, rfl, x0, x1⟩ := dls_at (RC.out.below hB.out) hkl
              have hq := HQ.out.1 _ (List.getElem_mem hkl)
              obtain ⟨p, hp⟩ : ∃ p, Z[k].1 = p := ⟨_, rfl⟩
              obtain ⟨n, hn⟩ : ∃ n, Z[k].2 = n := ⟨_, rfl⟩
              rw [hp] at x0 hq
              rw [hn] at x1 hq
              have KF := Lib.hid (fun W (hW : Below w14.heap.size w14 W) => dfind_calls _ H p W (RH.out.below hW) (by have := HLH.out; have := HNN.out.1; omega))
              rw [hq] at KF
              have HC := Lib.hid (fun W (hW : Below wr.heap.size wr W) => And.intro (look_below hW x0) (look_below hW x1))
              have hk0 : (0 : Int) ≤ (k : Int) := by omega
              have hk5 : (k : Int) < (nZ : Int) := by omega
              have hnn : (n == n) = true := by simp
              have hbr : Below wr.heap.size wr wr.drew := drew_below _
              clear x0 x1 hq hp hn
              go_wp2_with fail
              go_region_held3 (fun W => W.cell? ⟨bz, oz + k * 2, none⟩ = some (.string ⟨p.toArray⟩) ∧ W.cell? ⟨bz, oz + k * 2 + 1, none⟩ = some (.int .i64 n)) (exact HC.out _ hbr) (first
                | (go_at_call 19; (with_reducible refine (KF.out _ (below2 hB.out hbr)).mono ?_); rintro e w3 ⟨rfl, rfl⟩))
              all_goals
                have HBW := Lib.hid (below2 hB.out hbr)
                clear hbr
                go_wp2_with fail
                go_roundw
                case rel => exact ⟨k + 1, by go_num, by omega, HBW⟩
                case measure => simp [intOf]; omega
            · obtain rfl : k = nZ := by omega
              have hd : decide ((k : Int) < (k : Int)) = false := by simp
              have R1 := Lib.hid (And.intro (RH.out.below hB.out) (And.intro (RC.out.below hB.out) (below2 HB14.out hB.out)))
              clear hB
              go_wp2_with fail
              go_loopw [20] (fun i ws => ∃ j : Nat, i = .int .i64 j ∧ j ≤ nH ∧ wr = ws) (fun i _ => nH - (intOf i).toNat)
              case atStart => exact ⟨0, rfl, Nat.zero_le _, rfl⟩
              case round =>
                obtain ⟨j, rfl, hj, rfl⟩ := hrel
                have hh2 := HLH.out
                by_cases hlj : j < nH
                · have hdj : decide ((j : Int) < (nH : Int)) = true := by rw [decide_eq_true_eq]; omega
                  have hjl : j < H.length := by have := HNN.out.1; omega
                  obtain ⟨bh, oh, rfl, x0, x1⟩ := dls_at R1.out.1 hjl
                  have hq := HQ.out.2.1 _ (List.getElem_mem hjl)
                  obtain ⟨p, hp⟩ : ∃ p, H[j].1 = p := ⟨_, rfl⟩
                  obtain ⟨n, hn⟩ : ∃ n, H[j].2 = n := ⟨_, rfl⟩
                  rw [hp] at x0 hq
                  rw [hn] at x1 hq
                  have KF := Lib.hid (dfind_calls _ Z p wr R1.out.2.1 (by have := HLZ.out; have := HNN.out.2; omega))
                  have hnn : (n == n) = true := by simp
                  clear hp hn
                  rcases hq with hq | ⟨hq, rfl⟩
                  · rw [hq] at KF
                    clear hq
                    go_wp2_with fail
                    refine KF.out.mono ?_
                    rintro e w3 ⟨rfl, rfl⟩
                    go_wp2_with fail
                    go_roundw
                    case rel => exact ⟨j + 1, by go_num, by omega, trivial⟩
                    case measure => simp [intOf]; omega
                  · rw [hq] at KF
                    clear hq
                    go_wp2_with fail
                    refine KF.out.mono ?_
                    rintro e w3 ⟨rfl, rfl⟩
                    go_wp2_with fail
                    go_roundw
                    case rel => exact ⟨j + 1, by go_num, by omega, trivial⟩
                    case measure => simp [intOf]; omega
                · obtain rfl : j = nH := by omega
                  have hdj : decide ((j : Int) < (j : Int)) = false := by simp
                  go_wp2_with fail
                  refine (diffs_calls _ (HM.out.2.below R1.out.2.2)).mono ?_
                  rintro e w31 ⟨rfl, hB⟩
                  have R2 := Lib.hid (And.intro (R1.out.1.below hB) (below2 R1.out.2.2 hB))
                  clear hB
                  go_wp2_with fail
                  refine (refRisingD_calls _ H _ R2.out.1 (by have := HLH.out; have := HNN.out.1; omega)).mono ?_
                  rintro e w32 ⟨B, rfl, hBB, hB⟩
                  obtain rfl : B = true := hBB.2 HQ.out.2.2
                  have R3 := Lib.hid (below2 R2.out.2 hB)
                  clear hB hBB
                  go_wp2_with fail
                  go_ret
                  exact ⟨rfl, R3.out⟩
        · rw [h1]
          have e2 : (ofE U d b c == 0) = false := by rw [beq_eq_false_iff_ne]; exact h2
          generalize ofE U d b c = E2 at *
          generalize ofE U d a c = E3 at *
          clear h1
          go_wp2_with fail
          refine (diffs_calls _ (HM.out.2.below HB13.out)).mono ?_
          rintro e w14 ⟨rfl, hB⟩
          have HB14 := Lib.hid (below2 HB13.out hB)
          have HS14 := Lib.hid (HS13.out.below hB)
          clear hB
          go_wp2_with fail
          go_ret
          exact ⟨rfl, HB14.out⟩
      · have e1 : (ofE U d a b == 0) = false := by rw [beq_eq_false_iff_ne]; exact h1
        generalize ofE U d a b = E1 at *
        generalize ofE U d b c = E2 at *
        generalize ofE U d a c = E3 at *
        go_wp2_with fail
        refine (diffs_calls _ (HM.out.2.below HB13.out)).mono ?_
        rintro e w14 ⟨rfl, hB⟩
        have HB14 := Lib.hid (below2 HB13.out hB)
        have HS14 := Lib.hid (HS13.out.below hB)
        clear hB
        go_wp2_with fail
        go_ret
        exact ⟨rfl, HB14.out⟩

end Go.Proofs.YtogicnciheedoaaGreatDoor
