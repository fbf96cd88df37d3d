/-
  BatchDoes, walked.
-/
import Derived.Test.YtmbnmmnoahddcaaGreatDoorPks14c
import Derived.IntWalk
namespace Go.Proofs.YtmbnmmnoahddcaaGreatDoor
set_option maxRecDepth 100000
set_option linter.unusedVariables false
open Go.RowKit

set_option maxHeartbeats 16000000 in
theorem batchDoes_walk (v : Value) (L : List Cv) (u : Value) (M : List Cv) (W : World) (hL : Cgs W v L) (hk : L.length ≤ maxLen) (hw : ∀ c ∈ chs L, c.1.length ≤ maxLen ∧ c.2.2.2.2.length ≤ maxLen) (hM : Cgs W u M) (hk' : M.length ≤ maxLen) (hw' : ∀ c ∈ chs M, c.1.length ≤ maxLen ∧ c.2.2.2.2.length ≤ maxLen) (hm : Ml W) :
    Calls Tryz.prog 3 #[v, u] W fun e w' => e = .returned (.bool true) ∧ Below W.heap.size W w' := by
  have KB := Lib.hid (big_calls v L W hL (Nat.le_trans hk (by decide)) (fun c hc => ⟨Nat.le_trans (hw c hc).1 (by decide), Nat.le_trans (hw c hc).2 (by decide)⟩))
  have KC := Lib.hid (big_calls u M W hM (Nat.le_trans hk' (by decide)) (fun c hc => ⟨Nat.le_trans (hw' c hc).1 (by decide), Nat.le_trans (hw' c hc).2 (by decide)⟩))
  obtain ⟨ao, cap, rfl⟩ := hL.form
  obtain ⟨bo, cap', rfl⟩ := hM.form
  have HL := Lib.hid hL
  have HU := Lib.hid hM
  have HM := Lib.hid hm
  obtain ⟨nl, hnl⟩ : ∃ n, n = L.length := ⟨_, rfl⟩
  obtain ⟨nm, hnm⟩ : ∃ n, n = M.length := ⟨_, rfl⟩
  have HNL := Lib.hid hnl
  have HNM := Lib.hid hnm
  rw [← hnl] at KB HL ⊢
  rw [← hnm] at KC HU ⊢
  clear hL hM hm hk hk' hw hw' hnl hnm
  cases hb : bigC (chs L) with
  | true =>
    rw [hb] at KB
    clear KC hb
    go_enter Tryz.func3, Tryz.ntmps3
    go_wp2_with fail
    refine KB.out.mono ?_
    rintro e w0 ⟨rfl, rfl⟩
    go_wp2_with fail
    go_ret
    exact ⟨rfl, Below.refl _ _⟩
  | false =>
  rw [hb] at KB
  cases hb2 : bigC (chs M) with
  | true =>
    rw [hb2] at KC
    clear hb hb2
    go_enter Tryz.func3, Tryz.ntmps3
    go_wp2_with fail
    refine KB.out.mono ?_
    rintro e w0 ⟨rfl, rfl⟩
    go_wp2_with fail
    refine KC.out.mono ?_
    rintro e w0 ⟨rfl, rfl⟩
    go_wp2_with fail
    go_ret
    exact ⟨rfl, Below.refl _ _⟩
  | false =>
  rw [hb2] at KC
  have HSL := Lib.hid (bigC_small hb)
  have HSM := Lib.hid (bigC_small hb2)
  have HFL : Hid (FewC (chs L)) := Lib.hid (fun c hc => by have := (bigC_not hb).2 c hc; omega)
  have HFM : Hid (FewC (chs M)) := Lib.hid (fun c hc => by have := (bigC_not hb2).2 c hc; omega)
  have hl1 : L.length ≤ 50 := by have := HSL.out.2; rw [List.length_map] at this; exact this
  have hm1 : M.length ≤ 50 := by have := HSM.out.2; rw [List.length_map] at this; exact this
  have HLL := Lib.hid (And.intro hl1 hm1)
  have K1 := Lib.hid (bOwn_calls _ L W HL.out (by omega) HFL.out)
  obtain ⟨E1, hE1⟩ : ∃ E, E = normE (chs L) := ⟨_, rfl⟩
  obtain ⟨E2, hE2⟩ : ∃ E, E = normE (chs L ++ chs M) := ⟨_, rfl⟩
  obtain ⟨E3, hE3⟩ : ∃ E, E = putBE (chs L) := ⟨_, rfl⟩
  obtain ⟨T3, hT3⟩ : ∃ E, E = putBT (chs L) := ⟨_, rfl⟩
  obtain ⟨b5, hb5⟩ : ∃ E, E = isB (chs L) := ⟨_, rfl⟩
  have HE1 := Lib.hid hE1
  have HE2 := Lib.hid hE2
  have HE3 := Lib.hid hE3
  have HT3 := Lib.hid hT3
  have HB5 := Lib.hid hb5
  clear hb hb2 hl1 hm1 hE1 hE2 hE3 hT3 hb5
  go_enter Tryz.func3, Tryz.ntmps3
  go_wp2_with fail
  refine KB.out.mono ?_
  rintro e w0 ⟨rfl, rfl⟩
  go_wp2_with fail
  refine KC.out.mono ?_
  rintro e w0 ⟨rfl, rfl⟩
  go_wp2_with fail
  refine K1.out.mono ?_
  rintro e w1 ⟨v1, S1, rfl, ho1, hc1, hB1⟩
  have HO1 := Lib.hid ho1
  have HC1 := Lib.hid hc1
  have HB1 := Lib.hid hB1
  have HN1 : Hid (S1.length ≤ 50) := Lib.hid (by have := congrArg List.length hc1; rw [List.length_map, List.length_map] at this; rw [this]; exact HLL.out.1)
  have HS1 : Hid (SmallC (chs S1) ∧ FewC (chs S1)) := Lib.hid (by rw [hc1]; exact ⟨HSL.out.1, HFL.out⟩)
  obtain ⟨a1, n1, c1, rfl⟩ : ∃ a n c, v1 = .slice a n c := by obtain ⟨a, c, e⟩ := ho1.form; exact ⟨a, _, c, e⟩
  have K2 := baNorm_cv _ L w1 (HL.out.below hB1) (by have := HLL.out.1; omega) HSL.out.1 (HM.out.below hB1)
  rw [← HE1.out] at K2
  have K2 := Lib.hid K2
  clear ho1 hc1 hB1
  go_wp2_with fail
  refine K2.out.mono ?_
  rintro e w2 ⟨v2, S2, rfl, ho2, hc2, hB2⟩
  have HQ2 := Lib.hid (OwnQ.of ho2)
  have HG2 := Lib.hid ho2.cgs
  have HC2 := Lib.hid hc2
  have HB2 := Lib.hid hB2
  have HN2 : Hid (S2.length ≤ 20) := Lib.hid (by have := (norm_few (chs L)).2; rw [← hc2, List.length_map] at this; exact this)
  have HS2 : Hid (SmallC (chs S2)) := Lib.hid (by rw [hc2]; exact (norm_few (chs L)).1)
  obtain ⟨a2, c2, rfl⟩ := ho2.form
  obtain ⟨n2, hn2⟩ : ∃ n, n = S2.length := ⟨_, rfl⟩
  have HL2 := Lib.hid hn2
  rw [← hn2] at HQ2 HG2 ⊢
  have K3 := rNorm_calls _ S1 w2 (HO1.out.below hB2) (by have := HN1.out; omega) HS1.out.1 HS1.out.2
  rw [HC1.out, ← HE1.out] at K3
  have K3 := Lib.hid K3
  clear ho2 hc2 hB2 hn2
  go_wp2_with fail
  refine K3.out.mono ?_
  rintro e w3 ⟨v3, S3, rfl, ho3, hc3, hB3⟩
  have HG3 := Lib.hid ho3
  have HC3 := Lib.hid hc3
  have HB3 := Lib.hid (below2 HB2.out hB3)
  have HQ3 := Lib.hid (HQ2.out.stays hB3)
  have HG2 := Lib.hid (HG2.out.below hB3)
  obtain ⟨a3, n3, c3, rfl⟩ : ∃ a n c, v3 = .slice a n c := by obtain ⟨a, c, e⟩ := ho3.form; exact ⟨a, _, c, e⟩
  have K4 := baPut_calls _ L w3 (HL.out.below (below2 HB1.out HB3.out)) (by have := HLL.out.1; omega) HSL.out.1 (HM.out.below (below2 HB1.out HB3.out))
  rw [← HE3.out, ← HT3.out] at K4
  have K4 := Lib.hid K4
  clear ho3 hc3 hB3
  go_wp2_with fail
  refine K4.out.mono ?_
  rintro e w4 ⟨rfl, hB4⟩
  have HB4 := Lib.hid (below2 HB3.out hB4)
  have HQ4 := Lib.hid (HQ3.out.stays hB4)
  have HG2 := Lib.hid (HG2.out.below hB4)
  have HG3 := Lib.hid (HG3.out.below hB4)
  have K5 := rBaPut_calls _ S1 w4 (HO1.out.below HB4.out) (by have := HN1.out; omega) HS1.out.1
  rw [HC1.out, ← HE3.out, ← HT3.out] at K5
  have K5 := Lib.hid K5
  clear hB4
  go_wp2_with fail
  refine K5.out.mono ?_
  rintro e w5 ⟨rfl, hB5⟩
  have HB5' := Lib.hid (below2 HB4.out hB5)
  have HQ5 := Lib.hid (HQ4.out.stays hB5)
  have HG2 := Lib.hid (HG2.out.below hB5)
  have HG3 := Lib.hid (HG3.out.below hB5)
  have K6 := baJoin_cv _ _ L M w5 (HL.out.below (below2 HB1.out HB5'.out)) (HU.out.below (below2 HB1.out HB5'.out)) (by have := HLL.out.1; omega) (by have := HLL.out.2; omega) HSL.out.1 HSM.out.1 (HM.out.below (below2 HB1.out HB5'.out))
  rw [← HE2.out] at K6
  have K6 := Lib.hid K6
  clear hB5
  go_wp2_with fail
  refine K6.out.mono ?_
  rintro e w6 ⟨v6, S6, rfl, ho6, hc6, hB6⟩
  have HG6 := Lib.hid ho6.cgs
  have HC6 := Lib.hid hc6
  have HB6 := Lib.hid (below2 HB5'.out hB6)
  have HQ6 := Lib.hid (HQ5.out.stays hB6)
  have HG2 := Lib.hid (HG2.out.below hB6)
  have HG3 := Lib.hid (HG3.out.below hB6)
  obtain ⟨a6, n6, c6, rfl⟩ := own_form ho6.1
  have K7 := rJoin_calls _ _ S1 M w6 (HO1.out.below HB6.out) (HU.out.below (below2 HB1.out HB6.out)) (by have := HN1.out; omega) (by have := HLL.out.2; omega) HS1.out.1 HSM.out.1 HS1.out.2 HFM.out
  rw [HC1.out, ← HE2.out] at K7
  have K7 := Lib.hid K7
  clear ho6 hc6 hB6
  go_wp2_with fail
  refine K7.out.mono ?_
  rintro e w7 ⟨v7, S7, rfl, ho7, hc7, hB7⟩
  have HG7 := Lib.hid ho7
  have HC7 := Lib.hid hc7
  have HB7 := Lib.hid (below2 HB6.out hB7)
  have HQ7 := Lib.hid (HQ6.out.stays hB7)
  have HG6 := Lib.hid (HG6.out.below hB7)
  have HG2 := Lib.hid (HG2.out.below hB7)
  have HG3 := Lib.hid (HG3.out.below hB7)
  obtain ⟨a7, n7, c7, rfl⟩ : ∃ a n c, v7 = .slice a n c := by obtain ⟨a, c, e⟩ := ho7.form; exact ⟨a, _, c, e⟩
  have K8 := bSame_calls _ _ S2 S3 w7 HG2.out HG3.out (by have := HN2.out; omega) HS2.out
  rw [HC2.out, HC3.out, beq_self_eq_true] at K8
  have K8 := Lib.hid K8
  clear ho7 hc7 hB7
  go_wp2_with fail
  refine K8.out.mono ?_
  rintro e w8 ⟨rfl, hB8⟩
  have HB8 := Lib.hid (below2 HB7.out hB8)
  have HQ8 := Lib.hid (HQ7.out.stays hB8)
  have HG6 := Lib.hid (HG6.out.below hB8)
  have HG7 := Lib.hid (HG7.out.below hB8)
  have K9 := bSame_calls _ _ S6 S7 w8 HG6.out HG7.out (by have := (norm_few (chs L ++ chs M)).2; rw [← HC6.out, List.length_map] at this; omega) (by rw [HC6.out]; exact (norm_few _).1)
  rw [HC6.out, HC7.out, beq_self_eq_true] at K9
  have K9 := Lib.hid K9
  clear hB8
  go_wp2_with fail
  refine K9.out.mono ?_
  rintro e w9 ⟨rfl, hB9⟩
  have HB9 := Lib.hid (below2 HB8.out hB9)
  have HQ9 := Lib.hid (HQ8.out.stays hB9)
  have K10 := baIs_calls _ L w9 (HL.out.below (below2 HB1.out HB9.out)) (by have := HLL.out.1; omega) HSL.out.1 (HM.out.below (below2 HB1.out HB9.out))
  rw [← HB5.out] at K10
  have K10 := Lib.hid K10
  clear hB9
  go_wp2_with fail
  refine K10.out.mono ?_
  rintro e w10 ⟨rfl, hB10⟩
  have HB10 := Lib.hid (below2 HB9.out hB10)
  have HQ10 := Lib.hid (HQ9.out.stays hB10)
  have K11 := rBaIs_calls _ S1 w10 (HO1.out.below HB10.out) (by have := HN1.out; omega) HS1.out.1
  rw [HC1.out, ← HB5.out] at K11
  have K11 := Lib.hid K11
  clear hB10
  go_wp2_with fail
  refine K11.out.mono ?_
  rintro e w11 ⟨rfl, hB11⟩
  have HB11 := Lib.hid (below2 HB10.out hB11)
  have HQ11 := Lib.hid (HQ10.out.stays hB11)
  have hn20 : n2 ≤ 20 := by rw [HL2.out]; exact HN2.out
  clear hB11 KB KC K1 K2 K3 K4 K5 K6 K7 K8 K9 K10 K11 HG2 HG3 HG6 HG7 HQ2 HQ3 HQ4 HQ5 HQ6 HQ7 HQ8 HQ9 HQ10 HB2 HB3 HB4 HB5' HB6 HB7 HB8 HB9 HB10
  go_wp2_with fail
  go_loopw [19] (fun i wr => ∃ (k : Nat) (S : List Cv), i = .int .i64 k ∧ k ≤ n2 ∧ Hid (S.length = n2) ∧ Hid (OwnQ wr w1.heap.size (.slice a2 n2 c2) S) ∧ Hid (Below w1.heap.size w1 wr)) (fun i _ => n2 - (intOf i).toNat)
  case atStart => exact ⟨0, S2, rfl, Nat.zero_le _, Lib.hid HL2.out.symm, HQ11, HB11⟩
  case round =>
    obtain ⟨k, S, rfl, hkn, hSn, hQ, hB⟩ := hrel
    by_cases hlt : k < n2
    · have hkS : k < S.length := by rw [hSn.out]; exact hlt
      obtain ⟨g, rfl, hg, c0, c4, f0, cs, hI⟩ := hQ.out.at hkS
      obtain ⟨y, hy⟩ : ∃ y, S[k].2 = y := ⟨_, rfl⟩
      obtain ⟨s1, m, s3, hys⟩ : ∃ a n c, y = .slice a n c := by rw [← hy]; exact own_form hI
      subst hys
      have HY := Lib.hid hy
      have HKS := Lib.hid hkS
      have HG := Lib.hid hg
      have hk1 : (0 : Int) ≤ (k : Int) := by omega
      have hk2 : (k : Int) < (n2 : Int) := by omega
      clear c0 c4 f0 hI hy hg
      go_wp2_with fail
      go_loopw [20] (fun i w4 => ∃ (j : Nat), i = .int .i64 j ∧ j ≤ m ∧ Hid (OwnQ w4 w1.heap.size (.slice (some ⟨g, 0, none⟩) n2 c2) S) ∧ Hid (Below w1.heap.size w1 w4)) (fun i _ => m - (intOf i).toNat)
      case atStart => exact ⟨0, rfl, Nat.zero_le _, hQ, hB⟩
      case round =>
        obtain ⟨j, rfl, hjm, hQ2, hB2⟩ := hrel
        obtain ⟨g', hgg, _, c0, c4, f0, cs, hI⟩ := hQ2.out.at HKS.out
        cases hgg
        rw [HY.out] at c4 hI
        by_cases hlj : j < m
        · obtain ⟨gc, z, rfl, hgc, d0, e0⟩ := own_at hI hlj
          have HQ' := Lib.hid (hQ2.out.num hI j (-7))
          have HGC := Lib.hid hgc
          have hj3 : (j : Int) + 1 ≤ 9223372036854775807 := by have := own_max hI; omega
          have hw1 : IntKind.i64.wrap ((j : Int) + 1) = (j : Int) + 1 := IntWalk.i64_in _ (by omega)
          have HW1 := Lib.hid hw1
          clear hw1 hj3
          have hj1 : (0 : Int) ≤ (j : Int) := by omega
          have hj2 : (j : Int) < (m : Int) := by omega
          clear hI c0 f0 hgc
          have hw1 := HW1.out
          go_wp2_with fail
          clear hw1
          go_roundw
          case rel => exact ⟨j + 1, by go_num, by omega, HQ', Lib.hid (hB2.out.setCell HGC.out _)⟩
          case measure => simp [intOf]; omega
        · obtain rfl : j = m := by omega
          have HQ' := Lib.hid (hQ2.out.path HKS.out [115, 109, 117, 100, 103, 101])
          clear hI
          go_wp2_with fail
          go_roundw
          case rel => exact ⟨k + 1, _, by go_num, by omega, Lib.hid (by rw [List.length_set]; exact hSn.out), HQ', Lib.hid (hB2.out.setCell HG.out _)⟩
          case measure => simp [intOf]; omega
    · obtain rfl : k = n2 := by omega
      have K12 := Lib.hid (baLaid_calls wr (HM.out.below (below2 HB1.out hB.out)))
      go_wp2_with fail
      refine K12.out.mono ?_
      rintro e w12 ⟨rfl, hB12⟩
      have HB12 := Lib.hid (below2 hB.out hB12)
      have K13 := bSame_calls _ _ L S1 w12 (HL.out.below (below2 HB1.out HB12.out)) (HO1.out.below HB12.out) (by have := HLL.out.1; omega) HSL.out.1
      rw [HC1.out, beq_self_eq_true] at K13
      have K13 := Lib.hid K13
      clear hB12
      go_wp2_with fail
      refine K13.out.mono ?_
      rintro e w13 ⟨rfl, hB13⟩
      go_wp2_with fail
      go_ret
      exact ⟨by simp, below3 HB1.out HB12.out hB13⟩

end Go.Proofs.YtmbnmmnoahddcaaGreatDoor
