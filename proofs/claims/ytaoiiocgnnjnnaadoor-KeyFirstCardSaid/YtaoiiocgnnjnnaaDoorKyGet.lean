/-
  key.Get.
-/
import Derived.Test.YtaoiiocgnnjnnaaDoorKyIs
import Derived.Test.YtaoiiocgnnjnnaaDoorKyRets
namespace Go.Proofs.YtaoiiocgnnjnnaaDoor
open Go.RowKit
attribute [local go_sem] ext_take at_str

theorem drop_at {s : List UInt8} {a j : Nat} (h : a + j < s.length) : valB ((s.drop a).take (j + 1)) = valB ((s.drop a).take j) * 256 + (s[a + j]).toNat := by
  have hj : j < (s.drop a).length := by simp; omega
  rw [List.take_succ_eq_append_getElem hj, valB_snoc]
  simp
theorem cut_is {s : List UInt8} {L : Nat} (hL : s.length = L + 5) : cutK s = (s.take L, 4294967295 - (valB (s.drop (L + 1)) : Int)) := by
  unfold cutK
  rw [hL, show L + 5 - 5 = L by omega, show L + 5 - 4 = L + 1 by omega]
/-- Behind a refusal: the result's box is written anew. -/
theorem key_ends {w1 : World} {B : Nat} {v0 v1 : Value} (h : Cx w1 B 23 [v0, v1]) (x y : Value) : ((w1.setCell ⟨B, 0, none⟩ x).setCell ⟨B, 1, none⟩ y).cell? ⟨B, 0, none⟩ = some x ∧ ((w1.setCell ⟨B, 0, none⟩ x).setCell ⟨B, 1, none⟩ y).cell? ⟨B, 1, none⟩ = some y :=
  ⟨(h.sets x y).two.1, (h.sets x y).two.2.1⟩

set_option maxHeartbeats 4000000 in
theorem kGet_calls (s : List UInt8) (hl : s.length ≤ 1000000) (w : World) (hm : Ml w) :
    Calls Tryd.prog 11 #[.string ⟨s.toArray⟩] w fun e w' => e = .returned (.tuple #[.agg #[.string ⟨(getK s).1.toArray⟩, .int .i64 (getK s).2], .int .i64 (getE s)]) ∧ Below w.heap.size w w' := by
  have hC0 := Lib.hid (Cx.new w 23 [.string ⟨#[]⟩, .int .i64 0])
  by_cases h5 : s.length < 5
  · have hb : getB s = false := by
      unfold getB
      rw [decide_eq_false (by omega)]; rfl
    have H1 := Lib.hid (show getK s = ([], 0) by simp [getK, hb])
    have H2 := Lib.hid (show getE s = 30 by simp [getE, hb])
    have hc : ((s.length : Int) - 5 < 0) := by omega
    rw [H1.out, H2.out]
    go_enter Tryd.func11, Tryd.ntmps11
    go_wp2_with fail
    obtain ⟨d0, d1, _⟩ := hC0.out.two
    exact ret_key2 rfl rfl w.heap.size _ _ _ rfl rfl d0 d1 ⟨rfl, below_alloc _ _⟩
  · obtain ⟨L, hL⟩ : ∃ L, s.length = L + 5 := ⟨s.length - 5, by omega⟩
    have hlt : L < s.length := by omega
    have hi : s[s.length - 5]? = some s[L] := by
      rw [show s.length - 5 = L by omega, List.getElem?_eq_getElem hlt]
    obtain ⟨p, n, hcut⟩ : ∃ p n, cutK s = (p, n) := ⟨_, _, rfl⟩
    have hc := cut_is hL
    rw [hcut] at hc
    have hp : s.take L = p := (congrArg Prod.fst hc).symm
    have hn : 4294967295 - (valB (s.drop (L + 1)) : Int) = n := (congrArg Prod.snd hc).symm
    have HP := Lib.hid hp
    have HN := Lib.hid hn
    have hpl : p.length ≤ 1000000 := by rw [← hp, List.length_take]; omega
    have hLn : decide ((L : Int) < 0) = false := by rw [decide_eq_false_iff_not]; omega
    clear h5 hc hp hn
    by_cases h0 : s[L] = 0
    · have hz : (((s[L]'hlt).toNat : Int) != 0) = false := by rw [h0]; rfl
      have hg : getB s = keyB (p, n) := by
        unfold getB
        rw [decide_eq_true (by omega), hi, h0, hcut]; rfl
      have HD : s.drop (L + 1) = (s.drop (L + 1)).take 4 := (List.take_of_length_le (by simp; omega)).symm
      have HL := Lib.hid HD
      clear HD h0 hi
      have HG := Lib.hid hg
      clear hg
      have HC := Lib.hid hcut
      clear hcut
      go_enter Tryd.func11, Tryd.ntmps11
      go_wp2_with fail
      go_loop [5, 6] (fun v i => ∃ k : Nat, k ≤ 4 ∧ i = .int .i64 ((L : Int) + 1 + k) ∧ v = .int .i64 (valB ((s.drop (L + 1)).take k) : Nat)) (fun _ i => s.length - (intOf i).toNat)
      case atStart => exact ⟨0, Nat.zero_le _, by go_num, rfl⟩
      case round =>
        obtain ⟨k, hk, rfl, rfl⟩ := hrel
        by_cases hk4 : k < 4
        · have hkl : L + 1 + k < s.length := by omega
          have hvb := valB_small ((s.drop (L + 1)).take k) (by rw [List.length_take]; omega)
          have HS := Lib.hid (drop_at hkl)
          go_wp2_with fail
          go_round
          case rel => exact ⟨k + 1, by omega, by go_num, by rw [HS.out, or_step _ _ hvb (UInt8.toNat_lt _)]⟩
          case measure => simp [intOf]; omega
        · obtain rfl : k = 4 := by omega
          obtain ⟨V, hV⟩ : ∃ V : Nat, valB ((s.drop (L + 1)).take 4) = V := ⟨_, rfl⟩
          have hV4 : V ≤ 4294967295 := by rw [← hV]; exact valB_small _ (by simp; omega)
          have hVn : 4294967295 - (V : Int) = n := by rw [← hV, ← HL.out]; exact HN.out
          have hpt := HP.out
          rw [hV]
          clear hV
          cases hk : keyB (p, n) with
          | false =>
            have HK := Lib.hid hk
            have H1 := Lib.hid (show getK s = ([], 0) by unfold getK; rw [HG.out, hk]; rfl)
            have H2 := Lib.hid (show getE s = 30 by unfold getE; rw [HG.out, hk]; rfl)
            clear hk
            go_wp2_with fail
            refine (kIs_calls p n (by omega) _ (hm.below (below_alloc2 _ _ _))).mono ?_
            rintro e w1 ⟨rfl, hB1⟩
            obtain ⟨c0, c1, f0, f1, hlt⟩ := ((hC0.out.below (below_alloc _ _)).below hB1).two
            have hC := Lib.hid ((hC0.out.below (below_alloc _ _)).below hB1)
            rw [HK.out]
            go_wp2_with fail
            obtain ⟨d0, d1⟩ := key_ends hC.out (.string ⟨#[]⟩) (.int .i64 0)
            exact ret_key2 rfl rfl w.heap.size _ _ _ rfl rfl d0 d1 ⟨by rw [H1.out, H2.out]; rfl, below_sets (below2 (below_alloc2 _ _ _) hB1) (Nat.le_refl _) _ _⟩
          | true =>
            have HK := Lib.hid hk
            have H1 := Lib.hid (show getK s = (p, n) by unfold getK; rw [HG.out, hk, if_pos rfl]; exact HC.out)
            have H2 := Lib.hid (show getE s = 0 by unfold getE; rw [HG.out, hk]; rfl)
            clear hk
            go_wp2_with fail
            refine (kIs_calls p n (by omega) _ (hm.below (below_alloc2 _ _ _))).mono ?_
            rintro e w1 ⟨rfl, hB1⟩
            obtain ⟨c0, c1, f0, f1, hlt⟩ := ((hC0.out.below (below_alloc _ _)).below hB1).two
            have hC := Lib.hid ((hC0.out.below (below_alloc _ _)).below hB1)
            have hD := (Cx.new (w.alloc (.cells #[.string ⟨#[]⟩, .int .i64 0] 23)) 23 [.string ⟨p.toArray⟩, .int .i64 n]).below hB1
            rw [World.size_alloc] at hD
            obtain ⟨c2, c3, _⟩ := hD.two
            clear hD
            rw [HK.out]
            go_wp2_with fail
            obtain ⟨d0, d1⟩ := key_ends hC.out (.string ⟨p.toArray⟩) (.int .i64 n)
            exact ret_key2 rfl rfl w.heap.size _ _ _ rfl rfl d0 d1 ⟨by rw [H1.out, H2.out]; rfl, below_sets (below2 (below_alloc2 _ _ _) hB1) (Nat.le_refl _) _ _⟩
    · have hz : (((s[L]'hlt).toNat : Int) != 0) = true := by
        simp only [bne_iff_ne, ne_eq]
        intro e
        exact h0 (UInt8.toNat_inj.1 (by simpa using e))
      have hb : getB s = false := by
        unfold getB
        rw [hi]
        have : (some s[L] == some (0 : UInt8)) = false := by simpa using h0
        rw [this]; simp
      have H1 := Lib.hid (show getK s = ([], 0) by simp [getK, hb])
      have H2 := Lib.hid (show getE s = 30 by simp [getE, hb])
      rw [H1.out, H2.out]
      clear hb hi h0 hcut
      go_enter Tryd.func11, Tryd.ntmps11
      go_wp2_with fail
      obtain ⟨d0, d1, _⟩ := hC0.out.two
      exact ret_key2 rfl rfl w.heap.size _ _ _ rfl rfl d0 d1 ⟨rfl, below_alloc _ _⟩

end Go.Proofs.YtaoiiocgnnjnnaaDoor
