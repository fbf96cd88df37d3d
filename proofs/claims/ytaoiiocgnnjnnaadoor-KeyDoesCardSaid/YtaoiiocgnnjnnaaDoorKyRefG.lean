/-
  The document's own Get of a key.
-/
import Derived.Test.YtaoiiocgnnjnnaaDoorKyGet
import Derived.Test.YtaoiiocgnnjnnaaDoorKyRefP
namespace Go.Proofs.YtaoiiocgnnjnnaaDoor
open Go.RowKit
attribute [local go_sem] ext_take at_str

theorem mul_step (a b : Nat) (ha : a ≤ 4294967295) (hb : b < 256) : wrap64 (256 * (a : Int) + wrap64 (b : Int)) = ((a * 256 + b : Nat) : Int) := by
  have hw : wrap64 (b : Int) = (b : Int) := IntWalk.wrap64_in _ ⟨by omega, by omega⟩
  rw [hw, IntWalk.wrap64_in _ ⟨by omega, by omega⟩]
  omega

set_option maxHeartbeats 4000000 in
theorem kRefGet_calls (s : List UInt8) (hl : s.length ≤ 1000000) (w : World) :
    Calls Tryd.prog 12 #[.string ⟨s.toArray⟩] w fun e w' => e = .returned (.tuple #[.agg #[.string ⟨(getK s).1.toArray⟩, .int .i64 (getK s).2], .int .i64 (getE s)]) ∧ Below w.heap.size w w' := by
  have hC0 := Lib.hid (Cx.new w 23 [.string ⟨#[]⟩, .int .i64 0])
  by_cases h5 : s.length < 5
  · have hb : getB s = false := by
      unfold getB
      rw [decide_eq_false (by omega)]; rfl
    have H1 := Lib.hid (show getK s = ([], 0) by simp [getK, hb])
    have H2 := Lib.hid (show getE s = 30 by simp [getE, hb])
    have hc : ((s.length : Int) - 5 < 0) := by omega
    rw [H1.out, H2.out]
    go_enter Tryd.func12, Tryd.ntmps12
    go_wp2_with fail
    obtain ⟨d0, d1, _⟩ := hC0.out.two
    exact ret_key2 rfl rfl w.heap.size _ _ _ rfl rfl d0 d1 ⟨rfl, below_alloc _ _⟩
  · obtain ⟨L, hL⟩ : ∃ L, s.length = L + 5 := ⟨s.length - 5, by omega⟩
    have hlt : L < s.length := by omega
    obtain ⟨p, n, hcut⟩ : ∃ p n, cutK s = (p, n) := ⟨_, _, rfl⟩
    have hc := cut_is hL
    rw [hcut] at hc
    have hp : s.take L = p := (congrArg Prod.fst hc).symm
    have hn : 4294967295 - (valB (s.drop (L + 1)) : Int) = n := (congrArg Prod.snd hc).symm
    have HP := Lib.hid hp
    have HN := Lib.hid hn
    have hpl : p.length ≤ 1000000 := by rw [← hp, List.length_take]; omega
    have hLn : decide ((L : Int) < 0) = false := by rw [decide_eq_false_iff_not]; omega
    clear h5 hc hp hn
    have hg := getB_ref (s := s) (by omega)
    rw [hcut] at hg
    have HD : s.drop (L + 1) = (s.drop (L + 1)).take 4 := (List.take_of_length_le (by simp; omega)).symm
    have HL := Lib.hid HD
    clear HD
    have HG := Lib.hid hg
    clear hg
    have HC := Lib.hid hcut
    clear hcut
    go_enter Tryd.func12, Tryd.ntmps12
    go_wp2_with fail
    go_loop [5, 6] (fun v i => ∃ k : Nat, k ≤ 4 ∧ i = .int .i64 ((L : Int) + 1 + k) ∧ v = .int .i64 (valB ((s.drop (L + 1)).take k) : Nat)) (fun _ i => s.length - (intOf i).toNat)
    case atStart => exact ⟨0, Nat.zero_le _, by go_num, rfl⟩
    case round =>
      obtain ⟨k, hk, rfl, rfl⟩ := hrel
      by_cases hk4 : k < 4
      · have hkl : L + 1 + k < s.length := by omega
        have hvb := valB_small ((s.drop (L + 1)).take k) (by rw [List.length_take]; omega)
        have HS := Lib.hid (drop_at hkl)
        go_wp2_with fail
        go_round
        case rel => exact ⟨k + 1, by omega, by go_num, by rw [HS.out, mul_step _ _ hvb (UInt8.toNat_lt _)]⟩
        case measure => simp [intOf]; omega
      · obtain rfl : k = 4 := by omega
        obtain ⟨V, hV⟩ : ∃ V : Nat, valB ((s.drop (L + 1)).take 4) = V := ⟨_, rfl⟩
        have hV4 : V ≤ 4294967295 := by rw [← hV]; exact valB_small _ (by simp; omega)
        have hVn : 4294967295 - (V : Int) = n := by rw [← hV, ← HL.out]; exact HN.out
        have hpt := HP.out
        rw [hV]
        clear hV
        cases hk : keyB (p, n) with
        | false =>
          have HE := Lib.hid (show putE (p, n) = 1 by simp [putE, hk])
          have HT := Lib.hid (show putT (p, n) = [] by simp [putT, hk])
          have H1 := Lib.hid (show getK s = ([], 0) by unfold getK; rw [HG.out, hk]; rfl)
          have H2 := Lib.hid (show getE s = 30 by unfold getE; rw [HG.out, hk]; rfl)
          clear hk
          go_wp2_with fail
          refine (kRefPut_calls p n (by omega) _).mono ?_
          rintro e w1 ⟨rfl, hB1⟩
          obtain ⟨c0, c1, f0, f1, hlt⟩ := ((hC0.out.below (below_alloc _ _)).below hB1).two
          have hC := Lib.hid ((hC0.out.below (below_alloc _ _)).below hB1)
          rw [HE.out, HT.out]
          go_wp2_with fail
          obtain ⟨d0, d1⟩ := key_ends hC.out (.string ⟨#[]⟩) (.int .i64 0)
          exact ret_key2 rfl rfl w.heap.size _ _ _ rfl rfl d0 d1 ⟨by rw [H1.out, H2.out]; rfl, below_sets (below2 (below_alloc2 _ _ _) hB1) (Nat.le_refl _) _ _⟩
        | true =>
          have HE := Lib.hid (show putE (p, n) = 0 by simp [putE, hk])
          obtain ⟨T, hTT⟩ : ∃ T, keyT (p, n) = T := ⟨_, rfl⟩
          have HT := Lib.hid (show putT (p, n) = T by simp [putT, hk, hTT])
          cases hTs : (T == s) with
          | false =>
            have H1 := Lib.hid (show getK s = ([], 0) by unfold getK; rw [HG.out, hk, HC.out, hTT, hTs]; rfl)
            have H2 := Lib.hid (show getE s = 30 by unfold getE; rw [HG.out, hk, hTT, hTs]; rfl)
            clear hk hTT
            go_wp2_with fail
            refine (kRefPut_calls p n (by omega) _).mono ?_
            rintro e w1 ⟨rfl, hB1⟩
            obtain ⟨c0, c1, f0, f1, hlt⟩ := ((hC0.out.below (below_alloc _ _)).below hB1).two
            have hC := Lib.hid ((hC0.out.below (below_alloc _ _)).below hB1)
            rw [HE.out, HT.out]
            go_wp2_with fail
            obtain ⟨d0, d1⟩ := key_ends hC.out (.string ⟨#[]⟩) (.int .i64 0)
            exact ret_key2 rfl rfl w.heap.size _ _ _ rfl rfl d0 d1 ⟨by rw [H1.out, H2.out]; rfl, below_sets (below2 (below_alloc2 _ _ _) hB1) (Nat.le_refl _) _ _⟩
          | true =>
            have H1 := Lib.hid (show getK s = (p, n) by unfold getK; rw [HG.out, hk, HC.out, hTT, hTs]; rfl)
            have H2 := Lib.hid (show getE s = 0 by unfold getE; rw [HG.out, hk, hTT, hTs]; rfl)
            clear hk hTT
            go_wp2_with fail
            refine (kRefPut_calls p n (by omega) _).mono ?_
            rintro e w1 ⟨rfl, hB1⟩
            obtain ⟨c0, c1, f0, f1, hlt⟩ := ((hC0.out.below (below_alloc _ _)).below hB1).two
            have hC := Lib.hid ((hC0.out.below (below_alloc _ _)).below hB1)
            have hD := (Cx.new (w.alloc (.cells #[.string ⟨#[]⟩, .int .i64 0] 23)) 23 [.string ⟨p.toArray⟩, .int .i64 n]).below hB1
            rw [World.size_alloc] at hD
            obtain ⟨c2, c3, _⟩ := hD.two
            clear hD
            rw [HE.out, HT.out]
            go_wp2_with fail
            obtain ⟨d0, d1⟩ := key_ends hC.out (.string ⟨p.toArray⟩) (.int .i64 n)
            exact ret_key2 rfl rfl w.heap.size _ _ _ rfl rfl d0 d1 ⟨by rw [H1.out, H2.out]; rfl, below_sets (below2 (below_alloc2 _ _ _) hB1) (Nat.le_refl _) _ _⟩

end Go.Proofs.YtaoiiocgnnjnnaaDoor
