/-
  The walk of NodeLevels.
-/
import Derived.Test.YtjfhhddiinpbpaaNdNodes
import Derived.Test.YtjfhhddiinpbpaaNdRefS
namespace Go.Proofs.Ytjfhhddiinpbpaa
open Go.RowKit

set_option maxRecDepth 100000 in
set_option maxHeartbeats 16000000 in
theorem nodeLevels_walk (va : Value) (la : List Pr) (vb : Value) (lb : List Pr) (most : Int) (w : World) (ha : Prs w va la) (hka : la.length ≤ maxLen) (hb : Prs w vb lb) (hkb : lb.length ≤ maxLen) (_ : (Lit.int .i64 most).wf = true) :
    Calls Try.prog 6 #[va, vb, .int .i64 most] w fun e w' => e = .returned (.bool true) ∧ Below w.heap.size w w' := by
  obtain ⟨aa, ca, rfl⟩ := ha.form
  obtain ⟨ab, cb, rfl⟩ := hb.form
  have hka' : la.length ≤ 9223372036854775807 := by unfold maxLen at hka; exact hka
  have hkb' : lb.length ≤ 9223372036854775807 := by unfold maxLen at hkb; exact hkb
  have CA := big_calls _ la w ha hka'
  have CB := big_calls _ lb w hb hkb'
  have HA := Lib.hid ha
  have HB := Lib.hid hb
  clear ha hb hka hkb hka' hkb'
  cases hba : bigP la with
  | true =>
    rw [hba] at CA
    have KA := Lib.hid CA
    clear CA CB hba
    go_enter Try.func6, Try.ntmps6
    go_wp2_with fail
    refine KA.out.mono ?_
    rintro e w1 ⟨rfl, rfl⟩
    go_wp2_with fail
    go_ret
    exact ⟨rfl, Below.refl _ _⟩
  | false =>
    rw [hba] at CA
    have KA := Lib.hid CA
    clear CA
    cases hbb : bigP lb with
    | true =>
      rw [hbb] at CB
      have KB := Lib.hid CB
      clear CB hba hbb
      go_enter Try.func6, Try.ntmps6
      go_wp2_with fail
      refine KA.out.mono ?_
      rintro e w1 ⟨rfl, rfl⟩
      go_wp2_with fail
      refine KB.out.mono ?_
      rintro e w1 ⟨rfl, rfl⟩
      go_wp2_with fail
      go_ret
      exact ⟨rfl, Below.refl _ _⟩
    | false =>
      rw [hbb] at CB
      have KB := Lib.hid CB
      have hla := small_facts hba
      have hlb := small_facts hbb
      clear CB hba hbb
      obtain ⟨L, hL⟩ : ∃ L, la ++ lb = L := ⟨_, rfl⟩
      have hq0 : la.length + lb.length = L.length := by rw [← hL, List.length_append]
      have HL := Lib.hid hL
      obtain ⟨ka, hk1⟩ : ∃ k, la.length = k := ⟨_, rfl⟩
      obtain ⟨kb, hk2⟩ : ∃ k, lb.length = k := ⟨_, rfl⟩
      obtain ⟨q, hq⟩ : ∃ q, L.length = q := ⟨_, rfl⟩
      rw [hk1] at HA KA hla hq0
      rw [hk2] at HB KB hlb hq0
      rw [hq] at hq0
      have CLev := Lib.hid (fun (u v : Value) (W : World) (h1 : Prs W u la) (h2 : Prs W v lb) => level_calls u v la lb most W h1 h2 (by omega) (by omega))
      have CSp := Lib.hid (fun (u : Value) (W : World) (h1 : Prs W u L) => split_calls u L W h1 (by omega))
      have CSm := Lib.hid (fun (u v : Value) (W : World) (h1 : Prs W u L) (h2 : Prs W v L) => KSame h1 h2 (by omega))
      have HQ := Lib.hid (And.intro hk1 (And.intro hk2 hq))
      rw [hk1, hk2]
      clear hL hk1 hk2 hq
      go_enter Try.func6, Try.ntmps6
      go_wp2_with fail
      refine KA.out.mono ?_
      rintro e w1 ⟨rfl, rfl⟩
      go_wp2_with fail
      refine KB.out.mono ?_
      rintro e w1 ⟨rfl, rfl⟩
      go_wp2_with (at_builtin; first
        | (refine wpList_append_prs rfl (.tmp 21) (.tmp 22) rfl w.heap.size _ [] rfl (OwnP.nil _ _) aa ka ca la rfl HA.out la rfl ka HQ.out.1 (by omega) w (Below.refl _ _) (Nat.le_refl _) ?_; intro a1 c1 w1 ho1 hB1; have HO1 := Lib.hid ho1; clear ho1)
        | (refine wpList_append_prs rfl (.tmp 24) (.tmp 25) rfl w.heap.size _ la rfl HO1.out ab kb cb lb rfl (HB.out.below hB1) L HL.out q HQ.out.2.2 (by omega) w hB1 (Nat.le_refl _) ?_; intro a2 c2 w2 ho2 hB2; have HO2 := Lib.hid ho2.prs; clear ho2))
      rcases (by omega : most < 1 ∨ (¬ most < 1 ∧ (q : Int) ≤ most) ∨ (¬ most < 1 ∧ ¬ (q : Int) ≤ most)) with h1 | ⟨h1, h2⟩ | ⟨h1, h2⟩
      · have EL := Lib.hid (show levE most = 1 ∧ levA (la ++ lb) most = [] ∧ levB (la ++ lb) most = [] by unfold levE levA levB; simp [h1])
        refine (CLev.out _ _ _ (HA.out.below hB2) (HB.out.below hB2)).mono ?_
        rintro e w3 ⟨ax, nx, cx, ay, ny, cy, rfl, hox, hoy, _, _, hB3⟩
        rw [EL.out.2.1] at hox
        rw [EL.out.2.2] at hoy
        rw [EL.out.1]
        have hnx := hox.prs.len
        have hny := hoy.prs.len
        have HO3 := Lib.hid (HO2.out.below hB3)
        have HX := Lib.hid hox.prs
        have HY := Lib.hid hoy.prs
        clear hox hoy
        obtain rfl := hnx
        obtain rfl := hny
        go_wp2_with fail
        refine (CSp.out _ _ HO3.out).mono ?_
        rintro e w4 ⟨au, nu, cu, av, nv, cv, rfl, hou, hov, _, _, hB4⟩
        have hnu := hou.prs.len
        have hnv := hov.prs.len
        rw [HQ.out.2.2, List.length_take, HQ.out.2.2] at hnu
        rw [HQ.out.2.2, List.length_drop, HQ.out.2.2] at hnv
        have HU := Lib.hid hou.prs
        have HV := Lib.hid hov.prs
        have HA4 := Lib.hid (HO3.out.below hB4)
        have hBB4 := below3 hB2 hB3 hB4
        clear hou hov
        go_wp2_with fail
        refine (nodes_calls _).mono ?_
        rintro e w5 ⟨rfl, hB5⟩
        go_wp2_with fail
        go_ret
        exact ⟨rfl, below2 hBB4 hB5⟩
      · have EL := Lib.hid (show levE most = 0 ∧ levA (la ++ lb) most = L ∧ levB (la ++ lb) most = [] by unfold levE levA levB; rw [HL.out, HQ.out.2.2]; simp [h1, h2])
        refine (CLev.out _ _ _ (HA.out.below hB2) (HB.out.below hB2)).mono ?_
        rintro e w3 ⟨ax, nx, cx, ay, ny, cy, rfl, hox, hoy, _, _, hB3⟩
        rw [EL.out.2.1] at hox
        rw [EL.out.2.2] at hoy
        rw [EL.out.1]
        have hnx := hox.prs.len
        have hny := hoy.prs.len
        have HO3 := Lib.hid (HO2.out.below hB3)
        have HX := Lib.hid hox.prs
        have HY := Lib.hid hoy.prs
        clear hox hoy
        rw [HQ.out.2.2] at hnx
        have hnx2 : q = nx := hnx
        obtain rfl := hnx2
        obtain rfl := hny
        go_wp2_with fail
        refine (CSp.out _ _ HO3.out).mono ?_
        rintro e w4 ⟨au, nu, cu, av, nv, cv, rfl, hou, hov, _, _, hB4⟩
        have hnu := hou.prs.len
        have hnv := hov.prs.len
        rw [HQ.out.2.2, List.length_take, HQ.out.2.2] at hnu
        rw [HQ.out.2.2, List.length_drop, HQ.out.2.2] at hnv
        have HU := Lib.hid hou.prs
        have HV := Lib.hid hov.prs
        have HA4 := Lib.hid (HO3.out.below hB4)
        have hBB4 := below3 hB2 hB3 hB4
        clear hou hov
        have hle : nu ≤ nv := by omega
        have hle2 : nv ≤ nu + 1 := by omega
        have hsum : nu + nv = q := by omega
        have hd1 : decide ((0 : Int) ≤ (nv : Int) - (nu : Int)) = true := by rw [decide_eq_true_iff]; omega
        have hd2 : decide ((nv : Int) - (nu : Int) ≤ 1) = true := by rw [decide_eq_true_iff]; omega
        have HX4 := Lib.hid (HX.out.below hB4)
        have HY4 := Lib.hid (HY.out.below hB4)
        have EU := Lib.hid (show L.take (L.length / 2) ++ L.drop (L.length / 2) = L from List.take_append_drop _ _)
        clear hnu hnv
        go_wp2_with (at_builtin; first
          | (refine wpList_append_prs rfl (.tmp 55) (.tmp 56) rfl w4.heap.size _ ([]) rfl (OwnP.nil _ _) ax q cx (L) rfl HX4.out (L) rfl q HX4.out.len (by omega) w4 (Below.refl _ _) (Nat.le_refl _) ?_; intro a5 c5 w5 ho5 hB5; have HO5 := Lib.hid ho5; clear ho5)
          | (refine wpList_append_prs rfl (.tmp 58) (.tmp 59) rfl w4.heap.size _ (L) rfl HO5.out ay 0 cy ([]) rfl (HY4.out.below hB5) (L) (List.append_nil _) q HQ.out.2.2 (by omega) w4 hB5 (Nat.le_refl _) ?_; intro a6 c6 w6 ho6 hB6; have HO6 := Lib.hid ho6.prs; clear ho6)
          | (refine wpList_append_prs rfl (.tmp 61) (.tmp 62) rfl w6.heap.size _ ([]) rfl (OwnP.nil _ _) au nu cu (L.take (L.length / 2)) rfl (HU.out.below hB6) (L.take (L.length / 2)) rfl nu HU.out.len (by omega) w6 (Below.refl _ _) (Nat.le_refl _) ?_; intro a7 c7 w7 ho7 hB7; have HO7 := Lib.hid ho7; clear ho7)
          | (refine wpList_append_prs rfl (.tmp 64) (.tmp 65) rfl w6.heap.size _ (L.take (L.length / 2)) rfl HO7.out av nv cv (L.drop (L.length / 2)) rfl (HV.out.below (below2 hB6 hB7)) (L) EU.out q HQ.out.2.2 (by omega) w6 hB7 (Nat.le_refl _) ?_; intro a8 c8 w8 ho8 hB8; have HO8 := Lib.hid ho8.prs; clear ho8))
        refine (nodes_calls _).mono ?_
        rintro e w9 ⟨rfl, hB9⟩
        go_wp2_with fail
        refine (CSm.out _ _ _ (HO6.out.below (below2 hB8 hB9)) (HA4.out.below (below3 hB6 hB8 hB9))).mono ?_
        rintro e w10 ⟨rfl, hB10⟩
        go_wp2_with fail
        refine (CSm.out _ _ _ (HO8.out.below (below2 hB9 hB10)) (HA4.out.below (below2 (below3 hB6 hB8 hB9) hB10))).mono ?_
        rintro e w11 ⟨rfl, hB11⟩
        go_wp2_with fail
        go_ret
        exact ⟨rfl, below3 (below3 hBB4 hB6 hB8) (below2 hB9 hB10) hB11⟩
      · have EL := Lib.hid (show levE most = 0 ∧ levA (la ++ lb) most = L.take (L.length / 2) ∧ levB (la ++ lb) most = L.drop (L.length / 2) by unfold levE levA levB; rw [HL.out, HQ.out.2.2]; simp [h1, h2])
        refine (CLev.out _ _ _ (HA.out.below hB2) (HB.out.below hB2)).mono ?_
        rintro e w3 ⟨ax, nx, cx, ay, ny, cy, rfl, hox, hoy, _, _, hB3⟩
        rw [EL.out.2.1] at hox
        rw [EL.out.2.2] at hoy
        rw [EL.out.1]
        have hnx := hox.prs.len
        have hny := hoy.prs.len
        have HO3 := Lib.hid (HO2.out.below hB3)
        have HX := Lib.hid hox.prs
        have HY := Lib.hid hoy.prs
        clear hox hoy
        rw [HQ.out.2.2, List.length_take, HQ.out.2.2] at hnx
        rw [HQ.out.2.2, List.length_drop, HQ.out.2.2] at hny
        go_wp2_with fail
        refine (CSp.out _ _ HO3.out).mono ?_
        rintro e w4 ⟨au, nu, cu, av, nv, cv, rfl, hou, hov, _, _, hB4⟩
        have hnu := hou.prs.len
        have hnv := hov.prs.len
        rw [HQ.out.2.2, List.length_take, HQ.out.2.2] at hnu
        rw [HQ.out.2.2, List.length_drop, HQ.out.2.2] at hnv
        have HU := Lib.hid hou.prs
        have HV := Lib.hid hov.prs
        have HA4 := Lib.hid (HO3.out.below hB4)
        have hBB4 := below3 hB2 hB3 hB4
        clear hou hov
        obtain rfl : nu = nx := by omega
        obtain rfl : nv = ny := by omega
        have hpos : 0 < nv := by omega
        have hz : ((nv : Int) == 0) = false := by rw [beq_eq_false_iff_ne]; omega
        have hle : nu ≤ nv := by omega
        have hle2 : nv ≤ nu + 1 := by omega
        have hsum : nu + nv = q := by omega
        have hd1 : decide ((0 : Int) ≤ (nv : Int) - (nu : Int)) = true := by rw [decide_eq_true_iff]; omega
        have hd2 : decide ((nv : Int) - (nu : Int) ≤ 1) = true := by rw [decide_eq_true_iff]; omega
        have hd3 : decide (most < (q : Int)) = true := by rw [decide_eq_true_iff]; omega
        have HX4 := Lib.hid (HX.out.below hB4)
        have HY4 := Lib.hid (HY.out.below hB4)
        have EU := Lib.hid (show L.take (L.length / 2) ++ L.drop (L.length / 2) = L from List.take_append_drop _ _)
        clear hnu hnv hnx hny
        go_wp2_with (at_builtin; first
          | (refine wpList_append_prs rfl (.tmp 55) (.tmp 56) rfl w4.heap.size _ ([]) rfl (OwnP.nil _ _) ax nu cx (L.take (L.length / 2)) rfl HX4.out (L.take (L.length / 2)) rfl nu HX4.out.len (by omega) w4 (Below.refl _ _) (Nat.le_refl _) ?_; intro a5 c5 w5 ho5 hB5; have HO5 := Lib.hid ho5; clear ho5)
          | (refine wpList_append_prs rfl (.tmp 58) (.tmp 59) rfl w4.heap.size _ (L.take (L.length / 2)) rfl HO5.out ay nv cy (L.drop (L.length / 2)) rfl (HY4.out.below hB5) (L) EU.out q HQ.out.2.2 (by omega) w4 hB5 (Nat.le_refl _) ?_; intro a6 c6 w6 ho6 hB6; have HO6 := Lib.hid ho6.prs; clear ho6)
          | (refine wpList_append_prs rfl (.tmp 61) (.tmp 62) rfl w6.heap.size _ ([]) rfl (OwnP.nil _ _) au nu cu (L.take (L.length / 2)) rfl (HU.out.below hB6) (L.take (L.length / 2)) rfl nu HU.out.len (by omega) w6 (Below.refl _ _) (Nat.le_refl _) ?_; intro a7 c7 w7 ho7 hB7; have HO7 := Lib.hid ho7; clear ho7)
          | (refine wpList_append_prs rfl (.tmp 64) (.tmp 65) rfl w6.heap.size _ (L.take (L.length / 2)) rfl HO7.out av nv cv (L.drop (L.length / 2)) rfl (HV.out.below (below2 hB6 hB7)) (L) EU.out q HQ.out.2.2 (by omega) w6 hB7 (Nat.le_refl _) ?_; intro a8 c8 w8 ho8 hB8; have HO8 := Lib.hid ho8.prs; clear ho8))
        refine (nodes_calls _).mono ?_
        rintro e w9 ⟨rfl, hB9⟩
        go_wp2_with fail
        refine (CSm.out _ _ _ (HO6.out.below (below2 hB8 hB9)) (HA4.out.below (below3 hB6 hB8 hB9))).mono ?_
        rintro e w10 ⟨rfl, hB10⟩
        go_wp2_with fail
        refine (CSm.out _ _ _ (HO8.out.below (below2 hB9 hB10)) (HA4.out.below (below2 (below3 hB6 hB8 hB9) hB10))).mono ?_
        rintro e w11 ⟨rfl, hB11⟩
        go_wp2_with fail
        go_ret
        exact ⟨rfl, below3 (below3 hBB4 hB6 hB8) (below2 hB9 hB10) hB11⟩

end Go.Proofs.Ytjfhhddiinpbpaa
