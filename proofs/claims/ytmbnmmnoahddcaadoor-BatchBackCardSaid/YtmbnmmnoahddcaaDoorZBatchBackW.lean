/-
  BatchBack, walked.
-/
import Derived.Test.YtmbnmmnoahddcaaDoorPks14
namespace Go.Proofs.YtmbnmmnoahddcaaDoor
set_option maxRecDepth 100000
open Go.RowKit

theorem flat_le {ls : List (List UInt8)} {k : Nat} (h : ∀ t ∈ ls, t.length ≤ k) : ls.flatten.length ≤ ls.length * k := by
  induction ls with
  | nil => simp
  | cons t r ih =>
    have h1 := h t (by simp)
    have h2 := ih fun x hx => h x (List.mem_cons_of_mem _ hx)
    rw [List.flatten_cons, List.length_append, List.length_cons, Nat.succ_mul]
    omega
theorem putBT_len (l : List Cg) : (putBT l).length ≤ 1000000 := by
  cases h : isB l with
  | false => rw [(baPut_no h).1]; simp
  | true =>
    rw [(baPut_yes h).1]
    obtain ⟨_, h2, h3, _⟩ := isB_iff.1 h
    unfold rowB
    have h4 := rowL_fine h3
    have h5 := flat_le (ls := (rowL l).map txtB) (k := 4005) (by
      intro t ht
      obtain ⟨x, hx, rfl⟩ := List.mem_map.1 ht
      have := h4 x hx
      have h6 := txtB_length x
      have h7 := wid_le x.length
      omega)
    rw [List.length_append, numB_length]
    have h8 := wid_le (rowL l).length
    rw [List.length_map, rowL_len] at h5
    have h9 : 2 * l.length * 4005 ≤ 40 * 4005 := Nat.mul_le_mul_right _ (by omega)
    omega
theorem got_few (s : List UInt8) : SmallC (gotC s) ∧ (gotC s).length ≤ 20 := by
  cases h : getC s with
  | none => rw [(got_none h).1]; exact ⟨fun c hc => (by cases hc), by simp⟩
  | some l => rw [(got_some h).1]; exact isB_smallC (put_get_ba h).1
/-- What is got is put: nothing, or the bytes themselves. -/
theorem got_put (s : List UInt8) : (gotCE s = 30 ∧ putBE (gotC s) = 1 ∧ putBT (gotC s) = []) ∨ (gotCE s = 0 ∧ putBE (gotC s) = 0 ∧ putBT (gotC s) = s) := by
  cases h : getC s with
  | none =>
    obtain ⟨h1, h2⟩ := got_none h
    rw [h1, h2]
    exact .inl ⟨rfl, (baPut_no (by decide)).2, (baPut_no (by decide)).1⟩
  | some l =>
    obtain ⟨h1, h2⟩ := got_some h
    obtain ⟨h3, h4⟩ := put_get_ba h
    rw [h1, h2]
    exact .inr ⟨rfl, (baPut_yes h3).2.1, h4⟩
/-- Norm, Norm of it, its bytes, and what is got of them. -/
theorem norm_around (l : List Cg) : (normE l = 1 ∧ isB l = false) ∨ (normE l = 0 ∧ isB (normL l) = true ∧ normE (normL l) = 0 ∧ normL (normL l) = normL l ∧ putBE (normL l) = 0 ∧ gotCE (putBT (normL l)) = 0 ∧ gotC (putBT (normL l)) = normL l ∧ isB l = (normL l == l)) := by
  cases h : normB l with
  | false =>
    refine .inl ⟨(norm_no h).2, ?_⟩
    cases hb : isB l with
    | false => rfl
    | true => rw [(isB_norm hb).1] at h; cases h
  | true =>
    obtain ⟨h1, h2⟩ := norm_yes h
    have h3 := normB_isB h
    obtain ⟨_, h5, h6⟩ := isB_norm h3
    have h7 := got_some (baGet_put h3)
    rw [h1, h2]
    refine .inr ⟨rfl, h3, h6, h5, (baPut_yes h3).2.1, h7.2, h7.1, ?_⟩
    rw [isB_self, h, Bool.true_and]

set_option maxHeartbeats 16000000 in
theorem batchBack_walk (v : Value) (L : List Cv) (s : List UInt8) (W : World) (hL : Cgs W v L) (hk : L.length ≤ maxLen) (hw : ∀ c ∈ chs L, c.1.length ≤ maxLen ∧ c.2.2.2.2.length ≤ maxLen) (hs : s.length ≤ 9223372036854775807) (hm : Ml W) :
    Calls Tryd.prog 3 #[v, .string ⟨s.toArray⟩] W fun e w' => e = .returned (.bool true) ∧ Below W.heap.size W w' := by
  have KB := Lib.hid (big_calls v L W hL (Nat.le_trans hk (by decide)) (fun c hc => ⟨Nat.le_trans (hw c hc).1 (by decide), Nat.le_trans (hw c hc).2 (by decide)⟩))
  obtain ⟨T, rfl⟩ := cgs_cs hL
  obtain ⟨ao, cap, rfl⟩ := hL.form
  rw [List.length_map] at KB hL ⊢
  have HL := Lib.hid hL
  have HM := Lib.hid hm
  clear hL hm hk hw
  cases hb : bigC (chs (T.map toCv)) with
  | true =>
    rw [hb] at KB
    go_enter Tryd.func3, Tryd.ntmps3
    go_wp2_with fail
    refine KB.out.mono ?_
    rintro e w0 ⟨rfl, rfl⟩
    go_wp2_with fail
    go_ret
    exact ⟨rfl, Below.refl _ _⟩
  | false =>
  have HSm := Lib.hid (bigC_small hb)
  rw [hb] at KB
  by_cases h : s.length ≤ 1000
  · have hd : decide ((1000 : Int) < (s.length : Int)) = false := by rw [decide_eq_false_iff_not]; omega
    have HH := Lib.hid h
    have hT : T.length ≤ 50 := by have := HSm.out.2; rw [List.length_map, List.length_map] at this; exact this
    have K1 := baNorm_calls _ T W HL.out (by omega) (by have := HSm.out.1; rwa [chs_cs] at this) HM.out
    rw [← chs_cs] at K1
    have HFA := Lib.hid (norm_around (chs (T.map toCv)))
    have HNF := Lib.hid (norm_few (chs (T.map toCv)))
    obtain ⟨C0, hC0⟩ : ∃ C0, C0 = chs (T.map toCv) := ⟨_, rfl⟩
    have HC0 := Lib.hid hC0
    rw [← hC0] at K1 HSm HFA HNF
    have K1 := Lib.hid K1
    have HT := Lib.hid hT
    clear hC0 hT h
    go_enter Tryd.func3, Tryd.ntmps3
    go_wp2_with fail
    refine KB.out.mono ?_
    rintro e w0 ⟨rfl, rfl⟩
    go_wp2_with fail
    refine K1.out.mono ?_
    rintro e w1 ⟨v1, S1, rfl, ho1, hc1, hB1⟩
    have HO1 := Lib.hid ho1
    have HB1 := Lib.hid hB1
    have HC1 := Lib.hid hc1
    have HF1 : Hid (SmallC (chs S1) ∧ S1.length ≤ 20) := Lib.hid (by
      have := HNF.out
      rw [← hc1] at this
      exact ⟨this.1, by have := this.2; rwa [List.length_map] at this⟩)
    obtain ⟨T1, rfl⟩ := cgs_cs ho1.cgs
    have K2 := baNorm_calls _ T1 w1 ho1.cgs (by have := HF1.out.2; rw [List.length_map] at this; omega) (by have := HF1.out.1; rwa [chs_cs] at this) (HM.out.below hB1)
    rw [← chs_cs, hc1] at K2
    have K2 := Lib.hid K2
    have HNG := Lib.hid (norm_few (normL C0))
    obtain ⟨a1, n1, c1, rfl⟩ := own_form ho1.1
    clear ho1 hB1 hc1
    go_wp2_with fail
    refine K2.out.mono ?_
    rintro e w2 ⟨v2, S2, rfl, ho2, hc2, hB2⟩
    have HO1 := Lib.hid (HO1.out.stays hB2)
    have HO2 := Lib.hid ho2
    have HC2 := Lib.hid hc2
    have HB2 := Lib.hid (below2 HB1.out hB2)
    obtain ⟨a2, n2, c2, rfl⟩ := own_form ho2.1
    have K3 := baPut_calls _ _ w2 HO1.out.cgs (by have := HF1.out.2; omega) HF1.out.1 (HM.out.below HB2.out)
    rw [HC1.out] at K3
    have K3 := Lib.hid K3
    obtain ⟨B3, hB3e⟩ : ∃ B3, B3 = putBT (normL C0) := ⟨_, rfl⟩
    have HB3l := Lib.hid (putBT_len (normL C0))
    rw [← hB3e] at K3 HFA HB3l
    clear ho2 hc2 hB2 hB3e
    go_wp2_with fail
    refine K3.out.mono ?_
    rintro e w3 ⟨rfl, hB3⟩
    have HO1 := Lib.hid (HO1.out.stays hB3)
    have HO2 := Lib.hid (HO2.out.stays hB3)
    have HB3 := Lib.hid (below2 HB2.out hB3)
    have K4 := Lib.hid (baGet_calls B3 HB3l.out w3 (HM.out.below HB3.out))
    clear hB3
    go_wp2_with fail
    refine K4.out.mono ?_
    rintro e w4 ⟨v4, S4, rfl, ho4, hc4, hB4⟩
    have HO1 := Lib.hid (HO1.out.stays hB4)
    have HO2 := Lib.hid (HO2.out.stays hB4)
    have HO4 := Lib.hid ho4
    have HC4 := Lib.hid hc4
    have HB4 := Lib.hid (below2 HB3.out hB4)
    have HL4 := Lib.hid (HL.out.below HB4.out)
    obtain ⟨a4, n4, c4, rfl⟩ := own_form ho4.1
    have HP := Lib.hid (got_put s)
    have HGF := Lib.hid (got_few s)
    clear ho4 hc4 hB4
    rcases HFA.out with ⟨hE, hI⟩ | ⟨hE, hI1, hE2, hN2, hE3, hE4, hG4, hI⟩
    · rw [hE]
      have KI : Hid (∀ W', Below W.heap.size W W' → Calls Tryd.prog 10 #[.slice ao T.length cap] W' fun e w' => e = .returned (.bool false) ∧ Below W'.heap.size W' w') := Lib.hid (fun W' hW => by
        have := baIs_calls _ _ W' (HL.out.below hW) (by have := HT.out; rw [List.length_map]; omega) (by rw [← HC0.out]; exact HSm.out.1) (HM.out.below hW)
        rwa [← HC0.out, hI] at this)
      clear hE hI
      go_wp2_with fail
      have K5 := Lib.hid (baGet_calls s (by have := HH.out; omega) w4 (HM.out.below HB4.out))
      refine K5.out.mono ?_
      rintro e w5 ⟨v5, S5, rfl, ho5, hc5, hB5⟩
      have HB5 := Lib.hid (below2 HB4.out hB5)
      obtain ⟨a5, n5, c5, rfl⟩ := own_form ho5.1
      have K6 := baPut_calls _ _ w5 ho5.cgs (by have := HGF.out.2; rw [← hc5, List.length_map] at this; omega) (by rw [hc5]; exact HGF.out.1) (HM.out.below HB5.out)
      rw [hc5] at K6
      clear ho5 hc5 hB5
      rcases HP.out with ⟨hg1, hg2, hg3⟩ | ⟨hg1, hg2, hg3⟩
      · rw [hg2, hg3] at K6
        rw [hg1]
        have K6 := Lib.hid K6
        clear hg1 hg2 hg3
        go_wp2_with fail
        refine K6.out.mono ?_
        rintro e w6 ⟨rfl, hB6⟩
        have HB6 := Lib.hid (below2 HB5.out hB6)
        have K7 := Lib.hid (baLaid_calls w6 (HM.out.below HB6.out))
        clear hB6
        go_wp2_with fail
        refine K7.out.mono ?_
        rintro e w7 ⟨rfl, hB7⟩
        have HB7 := Lib.hid (below2 HB6.out hB7)
        have K8 := Lib.hid (KI.out w7 HB7.out)
        clear hB7
        go_wp2_with fail
        refine K8.out.mono ?_
        rintro e w8 ⟨rfl, hB8⟩
        go_wp2_with fail
        go_ret
        exact ⟨by simp, below2 HB7.out hB8⟩
      · rw [hg2, hg3] at K6
        rw [hg1]
        have K6 := Lib.hid K6
        clear hg1 hg2 hg3
        go_wp2_with fail
        refine K6.out.mono ?_
        rintro e w6 ⟨rfl, hB6⟩
        have HB6 := Lib.hid (below2 HB5.out hB6)
        have K7 := Lib.hid (baLaid_calls w6 (HM.out.below HB6.out))
        clear hB6
        go_wp2_with fail
        refine K7.out.mono ?_
        rintro e w7 ⟨rfl, hB7⟩
        have HB7 := Lib.hid (below2 HB6.out hB7)
        have K8 := Lib.hid (KI.out w7 HB7.out)
        clear hB7
        go_wp2_with fail
        refine K8.out.mono ?_
        rintro e w8 ⟨rfl, hB8⟩
        go_wp2_with fail
        go_ret
        exact ⟨by simp, below2 HB7.out hB8⟩
    · rw [hE, hE2, hE3, hE4]
      have HG4 := Lib.hid hG4
      have KI : Hid (∀ W', Below W.heap.size W W' → Calls Tryd.prog 10 #[.slice ao T.length cap] W' fun e w' => e = .returned (.bool (isB C0)) ∧ Below W'.heap.size W' w') := Lib.hid (fun W' hW => by
        have := baIs_calls _ _ W' (HL.out.below hW) (by have := HT.out; rw [List.length_map]; omega) (by rw [← HC0.out]; exact HSm.out.1) (HM.out.below hW)
        rwa [← HC0.out] at this)
      have KJ := baIs_calls _ _ w4 HO1.out.cgs (by have := HF1.out.2; omega) HF1.out.1 (HM.out.below HB4.out)
      rw [HC1.out, hI1] at KJ
      have KJ := Lib.hid KJ
      have HI := Lib.hid hI
      have HN2 := Lib.hid hN2
      clear hE hI hE2 hN2 hE3 hE4 hG4 hI1
      go_wp2_with fail
      refine KJ.out.mono ?_
      rintro e w5 ⟨rfl, hB5⟩
      have HO1 := Lib.hid (HO1.out.stays hB5)
      have HO2 := Lib.hid (HO2.out.stays hB5)
      have HO4 := Lib.hid (HO4.out.stays hB5)
      have HB4 := Lib.hid (below2 HB4.out hB5)
      have KS := bSame_calls _ _ _ _ w5 HO1.out.cgs HO2.out.cgs (by have := HF1.out.2; omega) HF1.out.1
      rw [HC1.out, HC2.out, HN2.out, beq_self_eq_true] at KS
      have KS := Lib.hid KS
      clear hB5
      go_wp2_with fail
      refine KS.out.mono ?_
      rintro e w6 ⟨rfl, hB5⟩
      have HO1 := Lib.hid (HO1.out.stays hB5)
      have HO4 := Lib.hid (HO4.out.stays hB5)
      have HB4 := Lib.hid (below2 HB4.out hB5)
      have KS := bSame_calls _ _ _ _ w6 HO4.out.cgs HO1.out.cgs (by have := (got_few B3).2; rw [← HC4.out, List.length_map] at this; omega) (by rw [HC4.out]; exact (got_few B3).1)
      rw [HC1.out, HC4.out, HG4.out, beq_self_eq_true] at KS
      have KS := Lib.hid KS
      clear hB5
      go_wp2_with fail
      refine KS.out.mono ?_
      rintro e w4 ⟨rfl, hB5⟩
      have HO1 := Lib.hid (HO1.out.stays hB5)
      have HB4 := Lib.hid (below2 HB4.out hB5)
      have HL4 := Lib.hid (HL.out.below HB4.out)
      clear hB5
      go_wp2_with fail
      have K5 := Lib.hid (baGet_calls s (by have := HH.out; omega) w4 (HM.out.below HB4.out))
      refine K5.out.mono ?_
      rintro e w5 ⟨v5, S5, rfl, ho5, hc5, hB5⟩
      have HO1 := Lib.hid (HO1.out.stays hB5)
      have HB5 := Lib.hid (below2 HB4.out hB5)
      obtain ⟨a5, n5, c5, rfl⟩ := own_form ho5.1
      have K6 := baPut_calls _ _ w5 ho5.cgs (by have := HGF.out.2; rw [← hc5, List.length_map] at this; omega) (by rw [hc5]; exact HGF.out.1) (HM.out.below HB5.out)
      rw [hc5] at K6
      clear ho5 hc5 hB5
      rcases HP.out with ⟨hg1, hg2, hg3⟩ | ⟨hg1, hg2, hg3⟩
      · rw [hg2, hg3] at K6
        rw [hg1]
        have K6 := Lib.hid K6
        clear hg1 hg2 hg3
        go_wp2_with fail
        refine K6.out.mono ?_
        rintro e w6 ⟨rfl, hB6⟩
        have HB6 := Lib.hid (below2 HB5.out hB6)
        have K7 := Lib.hid (baLaid_calls w6 (HM.out.below HB6.out))
        have HO1 := Lib.hid (HO1.out.stays hB6)
        clear hB6
        go_wp2_with fail
        refine K7.out.mono ?_
        rintro e w7 ⟨rfl, hB7⟩
        have HB7 := Lib.hid (below2 HB6.out hB7)
        have HO1 := Lib.hid (HO1.out.stays hB7)
        have K8 := Lib.hid (KI.out w7 HB7.out)
        clear hB7
        go_wp2_with fail
        refine K8.out.mono ?_
        rintro e w8 ⟨rfl, hB8⟩
        have HB8 := Lib.hid (below2 HB7.out hB8)
        have KS := bSame_calls _ _ _ _ w8 (HO1.out.stays hB8).cgs (HL.out.below HB8.out) (by have := HF1.out.2; omega) HF1.out.1
        rw [HC1.out, ← HC0.out, ← HI.out] at KS
        have KS := Lib.hid KS
        clear hB8
        go_wp2_with fail
        refine KS.out.mono ?_
        rintro e w9 ⟨rfl, hB9⟩
        go_wp2_with fail
        go_ret
        exact ⟨by simp, below2 HB8.out hB9⟩
      · rw [hg2, hg3] at K6
        rw [hg1]
        have K6 := Lib.hid K6
        clear hg1 hg2 hg3
        go_wp2_with fail
        refine K6.out.mono ?_
        rintro e w6 ⟨rfl, hB6⟩
        have HB6 := Lib.hid (below2 HB5.out hB6)
        have K7 := Lib.hid (baLaid_calls w6 (HM.out.below HB6.out))
        have HO1 := Lib.hid (HO1.out.stays hB6)
        clear hB6
        go_wp2_with fail
        refine K7.out.mono ?_
        rintro e w7 ⟨rfl, hB7⟩
        have HB7 := Lib.hid (below2 HB6.out hB7)
        have HO1 := Lib.hid (HO1.out.stays hB7)
        have K8 := Lib.hid (KI.out w7 HB7.out)
        clear hB7
        go_wp2_with fail
        refine K8.out.mono ?_
        rintro e w8 ⟨rfl, hB8⟩
        have HB8 := Lib.hid (below2 HB7.out hB8)
        have KS := bSame_calls _ _ _ _ w8 (HO1.out.stays hB8).cgs (HL.out.below HB8.out) (by have := HF1.out.2; omega) HF1.out.1
        rw [HC1.out, ← HC0.out, ← HI.out] at KS
        have KS := Lib.hid KS
        clear hB8
        go_wp2_with fail
        refine KS.out.mono ?_
        rintro e w9 ⟨rfl, hB9⟩
        go_wp2_with fail
        go_ret
        exact ⟨by simp, below2 HB8.out hB9⟩
  · have hd : decide ((1000 : Int) < (s.length : Int)) = true := by rw [decide_eq_true_eq]; omega
    go_enter Tryd.func3, Tryd.ntmps3
    go_wp2_with fail
    refine KB.out.mono ?_
    rintro e w0 ⟨rfl, rfl⟩
    go_wp2_with fail
    go_ret
    exact ⟨rfl, Below.refl _ _⟩

end Go.Proofs.YtmbnmmnoahddcaaDoor
