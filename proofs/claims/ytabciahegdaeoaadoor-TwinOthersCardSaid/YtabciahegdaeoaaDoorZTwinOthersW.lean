/-
  The walk of TwinOthers.
-/
import Derived.Test.YtabciahegdaeoaaDoorPks05
namespace Go.Proofs.YtabciahegdaeoaaDoor
open Go.RowKit

/-- What a Stop leaves, as the law asks it. -/
theorem others_facts {bs : List (List UInt8)} {ws : List Wr} {i : Int} {s : List UInt8} {k : Int} (h : stopE bs ws i s = 0) :
    0 ≤ i ∧ i + 1 < bs.length ∧ bs.length ≤ 200 ∧ rightB (stopBs bs ws i s k) (stopWs bs ws i s k) = true ∧ (stopBs bs ws i s k).length = bs.length ∧ (newestTo bs ws i = i ∨ newestTo bs ws i = i + 1) ∧
    ∀ x : Int, 0 ≤ x → x < bs.length → readE bs ws x = 0 ∧ readE (stopBs bs ws i s k) (stopWs bs ws i s k) x = 0 ∧ (x ≠ newestTo bs ws i → readT (stopBs bs ws i s k) (stopWs bs ws i s k) x = readT bs ws x) := by
  obtain ⟨h1, h2, h3, h4⟩ := stop_ok h
  obtain ⟨a1, a2, a3, a4⟩ := newest_ok.1 h1
  obtain ⟨r1, r2⟩ := stop_right h k
  refine ⟨a2, a3, (right_parts a1).2.1, r1, r2, newestTo_has h1, fun x x0 x1 => ?_⟩
  have e1 : readE bs ws x = 0 := read_ok.2 ⟨a1, hasB_iff.2 ⟨x0, x1⟩⟩
  have e2 : readE (stopBs bs ws i s k) (stopWs bs ws i s k) x = 0 := read_ok.2 ⟨r1, hasB_iff.2 ⟨x0, by rw [r2]; exact x1⟩⟩
  refine ⟨e1, e2, fun hne => ?_⟩
  rw [readT, readT, if_pos e1, if_pos e2]
  exact stop_says h k x (hasB_iff.2 ⟨x0, x1⟩) hne

set_option maxRecDepth 100000 in
set_option maxHeartbeats 8000000 in
theorem twinOthers_walk (vb vw : Value) (bs : List (List UInt8)) (ws : List Wr) (i : Int) (s : List UInt8) (k j : Int) (w0 : World) (ht0 : Txts w0 vb bs) (hv0 : Wrs w0 vw ws) (hi : -9223372036854775808 ≤ i ∧ i ≤ 9223372036854775807) (hT : TabOk w0) :
    Calls Tryd.prog 6 #[.agg #[vb, vw], .int .i64 i, .string ⟨s.toArray⟩, .int .i64 k, .int .i64 j] w0 fun e w' => e = .returned (.bool true) ∧ Below w0.heap.size w0 w' := by
  obtain ⟨ab0, cb0, rfl⟩ := ht0.strs.form
  obtain ⟨aw0, cw0, rfl⟩ := hv0.form
  have hBB := Below.refl w0.heap.size w0
  cases hF : tfarB bs ws s with
  | true =>
    have HF := Lib.hid hF
    clear hF
    go_enter Tryd.func6, Tryd.ntmps6
    go_wp2_with fail
    refine (tfar_calls _ _ _ _ s _ (ht0.below (below_alloc _ _)) (hv0.below (below_alloc _ _))).mono ?_
    rintro e w1 ⟨he, hB1⟩
    rw [HF.out] at he
    subst he
    have hC1 := below2 (below_alloc _ _) hB1
    have hx0 := (Bx.new w0 _ _).below hB1
    replace ht0 := ht0.below hC1
    replace hv0 := hv0.below hC1
    replace hT := hT.below hC1
    have c00 := hx0.cells.1
    have c01 := hx0.cells.2.1
    have l0 := hx0.cells.2.2.2.2
    replace hBB := below2 hBB hC1
    go_wp2_with fail
    go_ret
    exact ⟨rfl, hBB⟩
  | false =>
    have HF := Lib.hid hF
    clear hF
    obtain ⟨D, hD⟩ : ∃ n, n = stopD bs ws i s k := ⟨_, rfl⟩
    have HD := Lib.hid hD
    clear hD
    by_cases h0 : stopE bs ws i s = 0
    · have FA := Lib.hid (others_facts (k := k) h0)
      obtain ⟨hi0, hi1, hi2, _⟩ := FA.out
      have S1 := Lib.hid h0
      clear h0
      by_cases hj0 : j < 0
      · have dj : decide (j < 0) = true := by simp; exact hj0
        go_enter Tryd.func6, Tryd.ntmps6
        go_wp2_with fail
        refine (tfar_calls _ _ _ _ s _ (ht0.below (below_alloc _ _)) (hv0.below (below_alloc _ _))).mono ?_
        rintro e w1 ⟨he, hB1⟩
        rw [HF.out] at he
        subst he
        have hC1 := below2 (below_alloc _ _) hB1
        have hx0 := (Bx.new w0 _ _).below hB1
        replace ht0 := ht0.below hC1
        replace hv0 := hv0.below hC1
        replace hT := hT.below hC1
        have c00 := hx0.cells.1
        have c01 := hx0.cells.2.1
        have l0 := hx0.cells.2.2.2.2
        replace hBB := below2 hBB hC1
        go_wp2_with fail
        refine (stop_calls _ _ _ _ i hi s k _ ht0 hv0 hT).mono ?_
        rintro e w2 ⟨vb2, vw2, he, ho2, hB2⟩
        rw [S1.out] at he
        rw [← HD.out] at he
        subst he
        have hC2 := hB2
        replace hx0 := hx0.below hC2
        replace ht0 := ht0.below hC2
        replace hv0 := hv0.below hC2
        replace hT := hT.below hC2
        replace c00 := hx0.cells.1
        replace c01 := hx0.cells.2.1
        replace l0 := hx0.cells.2.2.2.2
        replace hBB := below2 hBB hC2
        obtain ⟨ab2, nb2, cb2, aw2, nw2, cw2, rfl, rfl, hnb2, hnw2⟩ := ho2.forms
        have ht2 := ho2.texts
        have hv2 := ho2.wrs
        have N2 := Lib.hid (And.intro hnb2 hnw2)
        clear hnb2 hnw2
        go_wp2_with fail
        refine (twins_calls _ (hT.below (below_alloc _ _))).mono ?_
        rintro e w3 ⟨he, hB3⟩
        subst he
        have hC3 := below2 (below_alloc _ _) hB3
        replace hx0 := hx0.below hC3
        replace ht0 := ht0.below hC3
        replace hv0 := hv0.below hC3
        have hx2 := (Bx.new w2 _ _).below hB3
        replace ht2 := ht2.below hC3
        replace hv2 := hv2.below hC3
        replace hT := hT.below hC3
        replace c00 := hx0.cells.1
        replace c01 := hx0.cells.2.1
        replace l0 := hx0.cells.2.2.2.2
        have c20 := hx2.cells.1
        have c21 := hx2.cells.2.1
        have l2 := hx2.cells.2.2.2.2
        replace hBB := below2 hBB hC3
        go_wp2_with fail
        go_ret
        exact ⟨rfl, hBB⟩
      · have dj : decide (j < 0) = false := by simp; omega
        by_cases hj1 : (bs.length : Int) ≤ j
        · have dj1 : decide ((bs.length : Int) ≤ j) = true := by simp; exact hj1
          go_enter Tryd.func6, Tryd.ntmps6
          go_wp2_with fail
          refine (tfar_calls _ _ _ _ s _ (ht0.below (below_alloc _ _)) (hv0.below (below_alloc _ _))).mono ?_
          rintro e w1 ⟨he, hB1⟩
          rw [HF.out] at he
          subst he
          have hC1 := below2 (below_alloc _ _) hB1
          have hx0 := (Bx.new w0 _ _).below hB1
          replace ht0 := ht0.below hC1
          replace hv0 := hv0.below hC1
          replace hT := hT.below hC1
          have c00 := hx0.cells.1
          have c01 := hx0.cells.2.1
          have l0 := hx0.cells.2.2.2.2
          replace hBB := below2 hBB hC1
          go_wp2_with fail
          refine (stop_calls _ _ _ _ i hi s k _ ht0 hv0 hT).mono ?_
          rintro e w2 ⟨vb2, vw2, he, ho2, hB2⟩
          rw [S1.out] at he
          rw [← HD.out] at he
          subst he
          have hC2 := hB2
          replace hx0 := hx0.below hC2
          replace ht0 := ht0.below hC2
          replace hv0 := hv0.below hC2
          replace hT := hT.below hC2
          replace c00 := hx0.cells.1
          replace c01 := hx0.cells.2.1
          replace l0 := hx0.cells.2.2.2.2
          replace hBB := below2 hBB hC2
          obtain ⟨ab2, nb2, cb2, aw2, nw2, cw2, rfl, rfl, hnb2, hnw2⟩ := ho2.forms
          have ht2 := ho2.texts
          have hv2 := ho2.wrs
          have N2 := Lib.hid (And.intro hnb2 hnw2)
          clear hnb2 hnw2
          go_wp2_with fail
          refine (twins_calls _ (hT.below (below_alloc _ _))).mono ?_
          rintro e w3 ⟨he, hB3⟩
          subst he
          have hC3 := below2 (below_alloc _ _) hB3
          replace hx0 := hx0.below hC3
          replace ht0 := ht0.below hC3
          replace hv0 := hv0.below hC3
          have hx2 := (Bx.new w2 _ _).below hB3
          replace ht2 := ht2.below hC3
          replace hv2 := hv2.below hC3
          replace hT := hT.below hC3
          replace c00 := hx0.cells.1
          replace c01 := hx0.cells.2.1
          replace l0 := hx0.cells.2.2.2.2
          have c20 := hx2.cells.1
          have c21 := hx2.cells.2.1
          have l2 := hx2.cells.2.2.2.2
          replace hBB := below2 hBB hC3
          go_wp2_with fail
          go_ret
          exact ⟨rfl, hBB⟩
        · have dj1 : decide ((bs.length : Int) ≤ j) = false := by simp; omega
          obtain ⟨X, hX⟩ : ∃ X, X = stopBs bs ws i s k := ⟨_, rfl⟩
          obtain ⟨V, hV⟩ : ∃ X, X = stopWs bs ws i s k := ⟨_, rfl⟩
          have FX := FA.out
          rw [← hX, ← hV] at FX
          have HX := Lib.hid (And.intro hX hV)
          obtain ⟨f1, f2, f3, f4, f5, f6, f7⟩ := FX
          generalize newestTo bs ws i = To at f6 f7
          have F7 := Lib.hid f7
          have HJ := Lib.hid (f7 j (by omega) (by omega))
          have F5 := Lib.hid f5
          have F6 := Lib.hid f6
          obtain ⟨ta, hta⟩ : ∃ t, t = readT bs ws j := ⟨_, rfl⟩
          obtain ⟨tb, htb⟩ : ∃ t, t = readT X V j := ⟨_, rfl⟩
          have HTA := Lib.hid (And.intro hta htb)
          clear hX hV f1 f2 f3 f4 f5 f6 f7 hta htb
          go_enter Tryd.func6, Tryd.ntmps6
          go_wp2_with fail
          refine (tfar_calls _ _ _ _ s _ (ht0.below (below_alloc _ _)) (hv0.below (below_alloc _ _))).mono ?_
          rintro e w1 ⟨he, hB1⟩
          rw [HF.out] at he
          subst he
          have hC1 := below2 (below_alloc _ _) hB1
          have hx0 := (Bx.new w0 _ _).below hB1
          replace ht0 := ht0.below hC1
          replace hv0 := hv0.below hC1
          replace hT := hT.below hC1
          have c00 := hx0.cells.1
          have c01 := hx0.cells.2.1
          have l0 := hx0.cells.2.2.2.2
          replace hBB := below2 hBB hC1
          go_wp2_with fail
          refine (stop_calls _ _ _ _ i hi s k _ ht0 hv0 hT).mono ?_
          rintro e w2 ⟨vb2, vw2, he, ho2, hB2⟩
          rw [S1.out] at he
          rw [← HD.out] at he
          subst he
          have hC2 := hB2
          replace hx0 := hx0.below hC2
          replace ht0 := ht0.below hC2
          replace hv0 := hv0.below hC2
          replace hT := hT.below hC2
          replace c00 := hx0.cells.1
          replace c01 := hx0.cells.2.1
          replace l0 := hx0.cells.2.2.2.2
          replace hBB := below2 hBB hC2
          obtain ⟨ab2, nb2, cb2, aw2, nw2, cw2, rfl, rfl, hnb2, hnw2⟩ := ho2.forms
          have ht2 := ho2.texts
          have hv2 := ho2.wrs
          have N2 := Lib.hid (And.intro hnb2 hnw2)
          clear hnb2 hnw2
          rw [← HX.out.1] at ht2 N2
          rw [← HX.out.2] at hv2
          obtain rfl : nb2 = bs.length := by rw [N2.out.1, F5.out]
          go_wp2_with fail
          refine (read_calls _ _ _ _ j _ (ht0.below (below_alloc _ _)) (hv0.below (below_alloc _ _))).mono ?_
          rintro e w3 ⟨he, hB3⟩
          rw [HJ.out.1] at he
          rw [← HTA.out.1] at he
          subst he
          have hC3 := below2 (below_alloc _ _) hB3
          replace hx0 := hx0.below hC3
          replace ht0 := ht0.below hC3
          replace hv0 := hv0.below hC3
          have hx2 := (Bx.new w2 _ _).below hB3
          replace ht2 := ht2.below hC3
          replace hv2 := hv2.below hC3
          replace hT := hT.below hC3
          replace c00 := hx0.cells.1
          replace c01 := hx0.cells.2.1
          replace l0 := hx0.cells.2.2.2.2
          have c20 := hx2.cells.1
          have c21 := hx2.cells.2.1
          have l2 := hx2.cells.2.2.2.2
          replace hBB := below2 hBB hC3
          go_wp2_with fail
          refine (read_calls _ _ _ _ j _ ht2 hv2).mono ?_
          rintro e w4 ⟨he, hB4⟩
          rw [HJ.out.2.1] at he
          rw [← HTA.out.2] at he
          subst he
          have hC4 := hB4
          replace hx0 := hx0.below hC4
          replace ht0 := ht0.below hC4
          replace hv0 := hv0.below hC4
          replace hx2 := hx2.below hC4
          replace ht2 := ht2.below hC4
          replace hv2 := hv2.below hC4
          replace hT := hT.below hC4
          replace c00 := hx0.cells.1
          replace c01 := hx0.cells.2.1
          replace l0 := hx0.cells.2.2.2.2
          replace c20 := hx2.cells.1
          replace c21 := hx2.cells.2.1
          replace l2 := hx2.cells.2.2.2.2
          replace hBB := below2 hBB hC4
          go_wp2_with fail
          go_loopw [18, 19] (fun c u wr => ∃ (q m : Nat) (x : Int), q ≤ 2 ∧ Hid (x = i + q) ∧ u = .int .i64 x ∧ 0 ≤ x ∧ x ≤ 300 ∧ c = .int .i64 m ∧ (m ≤ 1) ∧ Hid (m = 0 ∨ To < x) ∧ Below w4.heap.size w4 wr) (fun _ u _ => 2 - (intOf u - i).toNat)
          case atStart => exact ⟨0, 0, i, by omega, Lib.hid (by simp), rfl, by omega, by omega, rfl, by omega, Lib.hid (.inl rfl), Below.refl _ _⟩
          case round =>
            obtain ⟨q, m, x, hq, hxq, rfl, xb0, xb1, rfl, hm, hc, hBl⟩ := hrel
            have hB5 : Below w4.heap.size w4 wr := hBl
            by_cases hlt : q < 2
            · have dlt : decide (x < i + 2) = true := by have := hxq.out; simp; omega
              have hxb : x < bs.length := by have := hxq.out; omega
              obtain ⟨pe, pf, pg⟩ := F7.out x xb0 hxb
              obtain ⟨p, hp⟩ : ∃ t, t = readT bs ws x := ⟨_, rfl⟩
              obtain ⟨r, hr⟩ : ∃ t, t = readT X V x := ⟨_, rfl⟩
              rw [← hp, ← hr] at pg
              have PE := Lib.hid (And.intro pe (And.intro pf (And.intro hp hr)))
              have PG := Lib.hid pg
              have HQ := Lib.hid hlt
              clear pe pf pg hp hr hxb hlt
              by_cases hpr : p = r
              · have hpb : (p == r) = true := by simp [hpr]
                clear hpr
                have hC5 := hB5
                replace hx0 := hx0.below hC5
                replace ht0 := ht0.below hC5
                replace hv0 := hv0.below hC5
                replace hx2 := hx2.below hC5
                replace ht2 := ht2.below hC5
                replace hv2 := hv2.below hC5
                replace hT := hT.below hC5
                replace c00 := hx0.cells.1
                replace c01 := hx0.cells.2.1
                replace l0 := hx0.cells.2.2.2.2
                replace c20 := hx2.cells.1
                replace c21 := hx2.cells.2.1
                replace l2 := hx2.cells.2.2.2.2
                replace hBB := below2 hBB hC5
                go_wp2_with fail
                refine (read_calls _ _ _ _ x _ ht0 hv0).mono ?_
                rintro e w6 ⟨he, hB6⟩
                rw [PE.out.1] at he
                rw [← PE.out.2.2.1] at he
                subst he
                have hC6 := hB6
                replace hx0 := hx0.below hC6
                replace ht0 := ht0.below hC6
                replace hv0 := hv0.below hC6
                replace hx2 := hx2.below hC6
                replace ht2 := ht2.below hC6
                replace hv2 := hv2.below hC6
                replace hT := hT.below hC6
                replace c00 := hx0.cells.1
                replace c01 := hx0.cells.2.1
                replace l0 := hx0.cells.2.2.2.2
                replace c20 := hx2.cells.1
                replace c21 := hx2.cells.2.1
                replace l2 := hx2.cells.2.2.2.2
                replace hBB := below2 hBB hC6
                go_wp2_with fail
                refine (read_calls _ _ _ _ x _ ht2 hv2).mono ?_
                rintro e w7 ⟨he, hB7⟩
                rw [PE.out.2.1] at he
                rw [← PE.out.2.2.2] at he
                subst he
                have hC7 := hB7
                replace hx0 := hx0.below hC7
                replace ht0 := ht0.below hC7
                replace hv0 := hv0.below hC7
                replace hx2 := hx2.below hC7
                replace ht2 := ht2.below hC7
                replace hv2 := hv2.below hC7
                replace hT := hT.below hC7
                replace c00 := hx0.cells.1
                replace c01 := hx0.cells.2.1
                replace l0 := hx0.cells.2.2.2.2
                replace c20 := hx2.cells.1
                replace c21 := hx2.cells.2.1
                replace l2 := hx2.cells.2.2.2.2
                replace hBB := below2 hBB hC7
                go_wp2_with fail
                go_roundw
                case rel => exact ⟨q + 1, m, x + 1, by have := HQ.out; omega, Lib.hid (by rw [hxq.out]; omega), rfl, by omega, by have := HQ.out; have := hxq.out; omega, rfl, hm, Lib.hid (by rcases hc.out with h | h; exact .inl h; exact .inr (by omega)), below3 hBl hB6 hB7⟩
                case measure => have := HQ.out; have := hxq.out; simp only [intOf]; omega
              · have hpb : (p == r) = false := by simp [hpr]
                have hxT : x = To := Decidable.byContradiction fun hne => hpr (PG.out hne).symm
                have hm0 : m = 0 := by rcases hc.out with h | h; exact h; omega
                subst hm0
                have HXT := Lib.hid hxT
                clear hpr hxT
                have hC5 := hB5
                replace hx0 := hx0.below hC5
                replace ht0 := ht0.below hC5
                replace hv0 := hv0.below hC5
                replace hx2 := hx2.below hC5
                replace ht2 := ht2.below hC5
                replace hv2 := hv2.below hC5
                replace hT := hT.below hC5
                replace c00 := hx0.cells.1
                replace c01 := hx0.cells.2.1
                replace l0 := hx0.cells.2.2.2.2
                replace c20 := hx2.cells.1
                replace c21 := hx2.cells.2.1
                replace l2 := hx2.cells.2.2.2.2
                replace hBB := below2 hBB hC5
                go_wp2_with fail
                refine (read_calls _ _ _ _ x _ ht0 hv0).mono ?_
                rintro e w6 ⟨he, hB6⟩
                rw [PE.out.1] at he
                rw [← PE.out.2.2.1] at he
                subst he
                have hC6 := hB6
                replace hx0 := hx0.below hC6
                replace ht0 := ht0.below hC6
                replace hv0 := hv0.below hC6
                replace hx2 := hx2.below hC6
                replace ht2 := ht2.below hC6
                replace hv2 := hv2.below hC6
                replace hT := hT.below hC6
                replace c00 := hx0.cells.1
                replace c01 := hx0.cells.2.1
                replace l0 := hx0.cells.2.2.2.2
                replace c20 := hx2.cells.1
                replace c21 := hx2.cells.2.1
                replace l2 := hx2.cells.2.2.2.2
                replace hBB := below2 hBB hC6
                go_wp2_with fail
                refine (read_calls _ _ _ _ x _ ht2 hv2).mono ?_
                rintro e w7 ⟨he, hB7⟩
                rw [PE.out.2.1] at he
                rw [← PE.out.2.2.2] at he
                subst he
                have hC7 := hB7
                replace hx0 := hx0.below hC7
                replace ht0 := ht0.below hC7
                replace hv0 := hv0.below hC7
                replace hx2 := hx2.below hC7
                replace ht2 := ht2.below hC7
                replace hv2 := hv2.below hC7
                replace hT := hT.below hC7
                replace c00 := hx0.cells.1
                replace c01 := hx0.cells.2.1
                replace l0 := hx0.cells.2.2.2.2
                replace c20 := hx2.cells.1
                replace c21 := hx2.cells.2.1
                replace l2 := hx2.cells.2.2.2.2
                replace hBB := below2 hBB hC7
                go_wp2_with fail
                go_roundw
                case rel => exact ⟨q + 1, 1, x + 1, by have := HQ.out; omega, Lib.hid (by rw [hxq.out]; omega), rfl, by omega, by have := HQ.out; have := hxq.out; omega, rfl, by omega, Lib.hid (.inr (by rw [← HXT.out]; omega)), below3 hBl hB6 hB7⟩
                case measure => have := HQ.out; have := hxq.out; simp only [intOf]; omega
            · have dlt : decide (x < i + 2) = false := by have := hxq.out; simp; omega
              have dm : decide ((m : Int) ≤ 1) = true := by simp; omega
              have dm2 : decide (m ≤ 1) = true := by simp; exact hm
              clear hc
              by_cases e1 : j = i
              · have b1 : (j == i) = true := by simp [e1]
                clear e1
                have hC5 := hB5
                replace hx0 := hx0.below hC5
                replace ht0 := ht0.below hC5
                replace hv0 := hv0.below hC5
                replace hx2 := hx2.below hC5
                replace ht2 := ht2.below hC5
                replace hv2 := hv2.below hC5
                replace hT := hT.below hC5
                replace c00 := hx0.cells.1
                replace c01 := hx0.cells.2.1
                replace l0 := hx0.cells.2.2.2.2
                replace c20 := hx2.cells.1
                replace c21 := hx2.cells.2.1
                replace l2 := hx2.cells.2.2.2.2
                replace hBB := below2 hBB hC5
                go_wp2_with fail
                refine (twins_calls _ hT).mono ?_
                rintro e w6 ⟨he, hB6⟩
                subst he
                have hC6 := hB6
                replace hx0 := hx0.below hC6
                replace ht0 := ht0.below hC6
                replace hv0 := hv0.below hC6
                replace hx2 := hx2.below hC6
                replace ht2 := ht2.below hC6
                replace hv2 := hv2.below hC6
                replace hT := hT.below hC6
                replace c00 := hx0.cells.1
                replace c01 := hx0.cells.2.1
                replace l0 := hx0.cells.2.2.2.2
                replace c20 := hx2.cells.1
                replace c21 := hx2.cells.2.1
                replace l2 := hx2.cells.2.2.2.2
                replace hBB := below2 hBB hC6
                go_wp2_with fail
                go_ret
                exact ⟨rfl, hBB⟩
              · have b1 : (j == i) = false := by simp [e1]
                by_cases e2 : j - 1 = i
                · have b2 : (j - 1 == i) = true := by simp [e2]
                  clear e1 e2
                  have hC5 := hB5
                  replace hx0 := hx0.below hC5
                  replace ht0 := ht0.below hC5
                  replace hv0 := hv0.below hC5
                  replace hx2 := hx2.below hC5
                  replace ht2 := ht2.below hC5
                  replace hv2 := hv2.below hC5
                  replace hT := hT.below hC5
                  replace c00 := hx0.cells.1
                  replace c01 := hx0.cells.2.1
                  replace l0 := hx0.cells.2.2.2.2
                  replace c20 := hx2.cells.1
                  replace c21 := hx2.cells.2.1
                  replace l2 := hx2.cells.2.2.2.2
                  replace hBB := below2 hBB hC5
                  go_wp2_with fail
                  refine (twins_calls _ hT).mono ?_
                  rintro e w6 ⟨he, hB6⟩
                  subst he
                  have hC6 := hB6
                  replace hx0 := hx0.below hC6
                  replace ht0 := ht0.below hC6
                  replace hv0 := hv0.below hC6
                  replace hx2 := hx2.below hC6
                  replace ht2 := ht2.below hC6
                  replace hv2 := hv2.below hC6
                  replace hT := hT.below hC6
                  replace c00 := hx0.cells.1
                  replace c01 := hx0.cells.2.1
                  replace l0 := hx0.cells.2.2.2.2
                  replace c20 := hx2.cells.1
                  replace c21 := hx2.cells.2.1
                  replace l2 := hx2.cells.2.2.2.2
                  replace hBB := below2 hBB hC6
                  go_wp2_with fail
                  go_ret
                  exact ⟨rfl, hBB⟩
                · have b2 : (j - 1 == i) = false := by simp [e2]
                  obtain rfl : tb = ta := by
                    rw [HTA.out.1, HTA.out.2]
                    exact HJ.out.2.2 (by rcases F6.out with h | h <;> omega)
                  clear e1 e2
                  have hC5 := hB5
                  replace hx0 := hx0.below hC5
                  replace ht0 := ht0.below hC5
                  replace hv0 := hv0.below hC5
                  replace hx2 := hx2.below hC5
                  replace ht2 := ht2.below hC5
                  replace hv2 := hv2.below hC5
                  replace hT := hT.below hC5
                  replace c00 := hx0.cells.1
                  replace c01 := hx0.cells.2.1
                  replace l0 := hx0.cells.2.2.2.2
                  replace c20 := hx2.cells.1
                  replace c21 := hx2.cells.2.1
                  replace l2 := hx2.cells.2.2.2.2
                  replace hBB := below2 hBB hC5
                  go_wp2_with fail
                  refine (twins_calls _ hT).mono ?_
                  rintro e w6 ⟨he, hB6⟩
                  subst he
                  have hC6 := hB6
                  replace hx0 := hx0.below hC6
                  replace ht0 := ht0.below hC6
                  replace hv0 := hv0.below hC6
                  replace hx2 := hx2.below hC6
                  replace ht2 := ht2.below hC6
                  replace hv2 := hv2.below hC6
                  replace hT := hT.below hC6
                  replace c00 := hx0.cells.1
                  replace c01 := hx0.cells.2.1
                  replace l0 := hx0.cells.2.2.2.2
                  replace c20 := hx2.cells.1
                  replace c21 := hx2.cells.2.1
                  replace l2 := hx2.cells.2.2.2.2
                  replace hBB := below2 hBB hC6
                  go_wp2_with fail
                  go_ret
                  exact ⟨rfl, hBB⟩
    · obtain ⟨c, hc⟩ : ∃ c, c = stopE bs ws i s := ⟨_, rfl⟩
      have hcb : (c != 0) = true := by rw [hc]; simpa using h0
      have S1 := Lib.hid hc.symm
      clear hc h0
      go_enter Tryd.func6, Tryd.ntmps6
      go_wp2_with fail
      refine (tfar_calls _ _ _ _ s _ (ht0.below (below_alloc _ _)) (hv0.below (below_alloc _ _))).mono ?_
      rintro e w1 ⟨he, hB1⟩
      rw [HF.out] at he
      subst he
      have hC1 := below2 (below_alloc _ _) hB1
      have hx0 := (Bx.new w0 _ _).below hB1
      replace ht0 := ht0.below hC1
      replace hv0 := hv0.below hC1
      replace hT := hT.below hC1
      have c00 := hx0.cells.1
      have c01 := hx0.cells.2.1
      have l0 := hx0.cells.2.2.2.2
      replace hBB := below2 hBB hC1
      go_wp2_with fail
      refine (stop_calls _ _ _ _ i hi s k _ ht0 hv0 hT).mono ?_
      rintro e w2 ⟨vb2, vw2, he, ho2, hB2⟩
      rw [S1.out] at he
      rw [← HD.out] at he
      subst he
      have hC2 := hB2
      replace hx0 := hx0.below hC2
      replace ht0 := ht0.below hC2
      replace hv0 := hv0.below hC2
      replace hT := hT.below hC2
      replace c00 := hx0.cells.1
      replace c01 := hx0.cells.2.1
      replace l0 := hx0.cells.2.2.2.2
      replace hBB := below2 hBB hC2
      obtain ⟨ab2, nb2, cb2, aw2, nw2, cw2, rfl, rfl, hnb2, hnw2⟩ := ho2.forms
      have ht2 := ho2.texts
      have hv2 := ho2.wrs
      have N2 := Lib.hid (And.intro hnb2 hnw2)
      clear hnb2 hnw2
      go_wp2_with fail
      refine (twins_calls _ (hT.below (below_alloc _ _))).mono ?_
      rintro e w3 ⟨he, hB3⟩
      subst he
      have hC3 := below2 (below_alloc _ _) hB3
      replace hx0 := hx0.below hC3
      replace ht0 := ht0.below hC3
      replace hv0 := hv0.below hC3
      have hx2 := (Bx.new w2 _ _).below hB3
      replace ht2 := ht2.below hC3
      replace hv2 := hv2.below hC3
      replace hT := hT.below hC3
      replace c00 := hx0.cells.1
      replace c01 := hx0.cells.2.1
      replace l0 := hx0.cells.2.2.2.2
      have c20 := hx2.cells.1
      have c21 := hx2.cells.2.1
      have l2 := hx2.cells.2.2.2.2
      replace hBB := below2 hBB hC3
      go_wp2_with fail
      go_ret
      exact ⟨rfl, hBB⟩

end Go.Proofs.YtabciahegdaeoaaDoor
