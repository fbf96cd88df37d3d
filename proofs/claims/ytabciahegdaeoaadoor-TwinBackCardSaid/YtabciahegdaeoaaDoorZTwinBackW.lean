/-
  The walk of TwinBack.
-/
import Derived.Test.YtabciahegdaeoaaDoorPks05
namespace Go.Proofs.YtabciahegdaeoaaDoor
open Go.RowKit

theorem back_facts {bs : List (List UInt8)} {ws : List Wr} {i : Int} {s : List UInt8} (h : stopE bs ws i s = 0) :
    newestE bs ws i = 0 ∧ stopWs bs ws i s (-1) = [] ∧ newestE (stopBs bs ws i s (-1)) [] i = 0 ∧ newestC (stopBs bs ws i s (-1)) [] i = some (numO (newestC bs ws i) + 1, s) := by
  have e : stopWs bs ws i s (-1) = [] := by simp [stopWs]
  obtain ⟨q1, q2⟩ := put_get h (-1) (by omega)
  rw [e] at q1 q2
  exact ⟨(stop_ok h).1, e, q1, q2⟩

set_option maxRecDepth 100000 in
set_option maxHeartbeats 8000000 in
theorem twinBack_walk (vb vw : Value) (bs : List (List UInt8)) (ws : List Wr) (i : Int) (s t : List UInt8) (w0 : World) (ht0 : Txts w0 vb bs) (hv0 : Wrs w0 vw ws) (hi : -9223372036854775808 ≤ i ∧ i ≤ 9223372036854775807) (hl : t.length ≤ 4611686018427387904) (hT : TabOk w0) :
    Calls Tryd.prog 3 #[.agg #[vb, vw], .int .i64 i, .string ⟨s.toArray⟩, .string ⟨t.toArray⟩] w0 fun e w' => e = .returned (.bool true) ∧ Below w0.heap.size w0 w' := by
  obtain ⟨ab0, cb0, rfl⟩ := ht0.strs.form
  obtain ⟨aw0, cw0, rfl⟩ := hv0.form
  have hBB := Below.refl w0.heap.size w0
  cases hF : tfarB bs ws s with
  | true =>
    have HF := Lib.hid hF
    clear hF
    go_enter Tryd.func3, Tryd.ntmps3
    go_wp2_with fail
    refine (tfar_calls _ _ _ _ s _ (ht0.below (below_alloc _ _)) (hv0.below (below_alloc _ _))).mono ?_
    rintro e w1 ⟨he, hB1⟩
    rw [HF.out] at he
    subst he
    have hC1 := below2 (below_alloc _ _) hB1
    have hx0 := (Bx.new w0 _ _).below hB1
    replace ht0 := ht0.below hC1
    replace hv0 := hv0.below hC1
    replace hT := hT.below hC1
    have c00 := hx0.cells.1
    have c01 := hx0.cells.2.1
    have l0 := hx0.cells.2.2.2.2
    replace hBB := below2 hBB hC1
    go_wp2_with fail
    go_ret
    exact ⟨rfl, hBB⟩
  | false =>
    have hf := (tfar_not hF).2.2
    have HF := Lib.hid hF
    clear hF
    by_cases h4 : 400 < t.length
    · have d4 : decide ((400 : Int) < (t.length : Int)) = true := by simp; omega
      clear h4
      go_enter Tryd.func3, Tryd.ntmps3
      go_wp2_with fail
      refine (tfar_calls _ _ _ _ s _ (ht0.below (below_alloc _ _)) (hv0.below (below_alloc _ _))).mono ?_
      rintro e w1 ⟨he, hB1⟩
      rw [HF.out] at he
      subst he
      have hC1 := below2 (below_alloc _ _) hB1
      have hx0 := (Bx.new w0 _ _).below hB1
      replace ht0 := ht0.below hC1
      replace hv0 := hv0.below hC1
      replace hT := hT.below hC1
      have c00 := hx0.cells.1
      have c01 := hx0.cells.2.1
      have l0 := hx0.cells.2.2.2.2
      replace hBB := below2 hBB hC1
      go_wp2_with fail
      go_ret
      exact ⟨rfl, hBB⟩
    · have d4 : decide ((400 : Int) < (t.length : Int)) = false := by simp; omega
      obtain ⟨n0, hn0⟩ : ∃ n, n = numO (newestC bs ws i) := ⟨_, rfl⟩
      have hnl : n0 ≤ 4294967295 := hn0 ▸ newest_le bs ws i
      have HN := Lib.hid hn0
      obtain ⟨t0, ht00⟩ : ∃ n, n = txtO (newestC bs ws i) := ⟨_, rfl⟩
      have HT0 := Lib.hid ht00
      clear ht00
      by_cases h0 : stopE bs ws i s = 0
      · have BF := back_facts h0
        rw [← hn0] at BF
        have B1 := Lib.hid BF
        have S1 := Lib.hid h0
        obtain ⟨X, hX⟩ : ∃ X, X = stopBs bs ws i s (-1) := ⟨_, rfl⟩
        rw [← hX] at B1
        have HX := Lib.hid hX
        clear h0 BF hX hn0 h4
        by_cases h0 : stopE X [] i t = 0
        · have BF := back_facts h0
          rw [B1.out.2.2.2] at BF
          have B2 := Lib.hid BF
          have S2 := Lib.hid h0
          clear h0 BF
          go_enter Tryd.func3, Tryd.ntmps3
          go_wp2_with fail
          refine (tfar_calls _ _ _ _ s _ (ht0.below (below_alloc _ _)) (hv0.below (below_alloc _ _))).mono ?_
          rintro e w1 ⟨he, hB1⟩
          rw [HF.out] at he
          subst he
          have hC1 := below2 (below_alloc _ _) hB1
          have hx0 := (Bx.new w0 _ _).below hB1
          replace ht0 := ht0.below hC1
          replace hv0 := hv0.below hC1
          replace hT := hT.below hC1
          have c00 := hx0.cells.1
          have c01 := hx0.cells.2.1
          have l0 := hx0.cells.2.2.2.2
          replace hBB := below2 hBB hC1
          go_wp2_with fail
          refine (tget_calls _ _ _ _ i hi _ ht0 hv0 hT).mono ?_
          rintro e w2 ⟨he, hB2⟩
          rw [B1.out.1] at he
          rw [← HN.out] at he
          rw [← HT0.out] at he
          subst he
          have hC2 := hB2
          replace hx0 := hx0.below hC2
          replace ht0 := ht0.below hC2
          replace hv0 := hv0.below hC2
          replace hT := hT.below hC2
          replace c00 := hx0.cells.1
          replace c01 := hx0.cells.2.1
          replace l0 := hx0.cells.2.2.2.2
          replace hBB := below2 hBB hC2
          go_wp2_with fail
          refine (tput_calls _ _ _ _ i hi s _ ht0 hv0 hT).mono ?_
          rintro e w3 ⟨vb3, vw3, he, ho3, hB3⟩
          rw [S1.out] at he
          subst he
          have hC3 := hB3
          replace hx0 := hx0.below hC3
          replace ht0 := ht0.below hC3
          replace hv0 := hv0.below hC3
          replace hT := hT.below hC3
          replace c00 := hx0.cells.1
          replace c01 := hx0.cells.2.1
          replace l0 := hx0.cells.2.2.2.2
          replace hBB := below2 hBB hC3
          obtain ⟨ab3, nb3, cb3, aw3, nw3, cw3, rfl, rfl, hnb3, hnw3⟩ := ho3.forms
          have ht3 := ho3.texts
          have hv3 := ho3.wrs
          have N3 := Lib.hid (And.intro hnb3 hnw3)
          clear hnb3 hnw3
          rw [← HX.out] at ht3
          rw [B1.out.2.1] at hv3
          obtain rfl : nw3 = 0 := by rw [N3.out.2, B1.out.2.1]; rfl
          go_wp2_with fail
          refine (tget_calls _ _ _ _ i hi _ (ht3.below (below_alloc _ _)) (hv3.below (below_alloc _ _)) (hT.below (below_alloc _ _))).mono ?_
          rintro e w4 ⟨he, hB4⟩
          rw [B1.out.2.2.1] at he
          rw [B1.out.2.2.2] at he
          rw [show txtO (some (n0 + 1, s)) = s from rfl] at he
          rw [show ((numO (some (n0 + 1, s)) : Nat) : Int) = (n0 : Int) + 1 from rfl] at he
          subst he
          have hC4 := below2 (below_alloc _ _) hB4
          replace hx0 := hx0.below hC4
          replace ht0 := ht0.below hC4
          replace hv0 := hv0.below hC4
          have hx3 := (Bx.new w3 _ _).below hB4
          replace ht3 := ht3.below hC4
          replace hv3 := hv3.below hC4
          replace hT := hT.below hC4
          replace c00 := hx0.cells.1
          replace c01 := hx0.cells.2.1
          replace l0 := hx0.cells.2.2.2.2
          have c30 := hx3.cells.1
          have c31 := hx3.cells.2.1
          have l3 := hx3.cells.2.2.2.2
          replace hBB := below2 hBB hC4
          go_wp2_with fail
          refine (tput_calls _ _ _ _ i hi t _ ht3 hv3 hT).mono ?_
          rintro e w5 ⟨vb5, vw5, he, ho5, hB5⟩
          rw [S2.out] at he
          subst he
          have hC5 := hB5
          replace hx0 := hx0.below hC5
          replace ht0 := ht0.below hC5
          replace hv0 := hv0.below hC5
          replace hx3 := hx3.below hC5
          replace ht3 := ht3.below hC5
          replace hv3 := hv3.below hC5
          replace hT := hT.below hC5
          replace c00 := hx0.cells.1
          replace c01 := hx0.cells.2.1
          replace l0 := hx0.cells.2.2.2.2
          replace c30 := hx3.cells.1
          replace c31 := hx3.cells.2.1
          replace l3 := hx3.cells.2.2.2.2
          replace hBB := below2 hBB hC5
          obtain ⟨ab5, nb5, cb5, aw5, nw5, cw5, rfl, rfl, hnb5, hnw5⟩ := ho5.forms
          have ht5 := ho5.texts
          have hv5 := ho5.wrs
          have N5 := Lib.hid (And.intro hnb5 hnw5)
          clear hnb5 hnw5
          rw [B2.out.2.1] at hv5
          go_wp2_with fail
          refine (tget_calls _ _ _ _ i hi _ (ht5.below (below_alloc _ _)) (hv5.below (below_alloc _ _)) (hT.below (below_alloc _ _))).mono ?_
          rintro e w6 ⟨he, hB6⟩
          rw [B2.out.2.2.1] at he
          rw [B2.out.2.2.2] at he
          rw [show txtO (some (numO (some (n0 + 1, s)) + 1, t)) = t from rfl] at he
          rw [show ((numO (some (numO (some (n0 + 1, s)) + 1, t)) : Nat) : Int) = (n0 : Int) + 1 + 1 from rfl] at he
          subst he
          have hC6 := below2 (below_alloc _ _) hB6
          replace hx0 := hx0.below hC6
          replace ht0 := ht0.below hC6
          replace hv0 := hv0.below hC6
          replace hx3 := hx3.below hC6
          replace ht3 := ht3.below hC6
          replace hv3 := hv3.below hC6
          have hx5 := (Bx.new w5 _ _).below hB6
          replace ht5 := ht5.below hC6
          replace hv5 := hv5.below hC6
          replace hT := hT.below hC6
          replace c00 := hx0.cells.1
          replace c01 := hx0.cells.2.1
          replace l0 := hx0.cells.2.2.2.2
          replace c30 := hx3.cells.1
          replace c31 := hx3.cells.2.1
          replace l3 := hx3.cells.2.2.2.2
          have c50 := hx5.cells.1
          have c51 := hx5.cells.2.1
          have l5 := hx5.cells.2.2.2.2
          replace hBB := below2 hBB hC6
          go_wp2_with fail
          refine (twins_calls _ hT).mono ?_
          rintro e w7 ⟨he, hB7⟩
          subst he
          have hC7 := hB7
          replace hx0 := hx0.below hC7
          replace ht0 := ht0.below hC7
          replace hv0 := hv0.below hC7
          replace hx3 := hx3.below hC7
          replace ht3 := ht3.below hC7
          replace hv3 := hv3.below hC7
          replace hx5 := hx5.below hC7
          replace ht5 := ht5.below hC7
          replace hv5 := hv5.below hC7
          replace hT := hT.below hC7
          replace c00 := hx0.cells.1
          replace c01 := hx0.cells.2.1
          replace l0 := hx0.cells.2.2.2.2
          replace c30 := hx3.cells.1
          replace c31 := hx3.cells.2.1
          replace l3 := hx3.cells.2.2.2.2
          replace c50 := hx5.cells.1
          replace c51 := hx5.cells.2.1
          replace l5 := hx5.cells.2.2.2.2
          replace hBB := below2 hBB hC7
          go_wp2_with fail
          go_ret
          exact ⟨rfl, hBB⟩
        · obtain ⟨c, hc⟩ : ∃ c, c = stopE X [] i t := ⟨_, rfl⟩
          have hcb : (c != 0) = true := by rw [hc]; simpa using h0
          have HC := Lib.hid hc
          clear hc h0
          go_enter Tryd.func3, Tryd.ntmps3
          go_wp2_with fail
          refine (tfar_calls _ _ _ _ s _ (ht0.below (below_alloc _ _)) (hv0.below (below_alloc _ _))).mono ?_
          rintro e w1 ⟨he, hB1⟩
          rw [HF.out] at he
          subst he
          have hC1 := below2 (below_alloc _ _) hB1
          have hx0 := (Bx.new w0 _ _).below hB1
          replace ht0 := ht0.below hC1
          replace hv0 := hv0.below hC1
          replace hT := hT.below hC1
          have c00 := hx0.cells.1
          have c01 := hx0.cells.2.1
          have l0 := hx0.cells.2.2.2.2
          replace hBB := below2 hBB hC1
          go_wp2_with fail
          refine (tget_calls _ _ _ _ i hi _ ht0 hv0 hT).mono ?_
          rintro e w2 ⟨he, hB2⟩
          rw [B1.out.1] at he
          rw [← HN.out] at he
          rw [← HT0.out] at he
          subst he
          have hC2 := hB2
          replace hx0 := hx0.below hC2
          replace ht0 := ht0.below hC2
          replace hv0 := hv0.below hC2
          replace hT := hT.below hC2
          replace c00 := hx0.cells.1
          replace c01 := hx0.cells.2.1
          replace l0 := hx0.cells.2.2.2.2
          replace hBB := below2 hBB hC2
          go_wp2_with fail
          refine (tput_calls _ _ _ _ i hi s _ ht0 hv0 hT).mono ?_
          rintro e w3 ⟨vb3, vw3, he, ho3, hB3⟩
          rw [S1.out] at he
          subst he
          have hC3 := hB3
          replace hx0 := hx0.below hC3
          replace ht0 := ht0.below hC3
          replace hv0 := hv0.below hC3
          replace hT := hT.below hC3
          replace c00 := hx0.cells.1
          replace c01 := hx0.cells.2.1
          replace l0 := hx0.cells.2.2.2.2
          replace hBB := below2 hBB hC3
          obtain ⟨ab3, nb3, cb3, aw3, nw3, cw3, rfl, rfl, hnb3, hnw3⟩ := ho3.forms
          have ht3 := ho3.texts
          have hv3 := ho3.wrs
          have N3 := Lib.hid (And.intro hnb3 hnw3)
          clear hnb3 hnw3
          rw [← HX.out] at ht3
          rw [B1.out.2.1] at hv3
          obtain rfl : nw3 = 0 := by rw [N3.out.2, B1.out.2.1]; rfl
          go_wp2_with fail
          refine (tget_calls _ _ _ _ i hi _ (ht3.below (below_alloc _ _)) (hv3.below (below_alloc _ _)) (hT.below (below_alloc _ _))).mono ?_
          rintro e w4 ⟨he, hB4⟩
          rw [B1.out.2.2.1] at he
          rw [B1.out.2.2.2] at he
          rw [show txtO (some (n0 + 1, s)) = s from rfl] at he
          rw [show ((numO (some (n0 + 1, s)) : Nat) : Int) = (n0 : Int) + 1 from rfl] at he
          subst he
          have hC4 := below2 (below_alloc _ _) hB4
          replace hx0 := hx0.below hC4
          replace ht0 := ht0.below hC4
          replace hv0 := hv0.below hC4
          have hx3 := (Bx.new w3 _ _).below hB4
          replace ht3 := ht3.below hC4
          replace hv3 := hv3.below hC4
          replace hT := hT.below hC4
          replace c00 := hx0.cells.1
          replace c01 := hx0.cells.2.1
          replace l0 := hx0.cells.2.2.2.2
          have c30 := hx3.cells.1
          have c31 := hx3.cells.2.1
          have l3 := hx3.cells.2.2.2.2
          replace hBB := below2 hBB hC4
          go_wp2_with fail
          refine (tput_calls _ _ _ _ i hi t _ ht3 hv3 hT).mono ?_
          rintro e w5 ⟨vb5, vw5, he, ho5, hB5⟩
          rw [← HC.out] at he
          subst he
          have hC5 := hB5
          replace hx0 := hx0.below hC5
          replace ht0 := ht0.below hC5
          replace hv0 := hv0.below hC5
          replace hx3 := hx3.below hC5
          replace ht3 := ht3.below hC5
          replace hv3 := hv3.below hC5
          replace hT := hT.below hC5
          replace c00 := hx0.cells.1
          replace c01 := hx0.cells.2.1
          replace l0 := hx0.cells.2.2.2.2
          replace c30 := hx3.cells.1
          replace c31 := hx3.cells.2.1
          replace l3 := hx3.cells.2.2.2.2
          replace hBB := below2 hBB hC5
          obtain ⟨ab5, nb5, cb5, aw5, nw5, cw5, rfl, rfl, hnb5, hnw5⟩ := ho5.forms
          have ht5 := ho5.texts
          have hv5 := ho5.wrs
          have N5 := Lib.hid (And.intro hnb5 hnw5)
          clear hnb5 hnw5
          obtain ⟨e3, he3⟩ : ∃ e, e = newestE (stopBs X [] i t (-1)) (stopWs X [] i t (-1)) i := ⟨_, rfl⟩
          obtain ⟨n3, hn3⟩ : ∃ e, e = numO (newestC (stopBs X [] i t (-1)) (stopWs X [] i t (-1)) i) := ⟨_, rfl⟩
          obtain ⟨t3, ht3⟩ : ∃ e, e = txtO (newestC (stopBs X [] i t (-1)) (stopWs X [] i t (-1)) i) := ⟨_, rfl⟩
          have L3 := Lib.hid (And.intro he3 (And.intro hn3 ht3))
          clear he3 hn3 ht3
          go_wp2_with fail
          refine (tget_calls _ _ _ _ i hi _ (ht5.below (below_alloc _ _)) (hv5.below (below_alloc _ _)) (hT.below (below_alloc _ _))).mono ?_
          rintro e w6 ⟨he, hB6⟩
          rw [← L3.out.1] at he
          rw [← L3.out.2.1] at he
          rw [← L3.out.2.2] at he
          subst he
          have hC6 := below2 (below_alloc _ _) hB6
          replace hx0 := hx0.below hC6
          replace ht0 := ht0.below hC6
          replace hv0 := hv0.below hC6
          replace hx3 := hx3.below hC6
          replace ht3 := ht3.below hC6
          replace hv3 := hv3.below hC6
          have hx5 := (Bx.new w5 _ _).below hB6
          replace ht5 := ht5.below hC6
          replace hv5 := hv5.below hC6
          replace hT := hT.below hC6
          replace c00 := hx0.cells.1
          replace c01 := hx0.cells.2.1
          replace l0 := hx0.cells.2.2.2.2
          replace c30 := hx3.cells.1
          replace c31 := hx3.cells.2.1
          replace l3 := hx3.cells.2.2.2.2
          have c50 := hx5.cells.1
          have c51 := hx5.cells.2.1
          have l5 := hx5.cells.2.2.2.2
          replace hBB := below2 hBB hC6
          go_wp2_with fail
          refine (twins_calls _ hT).mono ?_
          rintro e w7 ⟨he, hB7⟩
          subst he
          have hC7 := hB7
          replace hx0 := hx0.below hC7
          replace ht0 := ht0.below hC7
          replace hv0 := hv0.below hC7
          replace hx3 := hx3.below hC7
          replace ht3 := ht3.below hC7
          replace hv3 := hv3.below hC7
          replace hx5 := hx5.below hC7
          replace ht5 := ht5.below hC7
          replace hv5 := hv5.below hC7
          replace hT := hT.below hC7
          replace c00 := hx0.cells.1
          replace c01 := hx0.cells.2.1
          replace l0 := hx0.cells.2.2.2.2
          replace c30 := hx3.cells.1
          replace c31 := hx3.cells.2.1
          replace l3 := hx3.cells.2.2.2.2
          replace c50 := hx5.cells.1
          replace c51 := hx5.cells.2.1
          replace l5 := hx5.cells.2.2.2.2
          replace hBB := below2 hBB hC7
          go_wp2_with fail
          go_ret
          exact ⟨rfl, hBB⟩
      · obtain ⟨c, hc⟩ : ∃ c, c = stopE bs ws i s := ⟨_, rfl⟩
        have hcb : (c != 0) = true := by rw [hc]; simpa using h0
        have HS := Lib.hid (stop_none (-1) h0)
        have HC := Lib.hid hc
        obtain ⟨e0, he0⟩ : ∃ e, e = newestE bs ws i := ⟨_, rfl⟩
        have HE0 := Lib.hid he0
        clear hc h0 he0 hn0 h4
        go_enter Tryd.func3, Tryd.ntmps3
        go_wp2_with fail
        refine (tfar_calls _ _ _ _ s _ (ht0.below (below_alloc _ _)) (hv0.below (below_alloc _ _))).mono ?_
        rintro e w1 ⟨he, hB1⟩
        rw [HF.out] at he
        subst he
        have hC1 := below2 (below_alloc _ _) hB1
        have hx0 := (Bx.new w0 _ _).below hB1
        replace ht0 := ht0.below hC1
        replace hv0 := hv0.below hC1
        replace hT := hT.below hC1
        have c00 := hx0.cells.1
        have c01 := hx0.cells.2.1
        have l0 := hx0.cells.2.2.2.2
        replace hBB := below2 hBB hC1
        go_wp2_with fail
        refine (tget_calls _ _ _ _ i hi _ ht0 hv0 hT).mono ?_
        rintro e w2 ⟨he, hB2⟩
        rw [← HE0.out] at he
        rw [← HN.out] at he
        rw [← HT0.out] at he
        subst he
        have hC2 := hB2
        replace hx0 := hx0.below hC2
        replace ht0 := ht0.below hC2
        replace hv0 := hv0.below hC2
        replace hT := hT.below hC2
        replace c00 := hx0.cells.1
        replace c01 := hx0.cells.2.1
        replace l0 := hx0.cells.2.2.2.2
        replace hBB := below2 hBB hC2
        go_wp2_with fail
        refine (tput_calls _ _ _ _ i hi s _ ht0 hv0 hT).mono ?_
        rintro e w3 ⟨vb3, vw3, he, ho3, hB3⟩
        rw [← HC.out] at he
        subst he
        have hC3 := hB3
        replace hx0 := hx0.below hC3
        replace ht0 := ht0.below hC3
        replace hv0 := hv0.below hC3
        replace hT := hT.below hC3
        replace c00 := hx0.cells.1
        replace c01 := hx0.cells.2.1
        replace l0 := hx0.cells.2.2.2.2
        replace hBB := below2 hBB hC3
        obtain ⟨ab3, nb3, cb3, aw3, nw3, cw3, rfl, rfl, hnb3, hnw3⟩ := ho3.forms
        have ht3 := ho3.texts
        have hv3 := ho3.wrs
        have N3 := Lib.hid (And.intro hnb3 hnw3)
        clear hnb3 hnw3
        obtain rfl : nb3 = 0 := by rw [N3.out.1, HS.out.1]; rfl
        go_wp2_with fail
        refine (twins_calls _ (hT.below (below_alloc _ _))).mono ?_
        rintro e w4 ⟨he, hB4⟩
        subst he
        have hC4 := below2 (below_alloc _ _) hB4
        replace hx0 := hx0.below hC4
        replace ht0 := ht0.below hC4
        replace hv0 := hv0.below hC4
        have hx3 := (Bx.new w3 _ _).below hB4
        replace ht3 := ht3.below hC4
        replace hv3 := hv3.below hC4
        replace hT := hT.below hC4
        replace c00 := hx0.cells.1
        replace c01 := hx0.cells.2.1
        replace l0 := hx0.cells.2.2.2.2
        have c30 := hx3.cells.1
        have c31 := hx3.cells.2.1
        have l3 := hx3.cells.2.2.2.2
        replace hBB := below2 hBB hC4
        go_wp2_with fail
        go_ret
        exact ⟨rfl, hBB⟩

end Go.Proofs.YtabciahegdaeoaaDoor
