/-
  The walk of TwinCrash.
-/
import Derived.Test.YtabciahegdaeoaaDoorPks05
namespace Go.Proofs.YtabciahegdaeoaaDoor
open Go.RowKit

set_option maxRecDepth 100000 in
set_option maxHeartbeats 8000000 in
theorem twinCrash_walk (vb vw : Value) (bs : List (List UInt8)) (ws : List Wr) (i : Int) (s : List UInt8) (k : Int) (vk : Value) (ks : List Bool) (w0 : World) (ht0 : Txts w0 vb bs) (hv0 : Wrs w0 vw ws) (hi : -9223372036854775808 ≤ i ∧ i ≤ 9223372036854775807) (hk : Bools w0 vk ks) (hT : TabOk w0) :
    Calls Tryd.prog 4 #[.agg #[vb, vw], .int .i64 i, .string ⟨s.toArray⟩, .int .i64 k, vk] w0 fun e w' => e = .returned (.bool true) ∧ Below w0.heap.size w0 w' := by
  obtain ⟨ab0, cb0, rfl⟩ := ht0.strs.form
  obtain ⟨aw0, cw0, rfl⟩ := hv0.form
  obtain ⟨ak, ck, rfl⟩ := hk.form
  have hBB := Below.refl w0.heap.size w0
  cases hF : tfarB bs ws s with
  | true =>
    have HF := Lib.hid hF
    clear hF
    go_enter Tryd.func4, Tryd.ntmps4
    go_wp2_with fail
    refine (tfar_calls _ _ _ _ s _ (ht0.below (below_alloc _ _)) (hv0.below (below_alloc _ _))).mono ?_
    rintro e w1 ⟨he, hB1⟩
    rw [HF.out] at he
    subst he
    have hC1 := below2 (below_alloc _ _) hB1
    have hx0 := (Bx.new w0 _ _).below hB1
    replace ht0 := ht0.below hC1
    replace hv0 := hv0.below hC1
    replace hT := hT.below hC1
    replace hk := hk.below hC1
    have c00 := hx0.cells.1
    have c01 := hx0.cells.2.1
    have l0 := hx0.cells.2.2.2.2
    replace hBB := below2 hBB hC1
    go_wp2_with fail
    go_ret
    exact ⟨rfl, hBB⟩
  | false =>
    have HF := Lib.hid hF
    clear hF
    by_cases hw0 : 0 < ws.length
    · have d1 : decide ((0 : Int) < (ws.length : Int)) = true := by simp; omega
      go_enter Tryd.func4, Tryd.ntmps4
      go_wp2_with fail
      refine (tfar_calls _ _ _ _ s _ (ht0.below (below_alloc _ _)) (hv0.below (below_alloc _ _))).mono ?_
      rintro e w1 ⟨he, hB1⟩
      rw [HF.out] at he
      subst he
      have hC1 := below2 (below_alloc _ _) hB1
      have hx0 := (Bx.new w0 _ _).below hB1
      replace ht0 := ht0.below hC1
      replace hv0 := hv0.below hC1
      replace hT := hT.below hC1
      replace hk := hk.below hC1
      have c00 := hx0.cells.1
      have c01 := hx0.cells.2.1
      have l0 := hx0.cells.2.2.2.2
      replace hBB := below2 hBB hC1
      go_wp2_with fail
      go_ret
      exact ⟨rfl, hBB⟩
    · obtain rfl : ws = [] := List.eq_nil_of_length_eq_zero (by omega)
      clear hw0
      by_cases h4 : 100 < ks.length
      · have d4 : decide ((100 : Int) < (ks.length : Int)) = true := by simp; omega
        go_enter Tryd.func4, Tryd.ntmps4
        go_wp2_with fail
        refine (tfar_calls _ _ _ _ s _ (ht0.below (below_alloc _ _)) (hv0.below (below_alloc _ _))).mono ?_
        rintro e w1 ⟨he, hB1⟩
        rw [HF.out] at he
        subst he
        have hC1 := below2 (below_alloc _ _) hB1
        have hx0 := (Bx.new w0 _ _).below hB1
        replace ht0 := ht0.below hC1
        replace hv0 := hv0.below hC1
        replace hT := hT.below hC1
        replace hk := hk.below hC1
        have c00 := hx0.cells.1
        have c01 := hx0.cells.2.1
        have l0 := hx0.cells.2.2.2.2
        replace hBB := below2 hBB hC1
        go_wp2_with fail
        go_ret
        exact ⟨rfl, hBB⟩
      · have d4 : decide ((100 : Int) < (ks.length : Int)) = false := by simp; omega
        obtain ⟨n0, hn0⟩ : ∃ n, n = numO (newestC bs [] i) := ⟨_, rfl⟩
        have hnl : n0 ≤ 4294967295 := hn0 ▸ newest_le bs [] i
        have HN := Lib.hid hn0
        obtain ⟨t0, ht00⟩ : ∃ n, n = txtO (newestC bs [] i) := ⟨_, rfl⟩
        have HT0 := Lib.hid ht00
        obtain ⟨D, hD⟩ : ∃ n, n = stopD bs [] i s k := ⟨_, rfl⟩
        have HD := Lib.hid hD
        clear ht00 h4 hD
        by_cases h0 : stopE bs [] i s = 0
        · have hE := (stop_ok h0).1
          obtain ⟨c1, c2, c3, c4⟩ := crash_get h0 k ks
          have hsy : syncE (stopBs bs [] i s k) (stopWs bs [] i s k) = 0 := by rw [syncE, if_pos (stop_right h0 k).1]
          rw [← hn0] at c4
          have S1 := Lib.hid (And.intro h0 (And.intro hE (And.intro hsy c1)))
          clear h0 hE c1 c2 c3 hn0 hsy
          rcases c4 with c4 | ⟨c5, c4⟩
          · have C4 := Lib.hid c4
            clear c4
            go_enter Tryd.func4, Tryd.ntmps4
            go_wp2_with fail
            refine (tfar_calls _ _ _ _ s _ (ht0.below (below_alloc _ _)) (hv0.below (below_alloc _ _))).mono ?_
            rintro e w1 ⟨he, hB1⟩
            rw [HF.out] at he
            subst he
            have hC1 := below2 (below_alloc _ _) hB1
            have hx0 := (Bx.new w0 _ _).below hB1
            replace ht0 := ht0.below hC1
            replace hv0 := hv0.below hC1
            replace hT := hT.below hC1
            replace hk := hk.below hC1
            have c00 := hx0.cells.1
            have c01 := hx0.cells.2.1
            have l0 := hx0.cells.2.2.2.2
            replace hBB := below2 hBB hC1
            go_wp2_with fail
            refine (tget_calls _ _ _ _ i hi _ ht0 hv0 hT).mono ?_
            rintro e w2 ⟨he, hB2⟩
            rw [S1.out.2.1] at he
            rw [← HN.out] at he
            rw [← HT0.out] at he
            subst he
            have hC2 := hB2
            replace hx0 := hx0.below hC2
            replace ht0 := ht0.below hC2
            replace hv0 := hv0.below hC2
            replace hT := hT.below hC2
            replace hk := hk.below hC2
            replace c00 := hx0.cells.1
            replace c01 := hx0.cells.2.1
            replace l0 := hx0.cells.2.2.2.2
            replace hBB := below2 hBB hC2
            go_wp2_with fail
            refine (stop_calls _ _ _ _ i hi s k _ ht0 hv0 hT).mono ?_
            rintro e w3 ⟨vb3, vw3, he, ho3, hB3⟩
            rw [S1.out.1] at he
            rw [← HD.out] at he
            subst he
            have hC3 := hB3
            replace hx0 := hx0.below hC3
            replace ht0 := ht0.below hC3
            replace hv0 := hv0.below hC3
            replace hT := hT.below hC3
            replace hk := hk.below hC3
            replace c00 := hx0.cells.1
            replace c01 := hx0.cells.2.1
            replace l0 := hx0.cells.2.2.2.2
            replace hBB := below2 hBB hC3
            obtain ⟨ab3, nb3, cb3, aw3, nw3, cw3, rfl, rfl, hnb3, hnw3⟩ := ho3.forms
            have ht3 := ho3.texts
            have hv3 := ho3.wrs
            have N3 := Lib.hid (And.intro hnb3 hnw3)
            clear hnb3 hnw3
            go_wp2_with fail
            refine (crash_calls _ _ _ _ _ ks _ (ht3.below (below_alloc _ _)) (hv3.below (below_alloc _ _)) (hk.below (below_alloc _ _))).mono ?_
            rintro e w4 ⟨vb4, vw4, he, ho4, hB4⟩
            rw [S1.out.2.2.1] at he
            subst he
            have hC4 := below2 (below_alloc _ _) hB4
            replace hx0 := hx0.below hC4
            replace ht0 := ht0.below hC4
            replace hv0 := hv0.below hC4
            have hx3 := (Bx.new w3 _ _).below hB4
            replace ht3 := ht3.below hC4
            replace hv3 := hv3.below hC4
            replace hT := hT.below hC4
            replace hk := hk.below hC4
            replace c00 := hx0.cells.1
            replace c01 := hx0.cells.2.1
            replace l0 := hx0.cells.2.2.2.2
            have c30 := hx3.cells.1
            have c31 := hx3.cells.2.1
            have l3 := hx3.cells.2.2.2.2
            replace hBB := below2 hBB hC4
            obtain ⟨ab4, nb4, cb4, aw4, nw4, cw4, rfl, rfl, hnb4, hnw4⟩ := ho4.forms
            have ht4 := ho4.texts
            have hv4 := ho4.wrs
            have N4 := Lib.hid (And.intro hnb4 hnw4)
            clear hnb4 hnw4
            go_wp2_with fail
            refine (tget_calls _ _ _ _ i hi _ (ht4.below (below_alloc _ _)) (hv4.below (below_alloc _ _)) (hT.below (below_alloc _ _))).mono ?_
            rintro e w5 ⟨he, hB5⟩
            rw [S1.out.2.2.2] at he
            rw [C4.out] at he
            rw [show txtO (some (n0 + 1, s)) = s from rfl] at he
            rw [show ((numO (some (n0 + 1, s)) : Nat) : Int) = (n0 : Int) + 1 from rfl] at he
            subst he
            have hC5 := below2 (below_alloc _ _) hB5
            replace hx0 := hx0.below hC5
            replace ht0 := ht0.below hC5
            replace hv0 := hv0.below hC5
            replace hx3 := hx3.below hC5
            replace ht3 := ht3.below hC5
            replace hv3 := hv3.below hC5
            have hx4 := (Bx.new w4 _ _).below hB5
            replace ht4 := ht4.below hC5
            replace hv4 := hv4.below hC5
            replace hT := hT.below hC5
            replace hk := hk.below hC5
            replace c00 := hx0.cells.1
            replace c01 := hx0.cells.2.1
            replace l0 := hx0.cells.2.2.2.2
            replace c30 := hx3.cells.1
            replace c31 := hx3.cells.2.1
            replace l3 := hx3.cells.2.2.2.2
            have c40 := hx4.cells.1
            have c41 := hx4.cells.2.1
            have l4 := hx4.cells.2.2.2.2
            replace hBB := below2 hBB hC5
            go_wp2_with fail
            refine (twins_calls _ hT).mono ?_
            rintro e w6 ⟨he, hB6⟩
            subst he
            have hC6 := hB6
            replace hx0 := hx0.below hC6
            replace ht0 := ht0.below hC6
            replace hv0 := hv0.below hC6
            replace hx3 := hx3.below hC6
            replace ht3 := ht3.below hC6
            replace hv3 := hv3.below hC6
            replace hx4 := hx4.below hC6
            replace ht4 := ht4.below hC6
            replace hv4 := hv4.below hC6
            replace hT := hT.below hC6
            replace hk := hk.below hC6
            replace c00 := hx0.cells.1
            replace c01 := hx0.cells.2.1
            replace l0 := hx0.cells.2.2.2.2
            replace c30 := hx3.cells.1
            replace c31 := hx3.cells.2.1
            replace l3 := hx3.cells.2.2.2.2
            replace c40 := hx4.cells.1
            replace c41 := hx4.cells.2.1
            replace l4 := hx4.cells.2.2.2.2
            replace hBB := below2 hBB hC6
            go_wp2_with fail
            go_ret
            exact ⟨rfl, hBB⟩
          · have C4 := Lib.hid (And.intro c5 c4)
            have hnb : ((n0 : Int) - 1 == (n0 : Int)) = false := by rw [beq_eq_false_iff_ne]; omega
            clear c4 c5
            go_enter Tryd.func4, Tryd.ntmps4
            go_wp2_with fail
            refine (tfar_calls _ _ _ _ s _ (ht0.below (below_alloc _ _)) (hv0.below (below_alloc _ _))).mono ?_
            rintro e w1 ⟨he, hB1⟩
            rw [HF.out] at he
            subst he
            have hC1 := below2 (below_alloc _ _) hB1
            have hx0 := (Bx.new w0 _ _).below hB1
            replace ht0 := ht0.below hC1
            replace hv0 := hv0.below hC1
            replace hT := hT.below hC1
            replace hk := hk.below hC1
            have c00 := hx0.cells.1
            have c01 := hx0.cells.2.1
            have l0 := hx0.cells.2.2.2.2
            replace hBB := below2 hBB hC1
            go_wp2_with fail
            refine (tget_calls _ _ _ _ i hi _ ht0 hv0 hT).mono ?_
            rintro e w2 ⟨he, hB2⟩
            rw [S1.out.2.1] at he
            rw [← HN.out] at he
            rw [← HT0.out] at he
            subst he
            have hC2 := hB2
            replace hx0 := hx0.below hC2
            replace ht0 := ht0.below hC2
            replace hv0 := hv0.below hC2
            replace hT := hT.below hC2
            replace hk := hk.below hC2
            replace c00 := hx0.cells.1
            replace c01 := hx0.cells.2.1
            replace l0 := hx0.cells.2.2.2.2
            replace hBB := below2 hBB hC2
            go_wp2_with fail
            refine (stop_calls _ _ _ _ i hi s k _ ht0 hv0 hT).mono ?_
            rintro e w3 ⟨vb3, vw3, he, ho3, hB3⟩
            rw [S1.out.1] at he
            rw [C4.out.1] at he
            subst he
            have hC3 := hB3
            replace hx0 := hx0.below hC3
            replace ht0 := ht0.below hC3
            replace hv0 := hv0.below hC3
            replace hT := hT.below hC3
            replace hk := hk.below hC3
            replace c00 := hx0.cells.1
            replace c01 := hx0.cells.2.1
            replace l0 := hx0.cells.2.2.2.2
            replace hBB := below2 hBB hC3
            obtain ⟨ab3, nb3, cb3, aw3, nw3, cw3, rfl, rfl, hnb3, hnw3⟩ := ho3.forms
            have ht3 := ho3.texts
            have hv3 := ho3.wrs
            have N3 := Lib.hid (And.intro hnb3 hnw3)
            clear hnb3 hnw3
            go_wp2_with fail
            refine (crash_calls _ _ _ _ _ ks _ (ht3.below (below_alloc _ _)) (hv3.below (below_alloc _ _)) (hk.below (below_alloc _ _))).mono ?_
            rintro e w4 ⟨vb4, vw4, he, ho4, hB4⟩
            rw [S1.out.2.2.1] at he
            subst he
            have hC4 := below2 (below_alloc _ _) hB4
            replace hx0 := hx0.below hC4
            replace ht0 := ht0.below hC4
            replace hv0 := hv0.below hC4
            have hx3 := (Bx.new w3 _ _).below hB4
            replace ht3 := ht3.below hC4
            replace hv3 := hv3.below hC4
            replace hT := hT.below hC4
            replace hk := hk.below hC4
            replace c00 := hx0.cells.1
            replace c01 := hx0.cells.2.1
            replace l0 := hx0.cells.2.2.2.2
            have c30 := hx3.cells.1
            have c31 := hx3.cells.2.1
            have l3 := hx3.cells.2.2.2.2
            replace hBB := below2 hBB hC4
            obtain ⟨ab4, nb4, cb4, aw4, nw4, cw4, rfl, rfl, hnb4, hnw4⟩ := ho4.forms
            have ht4 := ho4.texts
            have hv4 := ho4.wrs
            have N4 := Lib.hid (And.intro hnb4 hnw4)
            clear hnb4 hnw4
            go_wp2_with fail
            refine (tget_calls _ _ _ _ i hi _ (ht4.below (below_alloc _ _)) (hv4.below (below_alloc _ _)) (hT.below (below_alloc _ _))).mono ?_
            rintro e w5 ⟨he, hB5⟩
            rw [S1.out.2.2.2] at he
            rw [C4.out.2] at he
            rw [← HN.out] at he
            rw [← HT0.out] at he
            subst he
            have hC5 := below2 (below_alloc _ _) hB5
            replace hx0 := hx0.below hC5
            replace ht0 := ht0.below hC5
            replace hv0 := hv0.below hC5
            replace hx3 := hx3.below hC5
            replace ht3 := ht3.below hC5
            replace hv3 := hv3.below hC5
            have hx4 := (Bx.new w4 _ _).below hB5
            replace ht4 := ht4.below hC5
            replace hv4 := hv4.below hC5
            replace hT := hT.below hC5
            replace hk := hk.below hC5
            replace c00 := hx0.cells.1
            replace c01 := hx0.cells.2.1
            replace l0 := hx0.cells.2.2.2.2
            replace c30 := hx3.cells.1
            replace c31 := hx3.cells.2.1
            replace l3 := hx3.cells.2.2.2.2
            have c40 := hx4.cells.1
            have c41 := hx4.cells.2.1
            have l4 := hx4.cells.2.2.2.2
            replace hBB := below2 hBB hC5
            go_wp2_with fail
            refine (twins_calls _ hT).mono ?_
            rintro e w6 ⟨he, hB6⟩
            subst he
            have hC6 := hB6
            replace hx0 := hx0.below hC6
            replace ht0 := ht0.below hC6
            replace hv0 := hv0.below hC6
            replace hx3 := hx3.below hC6
            replace ht3 := ht3.below hC6
            replace hv3 := hv3.below hC6
            replace hx4 := hx4.below hC6
            replace ht4 := ht4.below hC6
            replace hv4 := hv4.below hC6
            replace hT := hT.below hC6
            replace hk := hk.below hC6
            replace c00 := hx0.cells.1
            replace c01 := hx0.cells.2.1
            replace l0 := hx0.cells.2.2.2.2
            replace c30 := hx3.cells.1
            replace c31 := hx3.cells.2.1
            replace l3 := hx3.cells.2.2.2.2
            replace c40 := hx4.cells.1
            replace c41 := hx4.cells.2.1
            replace l4 := hx4.cells.2.2.2.2
            replace hBB := below2 hBB hC6
            go_wp2_with fail
            go_ret
            exact ⟨rfl, hBB⟩
        · obtain ⟨c, hc⟩ : ∃ c, c = stopE bs [] i s := ⟨_, rfl⟩
          have hcb : (c != 0) = true := by rw [hc]; simpa using h0
          have HC := Lib.hid hc
          obtain ⟨e0, he0⟩ : ∃ e, e = newestE bs [] i := ⟨_, rfl⟩
          have HE0 := Lib.hid he0
          clear hc h0 he0 hn0
          by_cases he : e0 = 0
          · have heb : (e0 != 0) = false := by simp [he]
            have HH := Lib.hid he
            clear he
            go_enter Tryd.func4, Tryd.ntmps4
            go_wp2_with fail
            refine (tfar_calls _ _ _ _ s _ (ht0.below (below_alloc _ _)) (hv0.below (below_alloc _ _))).mono ?_
            rintro e w1 ⟨he, hB1⟩
            rw [HF.out] at he
            subst he
            have hC1 := below2 (below_alloc _ _) hB1
            have hx0 := (Bx.new w0 _ _).below hB1
            replace ht0 := ht0.below hC1
            replace hv0 := hv0.below hC1
            replace hT := hT.below hC1
            replace hk := hk.below hC1
            have c00 := hx0.cells.1
            have c01 := hx0.cells.2.1
            have l0 := hx0.cells.2.2.2.2
            replace hBB := below2 hBB hC1
            go_wp2_with fail
            refine (tget_calls _ _ _ _ i hi _ ht0 hv0 hT).mono ?_
            rintro e w2 ⟨he, hB2⟩
            rw [← HE0.out] at he
            rw [← HN.out] at he
            rw [← HT0.out] at he
            subst he
            have hC2 := hB2
            replace hx0 := hx0.below hC2
            replace ht0 := ht0.below hC2
            replace hv0 := hv0.below hC2
            replace hT := hT.below hC2
            replace hk := hk.below hC2
            replace c00 := hx0.cells.1
            replace c01 := hx0.cells.2.1
            replace l0 := hx0.cells.2.2.2.2
            replace hBB := below2 hBB hC2
            go_wp2_with fail
            refine (stop_calls _ _ _ _ i hi s k _ ht0 hv0 hT).mono ?_
            rintro e w3 ⟨vb3, vw3, he, ho3, hB3⟩
            rw [← HC.out] at he
            rw [← HD.out] at he
            subst he
            have hC3 := hB3
            replace hx0 := hx0.below hC3
            replace ht0 := ht0.below hC3
            replace hv0 := hv0.below hC3
            replace hT := hT.below hC3
            replace hk := hk.below hC3
            replace c00 := hx0.cells.1
            replace c01 := hx0.cells.2.1
            replace l0 := hx0.cells.2.2.2.2
            replace hBB := below2 hBB hC3
            obtain ⟨ab3, nb3, cb3, aw3, nw3, cw3, rfl, rfl, hnb3, hnw3⟩ := ho3.forms
            have ht3 := ho3.texts
            have hv3 := ho3.wrs
            have N3 := Lib.hid (And.intro hnb3 hnw3)
            clear hnb3 hnw3
            go_wp2_with fail
            refine (twins_calls _ (hT.below (below_alloc _ _))).mono ?_
            rintro e w4 ⟨he, hB4⟩
            subst he
            have hC4 := below2 (below_alloc _ _) hB4
            replace hx0 := hx0.below hC4
            replace ht0 := ht0.below hC4
            replace hv0 := hv0.below hC4
            have hx3 := (Bx.new w3 _ _).below hB4
            replace ht3 := ht3.below hC4
            replace hv3 := hv3.below hC4
            replace hT := hT.below hC4
            replace hk := hk.below hC4
            replace c00 := hx0.cells.1
            replace c01 := hx0.cells.2.1
            replace l0 := hx0.cells.2.2.2.2
            have c30 := hx3.cells.1
            have c31 := hx3.cells.2.1
            have l3 := hx3.cells.2.2.2.2
            replace hBB := below2 hBB hC4
            go_wp2_with fail
            go_ret
            exact ⟨rfl, hBB⟩
          · have heb : (e0 != 0) = true := by simpa using he
            clear he
            go_enter Tryd.func4, Tryd.ntmps4
            go_wp2_with fail
            refine (tfar_calls _ _ _ _ s _ (ht0.below (below_alloc _ _)) (hv0.below (below_alloc _ _))).mono ?_
            rintro e w1 ⟨he, hB1⟩
            rw [HF.out] at he
            subst he
            have hC1 := below2 (below_alloc _ _) hB1
            have hx0 := (Bx.new w0 _ _).below hB1
            replace ht0 := ht0.below hC1
            replace hv0 := hv0.below hC1
            replace hT := hT.below hC1
            replace hk := hk.below hC1
            have c00 := hx0.cells.1
            have c01 := hx0.cells.2.1
            have l0 := hx0.cells.2.2.2.2
            replace hBB := below2 hBB hC1
            go_wp2_with fail
            refine (tget_calls _ _ _ _ i hi _ ht0 hv0 hT).mono ?_
            rintro e w2 ⟨he, hB2⟩
            rw [← HE0.out] at he
            rw [← HN.out] at he
            rw [← HT0.out] at he
            subst he
            have hC2 := hB2
            replace hx0 := hx0.below hC2
            replace ht0 := ht0.below hC2
            replace hv0 := hv0.below hC2
            replace hT := hT.below hC2
            replace hk := hk.below hC2
            replace c00 := hx0.cells.1
            replace c01 := hx0.cells.2.1
            replace l0 := hx0.cells.2.2.2.2
            replace hBB := below2 hBB hC2
            go_wp2_with fail
            refine (stop_calls _ _ _ _ i hi s k _ ht0 hv0 hT).mono ?_
            rintro e w3 ⟨vb3, vw3, he, ho3, hB3⟩
            rw [← HC.out] at he
            rw [← HD.out] at he
            subst he
            have hC3 := hB3
            replace hx0 := hx0.below hC3
            replace ht0 := ht0.below hC3
            replace hv0 := hv0.below hC3
            replace hT := hT.below hC3
            replace hk := hk.below hC3
            replace c00 := hx0.cells.1
            replace c01 := hx0.cells.2.1
            replace l0 := hx0.cells.2.2.2.2
            replace hBB := below2 hBB hC3
            obtain ⟨ab3, nb3, cb3, aw3, nw3, cw3, rfl, rfl, hnb3, hnw3⟩ := ho3.forms
            have ht3 := ho3.texts
            have hv3 := ho3.wrs
            have N3 := Lib.hid (And.intro hnb3 hnw3)
            clear hnb3 hnw3
            go_wp2_with fail
            refine (twins_calls _ (hT.below (below_alloc _ _))).mono ?_
            rintro e w4 ⟨he, hB4⟩
            subst he
            have hC4 := below2 (below_alloc _ _) hB4
            replace hx0 := hx0.below hC4
            replace ht0 := ht0.below hC4
            replace hv0 := hv0.below hC4
            have hx3 := (Bx.new w3 _ _).below hB4
            replace ht3 := ht3.below hC4
            replace hv3 := hv3.below hC4
            replace hT := hT.below hC4
            replace hk := hk.below hC4
            replace c00 := hx0.cells.1
            replace c01 := hx0.cells.2.1
            replace l0 := hx0.cells.2.2.2.2
            have c30 := hx3.cells.1
            have c31 := hx3.cells.2.1
            have l3 := hx3.cells.2.2.2.2
            replace hBB := below2 hBB hC4
            go_wp2_with fail
            go_ret
            exact ⟨rfl, hBB⟩

end Go.Proofs.YtabciahegdaeoaaDoor
