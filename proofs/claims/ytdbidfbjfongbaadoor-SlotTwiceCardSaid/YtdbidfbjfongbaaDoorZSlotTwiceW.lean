/-
  The walk of SlotTwice.
-/
import Derived.Test.YtdbidfbjfongbaaDoorZSlotBackW
namespace Go.Proofs.YtdbidfbjfongbaaDoor
open Go.RowKit

set_option maxRecDepth 100000 in
set_option maxHeartbeats 16000000 in
theorem slotTwice_walk (vb vw vl : Value) (bs : List (List UInt8)) (ws : List Wr) (l : List (List UInt8)) (w0 : World) (ht0 : Txts w0 vb bs) (hv0 : Wrs w0 vw ws) (hl : Txts w0 vl l) (hT : TabOk w0) :
    Calls Tryd.prog 6 #[.agg #[vb, vw], vl] w0 fun e w' => e = .returned (.bool true) ∧ Below w0.heap.size w0 w' := by
  obtain ⟨ab0, cb0, rfl⟩ := ht0.strs.form
  obtain ⟨aw0, cw0, rfl⟩ := hv0.form
  obtain ⟨al, cl, rfl⟩ := hl.strs.form
  have hBB := Below.refl w0.heap.size w0
  cases hF : sfarB bs ws l with
  | true =>
    have HF := Lib.hid hF
    clear hF
    go_enter Tryd.func6, Tryd.ntmps6
    go_wp2_with fail
    refine (sfar_calls _ _ _ _ _ l _ (ht0.below (below_alloc _ _)) (hv0.below (below_alloc _ _)) (hl.below (below_alloc _ _))).mono ?_
    rintro e w1 ⟨he, hB1⟩
    rw [HF.out] at he
    subst he
    have hC1 := below2 (below_alloc _ _) hB1
    have hx0 := (Bx.new w0 _ _).below hB1
    replace ht0 := ht0.below hC1
    replace hv0 := hv0.below hC1
    replace hT := hT.below hC1
    replace hl := hl.below hC1
    have c00 := hx0.cells.1
    have c01 := hx0.cells.2.1
    have l0 := hx0.cells.2.2.2.2
    replace hBB := below2 hBB hC1
    go_wp2_with fail
    go_ret
    exact ⟨rfl, hBB⟩
  | false =>
    have hlm := sfar_not hF
    have HF := Lib.hid hF
    clear hF
    by_cases hz : (saveR bs ws l (-1)).1 = 0
    · have h3 := save_twice hz
      obtain ⟨x, q1, _, q3, q4, q5, _⟩ := save_back2 hz
      rw [q1] at h3
      simp only at h3
      have hnl := openN_le x []
      obtain ⟨n1, hn1⟩ : ∃ n, openN x [] = n := ⟨_, rfl⟩
      rw [hn1] at hnl
      by_cases hz2 : (saveR x [] l (-1)).1 = 0
      · obtain ⟨y, p1, _, p3, p4, p5, _⟩ := save_back2 hz2
        rw [hn1] at p5
        have H := Lib.hid (And.intro q1 (And.intro q3 (And.intro q4 hn1)))
        have G := Lib.hid (And.intro p1 (And.intro p3 (And.intro p4 p5)))
        clear h3 hz hz2 q1 q3 q4 q5 p1 p3 p4 p5 hn1
        go_enter Tryd.func6, Tryd.ntmps6
        go_wp2_with fail
        refine (sfar_calls _ _ _ _ _ l _ (ht0.below (below_alloc _ _)) (hv0.below (below_alloc _ _)) (hl.below (below_alloc _ _))).mono ?_
        rintro e w1 ⟨he, hB1⟩
        rw [HF.out] at he
        subst he
        have hC1 := below2 (below_alloc _ _) hB1
        have hx0 := (Bx.new w0 _ _).below hB1
        replace ht0 := ht0.below hC1
        replace hv0 := hv0.below hC1
        replace hT := hT.below hC1
        replace hl := hl.below hC1
        have c00 := hx0.cells.1
        have c01 := hx0.cells.2.1
        have l0 := hx0.cells.2.2.2.2
        replace hBB := below2 hBB hC1
        go_wp2_with fail
        refine (save_calls _ _ _ _ _ l (-1) _ ht0 hv0 hl hT (by omega)).mono ?_
        rintro e w2 ⟨vb2, vw2, he, ho2, hB2⟩
        rw [H.out.1] at he
        subst he
        have hC2 := hB2
        replace hx0 := hx0.below hC2
        replace ht0 := ht0.below hC2
        replace hv0 := hv0.below hC2
        replace hT := hT.below hC2
        replace hl := hl.below hC2
        replace c00 := hx0.cells.1
        replace c01 := hx0.cells.2.1
        replace l0 := hx0.cells.2.2.2.2
        replace hBB := below2 hBB hC2
        obtain ⟨ab2, nb2, cb2, aw2, nw2, cw2, rfl, rfl, hnb2, hnw2⟩ := ho2.forms
        have ht2 := ho2.texts
        have hv2 := ho2.wrs
        have N2 := Lib.hid (And.intro hnb2 hnw2)
        clear hnb2 hnw2
        rw [H.out.1] at ht2
        rw [H.out.1] at hv2
        go_wp2_with fail
        refine (save_calls _ _ _ _ _ l (-1) _ (ht2.below (below_alloc _ _)) (hv2.below (below_alloc _ _)) (hl.below (below_alloc _ _)) (hT.below (below_alloc _ _)) (by omega)).mono ?_
        rintro e w3 ⟨vb3, vw3, he, ho3, hB3⟩
        rw [G.out.1] at he
        subst he
        have hC3 := below2 (below_alloc _ _) hB3
        replace hx0 := hx0.below hC3
        replace ht0 := ht0.below hC3
        replace hv0 := hv0.below hC3
        have hx2 := (Bx.new w2 _ _).below hB3
        replace ht2 := ht2.below hC3
        replace hv2 := hv2.below hC3
        replace hT := hT.below hC3
        replace hl := hl.below hC3
        replace c00 := hx0.cells.1
        replace c01 := hx0.cells.2.1
        replace l0 := hx0.cells.2.2.2.2
        have c20 := hx2.cells.1
        have c21 := hx2.cells.2.1
        have l2 := hx2.cells.2.2.2.2
        replace hBB := below2 hBB hC3
        obtain ⟨ab3, nb3, cb3, aw3, nw3, cw3, rfl, rfl, hnb3, hnw3⟩ := ho3.forms
        have ht3 := ho3.texts
        have hv3 := ho3.wrs
        have N3 := Lib.hid (And.intro hnb3 hnw3)
        clear hnb3 hnw3
        rw [G.out.1] at ht3
        rw [G.out.1] at hv3
        go_wp2_with fail
        refine (load_calls _ _ _ _ _ (ht2.below (below_alloc _ _)) (hv2.below (below_alloc _ _)) (hT.below (below_alloc _ _))).mono ?_
        rintro e w4 ⟨vp4, he, ho4, hB4⟩
        rw [H.out.2.1] at he
        rw [H.out.2.2.2] at he
        rw [H.out.2.2.1] at ho4
        subst he
        have hC4 := below2 (below_alloc _ _) hB4
        replace hx0 := hx0.below hC4
        replace ht0 := ht0.below hC4
        replace hv0 := hv0.below hC4
        replace hx2 := hx2.below hC4
        replace ht2 := ht2.below hC4
        replace hv2 := hv2.below hC4
        have hx3 := (Bx.new w3 _ _).below hB4
        replace ht3 := ht3.below hC4
        replace hv3 := hv3.below hC4
        replace hT := hT.below hC4
        replace hl := hl.below hC4
        replace c00 := hx0.cells.1
        replace c01 := hx0.cells.2.1
        replace l0 := hx0.cells.2.2.2.2
        replace c20 := hx2.cells.1
        replace c21 := hx2.cells.2.1
        replace l2 := hx2.cells.2.2.2.2
        have c30 := hx3.cells.1
        have c31 := hx3.cells.2.1
        have l3 := hx3.cells.2.2.2.2
        replace hBB := below2 hBB hC4
        have hp4 := ho4.txts
        clear ho4
        obtain ⟨ap4, cp4, rfl⟩ := hp4.strs.form
        go_wp2_with fail
        refine (load_calls _ _ _ _ _ ht3 hv3 hT).mono ?_
        rintro e w5 ⟨vp5, he, ho5, hB5⟩
        rw [G.out.2.1] at he
        rw [G.out.2.2.2] at he
        rw [show ((n1 + 1 : Nat) : Int) = (n1 : Int) + 1 from rfl] at he
        rw [G.out.2.2.1] at ho5
        subst he
        have hC5 := hB5
        replace hx0 := hx0.below hC5
        replace ht0 := ht0.below hC5
        replace hv0 := hv0.below hC5
        replace hx2 := hx2.below hC5
        replace ht2 := ht2.below hC5
        replace hv2 := hv2.below hC5
        replace hx3 := hx3.below hC5
        replace ht3 := ht3.below hC5
        replace hv3 := hv3.below hC5
        replace hT := hT.below hC5
        replace hl := hl.below hC5
        replace hp4 := hp4.below hC5
        replace c00 := hx0.cells.1
        replace c01 := hx0.cells.2.1
        replace l0 := hx0.cells.2.2.2.2
        replace c20 := hx2.cells.1
        replace c21 := hx2.cells.2.1
        replace l2 := hx2.cells.2.2.2.2
        replace c30 := hx3.cells.1
        replace c31 := hx3.cells.2.1
        replace l3 := hx3.cells.2.2.2.2
        replace hBB := below2 hBB hC5
        have hp5 := ho5.txts
        clear ho5
        obtain ⟨ap5, cp5, rfl⟩ := hp5.strs.form
        go_wp2_with fail
        refine (shelved_calls _ hT).mono ?_
        rintro e w6 ⟨he, hB6⟩
        subst he
        have hC6 := hB6
        replace hx0 := hx0.below hC6
        replace ht0 := ht0.below hC6
        replace hv0 := hv0.below hC6
        replace hx2 := hx2.below hC6
        replace ht2 := ht2.below hC6
        replace hv2 := hv2.below hC6
        replace hx3 := hx3.below hC6
        replace ht3 := ht3.below hC6
        replace hv3 := hv3.below hC6
        replace hT := hT.below hC6
        replace hl := hl.below hC6
        replace hp4 := hp4.below hC6
        replace hp5 := hp5.below hC6
        replace c00 := hx0.cells.1
        replace c01 := hx0.cells.2.1
        replace l0 := hx0.cells.2.2.2.2
        replace c20 := hx2.cells.1
        replace c21 := hx2.cells.2.1
        replace l2 := hx2.cells.2.2.2.2
        replace c30 := hx3.cells.1
        replace c31 := hx3.cells.2.1
        replace l3 := hx3.cells.2.2.2.2
        replace hBB := below2 hBB hC6
        go_wp2_with fail
        refine (texts_calls _ _ _ _ _ hp4.strs hp5.strs (by omega)).mono ?_
        rintro e w7 ⟨he, hB7⟩
        rw [show decide (l = l) = true by simp] at he
        subst he
        have hC7 := hB7
        replace hx0 := hx0.below hC7
        replace ht0 := ht0.below hC7
        replace hv0 := hv0.below hC7
        replace hx2 := hx2.below hC7
        replace ht2 := ht2.below hC7
        replace hv2 := hv2.below hC7
        replace hx3 := hx3.below hC7
        replace ht3 := ht3.below hC7
        replace hv3 := hv3.below hC7
        replace hT := hT.below hC7
        replace hl := hl.below hC7
        replace hp4 := hp4.below hC7
        replace hp5 := hp5.below hC7
        replace c00 := hx0.cells.1
        replace c01 := hx0.cells.2.1
        replace l0 := hx0.cells.2.2.2.2
        replace c20 := hx2.cells.1
        replace c21 := hx2.cells.2.1
        replace l2 := hx2.cells.2.2.2.2
        replace c30 := hx3.cells.1
        replace c31 := hx3.cells.2.1
        replace l3 := hx3.cells.2.2.2.2
        replace hBB := below2 hBB hC7
        go_wp2_with fail
        go_ret
        exact ⟨rfl, hBB⟩
      · obtain ⟨c, hc, p1⟩ := save_none2 hz2
        rw [p1] at h3
        simp only at h3
        have h4 : c = 41 ∨ c = 2 := by omega
        clear h3 hz hz2 hc q3 q4 q5 hn1 hnl
        rcases h4 with rfl | rfl
        · have H := Lib.hid (And.intro q1 p1)
          clear q1 p1
          go_enter Tryd.func6, Tryd.ntmps6
          go_wp2_with fail
          refine (sfar_calls _ _ _ _ _ l _ (ht0.below (below_alloc _ _)) (hv0.below (below_alloc _ _)) (hl.below (below_alloc _ _))).mono ?_
          rintro e w1 ⟨he, hB1⟩
          rw [HF.out] at he
          subst he
          have hC1 := below2 (below_alloc _ _) hB1
          have hx0 := (Bx.new w0 _ _).below hB1
          replace ht0 := ht0.below hC1
          replace hv0 := hv0.below hC1
          replace hT := hT.below hC1
          replace hl := hl.below hC1
          have c00 := hx0.cells.1
          have c01 := hx0.cells.2.1
          have l0 := hx0.cells.2.2.2.2
          replace hBB := below2 hBB hC1
          go_wp2_with fail
          refine (save_calls _ _ _ _ _ l (-1) _ ht0 hv0 hl hT (by omega)).mono ?_
          rintro e w2 ⟨vb2, vw2, he, ho2, hB2⟩
          rw [H.out.1] at he
          subst he
          have hC2 := hB2
          replace hx0 := hx0.below hC2
          replace ht0 := ht0.below hC2
          replace hv0 := hv0.below hC2
          replace hT := hT.below hC2
          replace hl := hl.below hC2
          replace c00 := hx0.cells.1
          replace c01 := hx0.cells.2.1
          replace l0 := hx0.cells.2.2.2.2
          replace hBB := below2 hBB hC2
          obtain ⟨ab2, nb2, cb2, aw2, nw2, cw2, rfl, rfl, hnb2, hnw2⟩ := ho2.forms
          have ht2 := ho2.texts
          have hv2 := ho2.wrs
          have N2 := Lib.hid (And.intro hnb2 hnw2)
          clear hnb2 hnw2
          rw [H.out.1] at ht2
          rw [H.out.1] at hv2
          go_wp2_with fail
          refine (save_calls _ _ _ _ _ l (-1) _ (ht2.below (below_alloc _ _)) (hv2.below (below_alloc _ _)) (hl.below (below_alloc _ _)) (hT.below (below_alloc _ _)) (by omega)).mono ?_
          rintro e w3 ⟨vb3, vw3, he, ho3, hB3⟩
          rw [H.out.2] at he
          subst he
          have hC3 := below2 (below_alloc _ _) hB3
          replace hx0 := hx0.below hC3
          replace ht0 := ht0.below hC3
          replace hv0 := hv0.below hC3
          have hx2 := (Bx.new w2 _ _).below hB3
          replace ht2 := ht2.below hC3
          replace hv2 := hv2.below hC3
          replace hT := hT.below hC3
          replace hl := hl.below hC3
          replace c00 := hx0.cells.1
          replace c01 := hx0.cells.2.1
          replace l0 := hx0.cells.2.2.2.2
          have c20 := hx2.cells.1
          have c21 := hx2.cells.2.1
          have l2 := hx2.cells.2.2.2.2
          replace hBB := below2 hBB hC3
          obtain ⟨ab3, nb3, cb3, aw3, nw3, cw3, rfl, rfl, hnb3, hnw3⟩ := ho3.forms
          have ht3 := ho3.texts
          have hv3 := ho3.wrs
          have N3 := Lib.hid (And.intro hnb3 hnw3)
          clear hnb3 hnw3
          rw [H.out.2] at ht3
          rw [H.out.2] at hv3
          go_wp2_with fail
          refine (shelved_calls _ (hT.below (below_alloc _ _))).mono ?_
          rintro e w4 ⟨he, hB4⟩
          subst he
          have hC4 := below2 (below_alloc _ _) hB4
          replace hx0 := hx0.below hC4
          replace ht0 := ht0.below hC4
          replace hv0 := hv0.below hC4
          replace hx2 := hx2.below hC4
          replace ht2 := ht2.below hC4
          replace hv2 := hv2.below hC4
          have hx3 := (Bx.new w3 _ _).below hB4
          replace ht3 := ht3.below hC4
          replace hv3 := hv3.below hC4
          replace hT := hT.below hC4
          replace hl := hl.below hC4
          replace c00 := hx0.cells.1
          replace c01 := hx0.cells.2.1
          replace l0 := hx0.cells.2.2.2.2
          replace c20 := hx2.cells.1
          replace c21 := hx2.cells.2.1
          replace l2 := hx2.cells.2.2.2.2
          have c30 := hx3.cells.1
          have c31 := hx3.cells.2.1
          have l3 := hx3.cells.2.2.2.2
          replace hBB := below2 hBB hC4
          go_wp2_with fail
          go_ret
          exact ⟨rfl, hBB⟩
        · have H := Lib.hid (And.intro q1 p1)
          clear q1 p1
          go_enter Tryd.func6, Tryd.ntmps6
          go_wp2_with fail
          refine (sfar_calls _ _ _ _ _ l _ (ht0.below (below_alloc _ _)) (hv0.below (below_alloc _ _)) (hl.below (below_alloc _ _))).mono ?_
          rintro e w1 ⟨he, hB1⟩
          rw [HF.out] at he
          subst he
          have hC1 := below2 (below_alloc _ _) hB1
          have hx0 := (Bx.new w0 _ _).below hB1
          replace ht0 := ht0.below hC1
          replace hv0 := hv0.below hC1
          replace hT := hT.below hC1
          replace hl := hl.below hC1
          have c00 := hx0.cells.1
          have c01 := hx0.cells.2.1
          have l0 := hx0.cells.2.2.2.2
          replace hBB := below2 hBB hC1
          go_wp2_with fail
          refine (save_calls _ _ _ _ _ l (-1) _ ht0 hv0 hl hT (by omega)).mono ?_
          rintro e w2 ⟨vb2, vw2, he, ho2, hB2⟩
          rw [H.out.1] at he
          subst he
          have hC2 := hB2
          replace hx0 := hx0.below hC2
          replace ht0 := ht0.below hC2
          replace hv0 := hv0.below hC2
          replace hT := hT.below hC2
          replace hl := hl.below hC2
          replace c00 := hx0.cells.1
          replace c01 := hx0.cells.2.1
          replace l0 := hx0.cells.2.2.2.2
          replace hBB := below2 hBB hC2
          obtain ⟨ab2, nb2, cb2, aw2, nw2, cw2, rfl, rfl, hnb2, hnw2⟩ := ho2.forms
          have ht2 := ho2.texts
          have hv2 := ho2.wrs
          have N2 := Lib.hid (And.intro hnb2 hnw2)
          clear hnb2 hnw2
          rw [H.out.1] at ht2
          rw [H.out.1] at hv2
          go_wp2_with fail
          refine (save_calls _ _ _ _ _ l (-1) _ (ht2.below (below_alloc _ _)) (hv2.below (below_alloc _ _)) (hl.below (below_alloc _ _)) (hT.below (below_alloc _ _)) (by omega)).mono ?_
          rintro e w3 ⟨vb3, vw3, he, ho3, hB3⟩
          rw [H.out.2] at he
          subst he
          have hC3 := below2 (below_alloc _ _) hB3
          replace hx0 := hx0.below hC3
          replace ht0 := ht0.below hC3
          replace hv0 := hv0.below hC3
          have hx2 := (Bx.new w2 _ _).below hB3
          replace ht2 := ht2.below hC3
          replace hv2 := hv2.below hC3
          replace hT := hT.below hC3
          replace hl := hl.below hC3
          replace c00 := hx0.cells.1
          replace c01 := hx0.cells.2.1
          replace l0 := hx0.cells.2.2.2.2
          have c20 := hx2.cells.1
          have c21 := hx2.cells.2.1
          have l2 := hx2.cells.2.2.2.2
          replace hBB := below2 hBB hC3
          obtain ⟨ab3, nb3, cb3, aw3, nw3, cw3, rfl, rfl, hnb3, hnw3⟩ := ho3.forms
          have ht3 := ho3.texts
          have hv3 := ho3.wrs
          have N3 := Lib.hid (And.intro hnb3 hnw3)
          clear hnb3 hnw3
          rw [H.out.2] at ht3
          rw [H.out.2] at hv3
          go_wp2_with fail
          refine (shelved_calls _ (hT.below (below_alloc _ _))).mono ?_
          rintro e w4 ⟨he, hB4⟩
          subst he
          have hC4 := below2 (below_alloc _ _) hB4
          replace hx0 := hx0.below hC4
          replace ht0 := ht0.below hC4
          replace hv0 := hv0.below hC4
          replace hx2 := hx2.below hC4
          replace ht2 := ht2.below hC4
          replace hv2 := hv2.below hC4
          have hx3 := (Bx.new w3 _ _).below hB4
          replace ht3 := ht3.below hC4
          replace hv3 := hv3.below hC4
          replace hT := hT.below hC4
          replace hl := hl.below hC4
          replace c00 := hx0.cells.1
          replace c01 := hx0.cells.2.1
          replace l0 := hx0.cells.2.2.2.2
          replace c20 := hx2.cells.1
          replace c21 := hx2.cells.2.1
          replace l2 := hx2.cells.2.2.2.2
          have c30 := hx3.cells.1
          have c31 := hx3.cells.2.1
          have l3 := hx3.cells.2.2.2.2
          replace hBB := below2 hBB hC4
          go_wp2_with fail
          go_ret
          exact ⟨rfl, hBB⟩
    · obtain ⟨c, hc, q1⟩ := save_none2 hz
      obtain ⟨⟨E2, A2, B2, V2⟩, hR2⟩ : ∃ R, saveR [] [] l (-1) = R := ⟨_, rfl⟩
      have H := Lib.hid (And.intro q1 hR2)
      have hcb : (c != 0) = true := by simpa using hc
      clear q1 hR2 hz hc
      go_enter Tryd.func6, Tryd.ntmps6
      go_wp2_with fail
      refine (sfar_calls _ _ _ _ _ l _ (ht0.below (below_alloc _ _)) (hv0.below (below_alloc _ _)) (hl.below (below_alloc _ _))).mono ?_
      rintro e w1 ⟨he, hB1⟩
      rw [HF.out] at he
      subst he
      have hC1 := below2 (below_alloc _ _) hB1
      have hx0 := (Bx.new w0 _ _).below hB1
      replace ht0 := ht0.below hC1
      replace hv0 := hv0.below hC1
      replace hT := hT.below hC1
      replace hl := hl.below hC1
      have c00 := hx0.cells.1
      have c01 := hx0.cells.2.1
      have l0 := hx0.cells.2.2.2.2
      replace hBB := below2 hBB hC1
      go_wp2_with fail
      refine (save_calls _ _ _ _ _ l (-1) _ ht0 hv0 hl hT (by omega)).mono ?_
      rintro e w2 ⟨vb2, vw2, he, ho2, hB2⟩
      rw [H.out.1] at he
      subst he
      have hC2 := hB2
      replace hx0 := hx0.below hC2
      replace ht0 := ht0.below hC2
      replace hv0 := hv0.below hC2
      replace hT := hT.below hC2
      replace hl := hl.below hC2
      replace c00 := hx0.cells.1
      replace c01 := hx0.cells.2.1
      replace l0 := hx0.cells.2.2.2.2
      replace hBB := below2 hBB hC2
      obtain ⟨ab2, nb2, cb2, aw2, nw2, cw2, rfl, rfl, hnb2, hnw2⟩ := ho2.forms
      have ht2 := ho2.texts
      have hv2 := ho2.wrs
      have N2 := Lib.hid (And.intro hnb2 hnw2)
      clear hnb2 hnw2
      rw [H.out.1] at ht2
      rw [H.out.1] at hv2
      go_wp2_with fail
      refine (save_calls _ _ _ _ _ l (-1) _ (ht2.below (below_alloc _ _)) (hv2.below (below_alloc _ _)) (hl.below (below_alloc _ _)) (hT.below (below_alloc _ _)) (by omega)).mono ?_
      rintro e w3 ⟨vb3, vw3, he, ho3, hB3⟩
      rw [H.out.2] at he
      subst he
      have hC3 := below2 (below_alloc _ _) hB3
      replace hx0 := hx0.below hC3
      replace ht0 := ht0.below hC3
      replace hv0 := hv0.below hC3
      have hx2 := (Bx.new w2 _ _).below hB3
      replace ht2 := ht2.below hC3
      replace hv2 := hv2.below hC3
      replace hT := hT.below hC3
      replace hl := hl.below hC3
      replace c00 := hx0.cells.1
      replace c01 := hx0.cells.2.1
      replace l0 := hx0.cells.2.2.2.2
      have c20 := hx2.cells.1
      have c21 := hx2.cells.2.1
      have l2 := hx2.cells.2.2.2.2
      replace hBB := below2 hBB hC3
      obtain ⟨ab3, nb3, cb3, aw3, nw3, cw3, rfl, rfl, hnb3, hnw3⟩ := ho3.forms
      have ht3 := ho3.texts
      have hv3 := ho3.wrs
      have N3 := Lib.hid (And.intro hnb3 hnw3)
      clear hnb3 hnw3
      rw [H.out.2] at ht3
      rw [H.out.2] at hv3
      go_wp2_with fail
      refine (shelved_calls _ (hT.below (below_alloc _ _))).mono ?_
      rintro e w4 ⟨he, hB4⟩
      subst he
      have hC4 := below2 (below_alloc _ _) hB4
      replace hx0 := hx0.below hC4
      replace ht0 := ht0.below hC4
      replace hv0 := hv0.below hC4
      replace hx2 := hx2.below hC4
      replace ht2 := ht2.below hC4
      replace hv2 := hv2.below hC4
      have hx3 := (Bx.new w3 _ _).below hB4
      replace ht3 := ht3.below hC4
      replace hv3 := hv3.below hC4
      replace hT := hT.below hC4
      replace hl := hl.below hC4
      replace c00 := hx0.cells.1
      replace c01 := hx0.cells.2.1
      replace l0 := hx0.cells.2.2.2.2
      replace c20 := hx2.cells.1
      replace c21 := hx2.cells.2.1
      replace l2 := hx2.cells.2.2.2.2
      have c30 := hx3.cells.1
      have c31 := hx3.cells.2.1
      have l3 := hx3.cells.2.2.2.2
      replace hBB := below2 hBB hC4
      go_wp2_with fail
      go_ret
      exact ⟨rfl, hBB⟩

end Go.Proofs.YtdbidfbjfongbaaDoor
