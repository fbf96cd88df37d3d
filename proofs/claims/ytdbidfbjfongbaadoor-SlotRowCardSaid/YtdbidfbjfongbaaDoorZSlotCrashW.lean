/-
  The walk of SlotCrash.
-/
import Derived.Test.YtdbidfbjfongbaaDoorZSlotBackW
import Derived.Test.YtdbidfbjfongbaaDoorPks04
namespace Go.Proofs.YtdbidfbjfongbaaDoor
open Go.RowKit

/-- Behind a Save that was stopped at any deed, and a crash: all of it at once. -/
theorem save_crash2 {bs : List (List UInt8)} {l : List (List UInt8)} {k : Int} (h : (saveR bs [] l k).1 = 0) (ks : List Bool) :
    ∃ D X V c, saveR bs [] l k = (0, D, X, V) ∧ openE bs [] = 0 ∧ syncE X V = 0 ∧ crashBs X V ks = c ∧ c.length = bs.length ∧ openE c [] = 0 ∧ ((openP c [] = l ∧ openN c [] = openN bs [] + 1) ∨ (D = false ∧ openP c [] = openP bs [] ∧ openN c [] = openN bs [])) := by
  have h1 := (save_ok h).1
  have h2 := save_crash h ks
  obtain ⟨⟨E, D, X, V⟩, hR⟩ : ∃ R, saveR bs [] l k = R := ⟨_, rfl⟩
  rw [hR] at h h2
  simp only at h h2
  subst h
  obtain ⟨r, a1, a2, a3⟩ := h2
  exact ⟨D, X, V, _, hR, h1, by simp [syncE, r], rfl, a1, a2, a3⟩

set_option maxRecDepth 100000 in
set_option maxHeartbeats 16000000 in
theorem slotCrash_walk (vb vw vl : Value) (bs : List (List UInt8)) (ws : List Wr) (l : List (List UInt8)) (k : Int) (vk : Value) (ks : List Bool) (w0 : World) (ht0 : Txts w0 vb bs) (hv0 : Wrs w0 vw ws) (hl : Txts w0 vl l) (hk : Bools w0 vk ks) (hT : TabOk w0) :
    Calls Tryd.prog 4 #[.agg #[vb, vw], vl, .int .i64 k, vk] w0 fun e w' => e = .returned (.bool true) ∧ Below w0.heap.size w0 w' := by
  obtain ⟨ab0, cb0, rfl⟩ := ht0.strs.form
  obtain ⟨aw0, cw0, rfl⟩ := hv0.form
  obtain ⟨al, cl, rfl⟩ := hl.strs.form
  obtain ⟨ak, ck, rfl⟩ := hk.form
  have hBB := Below.refl w0.heap.size w0
  cases hF : sfarB bs ws l with
  | true =>
    have HF := Lib.hid hF
    clear hF
    go_enter Tryd.func4, Tryd.ntmps4
    go_wp2_with fail
    refine (sfar_calls _ _ _ _ _ l _ (ht0.below (below_alloc _ _)) (hv0.below (below_alloc _ _)) (hl.below (below_alloc _ _))).mono ?_
    rintro e w1 ⟨he, hB1⟩
    rw [HF.out] at he
    subst he
    have hC1 := below2 (below_alloc _ _) hB1
    have hx0 := (Bx.new w0 _ _).below hB1
    replace ht0 := ht0.below hC1
    replace hv0 := hv0.below hC1
    replace hT := hT.below hC1
    replace hl := hl.below hC1
    replace hk := hk.below hC1
    have c00 := hx0.cells.1
    have c01 := hx0.cells.2.1
    have l0 := hx0.cells.2.2.2.2
    replace hBB := below2 hBB hC1
    go_wp2_with fail
    go_ret
    exact ⟨rfl, hBB⟩
  | false =>
    have hlm := sfar_not hF
    have HF := Lib.hid hF
    clear hF
    by_cases hw0 : 0 < ws.length
    · have d1 : decide ((0 : Int) < (ws.length : Int)) = true := by simp; omega
      go_enter Tryd.func4, Tryd.ntmps4
      go_wp2_with fail
      refine (sfar_calls _ _ _ _ _ l _ (ht0.below (below_alloc _ _)) (hv0.below (below_alloc _ _)) (hl.below (below_alloc _ _))).mono ?_
      rintro e w1 ⟨he, hB1⟩
      rw [HF.out] at he
      subst he
      have hC1 := below2 (below_alloc _ _) hB1
      have hx0 := (Bx.new w0 _ _).below hB1
      replace ht0 := ht0.below hC1
      replace hv0 := hv0.below hC1
      replace hT := hT.below hC1
      replace hl := hl.below hC1
      replace hk := hk.below hC1
      have c00 := hx0.cells.1
      have c01 := hx0.cells.2.1
      have l0 := hx0.cells.2.2.2.2
      replace hBB := below2 hBB hC1
      go_wp2_with fail
      go_ret
      exact ⟨rfl, hBB⟩
    · obtain rfl : ws = [] := List.eq_nil_of_length_eq_zero (by omega)
      clear hw0
      by_cases h4 : 200 < ks.length
      · have d4 : decide ((200 : Int) < (ks.length : Int)) = true := by simp; omega
        go_enter Tryd.func4, Tryd.ntmps4
        go_wp2_with fail
        refine (sfar_calls _ _ _ _ _ l _ (ht0.below (below_alloc _ _)) (hv0.below (below_alloc _ _)) (hl.below (below_alloc _ _))).mono ?_
        rintro e w1 ⟨he, hB1⟩
        rw [HF.out] at he
        subst he
        have hC1 := below2 (below_alloc _ _) hB1
        have hx0 := (Bx.new w0 _ _).below hB1
        replace ht0 := ht0.below hC1
        replace hv0 := hv0.below hC1
        replace hT := hT.below hC1
        replace hl := hl.below hC1
        replace hk := hk.below hC1
        have c00 := hx0.cells.1
        have c01 := hx0.cells.2.1
        have l0 := hx0.cells.2.2.2.2
        replace hBB := below2 hBB hC1
        go_wp2_with fail
        go_ret
        exact ⟨rfl, hBB⟩
      · have d4 : decide ((200 : Int) < (ks.length : Int)) = false := by simp; omega
        have hnl := openN_le bs []
        clear h4
        by_cases hz : (saveR bs [] l k).1 = 0
        · obtain ⟨D, X, V, c, q1, q2, q3, q4, _, q5, q6⟩ := save_crash2 hz ks
          have hPl : (openP c []).length ≤ 1000000 := by
            have := (open_table q5)
            have hr := (open_ok q5).2.2.1
            unfold openP
            rw [pagesL_len]
            omega
          obtain ⟨n0, hn0⟩ : ∃ n, openN bs [] = n := ⟨_, rfl⟩
          rw [hn0] at hnl q6
          have HN := Lib.hid hn0
          obtain ⟨P0, hP0⟩ : ∃ n, openP bs [] = n := ⟨_, rfl⟩
          rw [hP0] at q6
          have HP := Lib.hid hP0
          clear hz hn0 hP0
          rcases q6 with ⟨q6, q7⟩ | ⟨rfl, q6, q7⟩
          · have H := Lib.hid (And.intro q1 (And.intro q2 (And.intro q3 (And.intro q4 (And.intro q5 (And.intro q6 q7))))))
            clear q1 q2 q3 q4 q5 q6 q7 hPl
            go_enter Tryd.func4, Tryd.ntmps4
            go_wp2_with fail
            refine (sfar_calls _ _ _ _ _ l _ (ht0.below (below_alloc _ _)) (hv0.below (below_alloc _ _)) (hl.below (below_alloc _ _))).mono ?_
            rintro e w1 ⟨he, hB1⟩
            rw [HF.out] at he
            subst he
            have hC1 := below2 (below_alloc _ _) hB1
            have hx0 := (Bx.new w0 _ _).below hB1
            replace ht0 := ht0.below hC1
            replace hv0 := hv0.below hC1
            replace hT := hT.below hC1
            replace hl := hl.below hC1
            replace hk := hk.below hC1
            have c00 := hx0.cells.1
            have c01 := hx0.cells.2.1
            have l0 := hx0.cells.2.2.2.2
            replace hBB := below2 hBB hC1
            go_wp2_with fail
            refine (load_calls _ _ _ _ _ ht0 hv0 hT).mono ?_
            rintro e w2 ⟨vp2, he, ho2, hB2⟩
            rw [HN.out] at he
            rw [H.out.2.1] at he
            rw [HP.out] at ho2
            subst he
            have hC2 := hB2
            replace hx0 := hx0.below hC2
            replace ht0 := ht0.below hC2
            replace hv0 := hv0.below hC2
            replace hT := hT.below hC2
            replace hl := hl.below hC2
            replace hk := hk.below hC2
            replace c00 := hx0.cells.1
            replace c01 := hx0.cells.2.1
            replace l0 := hx0.cells.2.2.2.2
            replace hBB := below2 hBB hC2
            have hp2 := ho2.txts
            clear ho2
            obtain ⟨ap2, cp2, rfl⟩ := hp2.strs.form
            go_wp2_with fail
            refine (save_calls _ _ _ _ _ l k _ ht0 hv0 hl hT (by omega)).mono ?_
            rintro e w3 ⟨vb3, vw3, he, ho3, hB3⟩
            rw [H.out.1] at he
            subst he
            have hC3 := hB3
            replace hx0 := hx0.below hC3
            replace ht0 := ht0.below hC3
            replace hv0 := hv0.below hC3
            replace hT := hT.below hC3
            replace hl := hl.below hC3
            replace hk := hk.below hC3
            replace hp2 := hp2.below hC3
            replace c00 := hx0.cells.1
            replace c01 := hx0.cells.2.1
            replace l0 := hx0.cells.2.2.2.2
            replace hBB := below2 hBB hC3
            obtain ⟨ab3, nb3, cb3, aw3, nw3, cw3, rfl, rfl, hnb3, hnw3⟩ := ho3.forms
            have ht3 := ho3.texts
            have hv3 := ho3.wrs
            have N3 := Lib.hid (And.intro hnb3 hnw3)
            clear hnb3 hnw3
            rw [H.out.1] at ht3
            rw [H.out.1] at hv3
            go_wp2_with fail
            refine (crash_calls _ _ _ _ _ ks _ (ht3.below (below_alloc _ _)) (hv3.below (below_alloc _ _)) (hk.below (below_alloc _ _))).mono ?_
            rintro e w4 ⟨vb4, vw4, he, ho4, hB4⟩
            rw [H.out.2.2.1] at he
            subst he
            have hC4 := below2 (below_alloc _ _) hB4
            replace hx0 := hx0.below hC4
            replace ht0 := ht0.below hC4
            replace hv0 := hv0.below hC4
            have hx3 := (Bx.new w3 _ _).below hB4
            replace ht3 := ht3.below hC4
            replace hv3 := hv3.below hC4
            replace hT := hT.below hC4
            replace hl := hl.below hC4
            replace hk := hk.below hC4
            replace hp2 := hp2.below hC4
            replace c00 := hx0.cells.1
            replace c01 := hx0.cells.2.1
            replace l0 := hx0.cells.2.2.2.2
            have c30 := hx3.cells.1
            have c31 := hx3.cells.2.1
            have l3 := hx3.cells.2.2.2.2
            replace hBB := below2 hBB hC4
            obtain ⟨ab4, nb4, cb4, aw4, nw4, cw4, rfl, rfl, hnb4, hnw4⟩ := ho4.forms
            have ht4 := ho4.texts
            have hv4 := ho4.wrs
            have N4 := Lib.hid (And.intro hnb4 hnw4)
            clear hnb4 hnw4
            rw [H.out.2.2.2.1] at ht4
            go_wp2_with fail
            refine (load_calls _ _ _ _ _ (ht4.below (below_alloc _ _)) (hv4.below (below_alloc _ _)) (hT.below (below_alloc _ _))).mono ?_
            rintro e w5 ⟨vp5, he, ho5, hB5⟩
            rw [H.out.2.2.2.2.1] at he
            rw [H.out.2.2.2.2.2.2] at he
            rw [show ((n0 + 1 : Nat) : Int) = (n0 : Int) + 1 from rfl] at he
            rw [H.out.2.2.2.2.2.1] at ho5
            subst he
            have hC5 := below2 (below_alloc _ _) hB5
            replace hx0 := hx0.below hC5
            replace ht0 := ht0.below hC5
            replace hv0 := hv0.below hC5
            replace hx3 := hx3.below hC5
            replace ht3 := ht3.below hC5
            replace hv3 := hv3.below hC5
            have hx4 := (Bx.new w4 _ _).below hB5
            replace ht4 := ht4.below hC5
            replace hv4 := hv4.below hC5
            replace hT := hT.below hC5
            replace hl := hl.below hC5
            replace hk := hk.below hC5
            replace hp2 := hp2.below hC5
            replace c00 := hx0.cells.1
            replace c01 := hx0.cells.2.1
            replace l0 := hx0.cells.2.2.2.2
            replace c30 := hx3.cells.1
            replace c31 := hx3.cells.2.1
            replace l3 := hx3.cells.2.2.2.2
            have c40 := hx4.cells.1
            have c41 := hx4.cells.2.1
            have l4 := hx4.cells.2.2.2.2
            replace hBB := below2 hBB hC5
            have hp5 := ho5.txts
            clear ho5
            obtain ⟨ap5, cp5, rfl⟩ := hp5.strs.form
            go_wp2_with fail
            refine (texts_calls _ _ _ _ _ hp5.strs hl.strs (by omega)).mono ?_
            rintro e w6 ⟨he, hB6⟩
            rw [show decide (l = l) = true by simp] at he
            subst he
            have hC6 := hB6
            replace hx0 := hx0.below hC6
            replace ht0 := ht0.below hC6
            replace hv0 := hv0.below hC6
            replace hx3 := hx3.below hC6
            replace ht3 := ht3.below hC6
            replace hv3 := hv3.below hC6
            replace hx4 := hx4.below hC6
            replace ht4 := ht4.below hC6
            replace hv4 := hv4.below hC6
            replace hT := hT.below hC6
            replace hl := hl.below hC6
            replace hk := hk.below hC6
            replace hp2 := hp2.below hC6
            replace hp5 := hp5.below hC6
            replace c00 := hx0.cells.1
            replace c01 := hx0.cells.2.1
            replace l0 := hx0.cells.2.2.2.2
            replace c30 := hx3.cells.1
            replace c31 := hx3.cells.2.1
            replace l3 := hx3.cells.2.2.2.2
            replace c40 := hx4.cells.1
            replace c41 := hx4.cells.2.1
            replace l4 := hx4.cells.2.2.2.2
            replace hBB := below2 hBB hC6
            go_wp2_with fail
            refine (shelved_calls _ hT).mono ?_
            rintro e w7 ⟨he, hB7⟩
            subst he
            have hC7 := hB7
            replace hx0 := hx0.below hC7
            replace ht0 := ht0.below hC7
            replace hv0 := hv0.below hC7
            replace hx3 := hx3.below hC7
            replace ht3 := ht3.below hC7
            replace hv3 := hv3.below hC7
            replace hx4 := hx4.below hC7
            replace ht4 := ht4.below hC7
            replace hv4 := hv4.below hC7
            replace hT := hT.below hC7
            replace hl := hl.below hC7
            replace hk := hk.below hC7
            replace hp2 := hp2.below hC7
            replace hp5 := hp5.below hC7
            replace c00 := hx0.cells.1
            replace c01 := hx0.cells.2.1
            replace l0 := hx0.cells.2.2.2.2
            replace c30 := hx3.cells.1
            replace c31 := hx3.cells.2.1
            replace l3 := hx3.cells.2.2.2.2
            replace c40 := hx4.cells.1
            replace c41 := hx4.cells.2.1
            replace l4 := hx4.cells.2.2.2.2
            replace hBB := below2 hBB hC7
            go_wp2_with fail
            go_ret
            exact ⟨rfl, hBB⟩
          · have hnb : ((n0 : Int) - 1 == (n0 : Int)) = false := by rw [beq_eq_false_iff_ne]; omega
            rw [q6] at hPl
            have H := Lib.hid (And.intro q1 (And.intro q2 (And.intro q3 (And.intro q4 (And.intro q5 (And.intro q6 q7))))))
            clear q1 q2 q3 q4 q5 q6 q7
            go_enter Tryd.func4, Tryd.ntmps4
            go_wp2_with fail
            refine (sfar_calls _ _ _ _ _ l _ (ht0.below (below_alloc _ _)) (hv0.below (below_alloc _ _)) (hl.below (below_alloc _ _))).mono ?_
            rintro e w1 ⟨he, hB1⟩
            rw [HF.out] at he
            subst he
            have hC1 := below2 (below_alloc _ _) hB1
            have hx0 := (Bx.new w0 _ _).below hB1
            replace ht0 := ht0.below hC1
            replace hv0 := hv0.below hC1
            replace hT := hT.below hC1
            replace hl := hl.below hC1
            replace hk := hk.below hC1
            have c00 := hx0.cells.1
            have c01 := hx0.cells.2.1
            have l0 := hx0.cells.2.2.2.2
            replace hBB := below2 hBB hC1
            go_wp2_with fail
            refine (load_calls _ _ _ _ _ ht0 hv0 hT).mono ?_
            rintro e w2 ⟨vp2, he, ho2, hB2⟩
            rw [HN.out] at he
            rw [H.out.2.1] at he
            rw [HP.out] at ho2
            subst he
            have hC2 := hB2
            replace hx0 := hx0.below hC2
            replace ht0 := ht0.below hC2
            replace hv0 := hv0.below hC2
            replace hT := hT.below hC2
            replace hl := hl.below hC2
            replace hk := hk.below hC2
            replace c00 := hx0.cells.1
            replace c01 := hx0.cells.2.1
            replace l0 := hx0.cells.2.2.2.2
            replace hBB := below2 hBB hC2
            have hp2 := ho2.txts
            clear ho2
            obtain ⟨ap2, cp2, rfl⟩ := hp2.strs.form
            go_wp2_with fail
            refine (save_calls _ _ _ _ _ l k _ ht0 hv0 hl hT (by omega)).mono ?_
            rintro e w3 ⟨vb3, vw3, he, ho3, hB3⟩
            rw [H.out.1] at he
            subst he
            have hC3 := hB3
            replace hx0 := hx0.below hC3
            replace ht0 := ht0.below hC3
            replace hv0 := hv0.below hC3
            replace hT := hT.below hC3
            replace hl := hl.below hC3
            replace hk := hk.below hC3
            replace hp2 := hp2.below hC3
            replace c00 := hx0.cells.1
            replace c01 := hx0.cells.2.1
            replace l0 := hx0.cells.2.2.2.2
            replace hBB := below2 hBB hC3
            obtain ⟨ab3, nb3, cb3, aw3, nw3, cw3, rfl, rfl, hnb3, hnw3⟩ := ho3.forms
            have ht3 := ho3.texts
            have hv3 := ho3.wrs
            have N3 := Lib.hid (And.intro hnb3 hnw3)
            clear hnb3 hnw3
            rw [H.out.1] at ht3
            rw [H.out.1] at hv3
            go_wp2_with fail
            refine (crash_calls _ _ _ _ _ ks _ (ht3.below (below_alloc _ _)) (hv3.below (below_alloc _ _)) (hk.below (below_alloc _ _))).mono ?_
            rintro e w4 ⟨vb4, vw4, he, ho4, hB4⟩
            rw [H.out.2.2.1] at he
            subst he
            have hC4 := below2 (below_alloc _ _) hB4
            replace hx0 := hx0.below hC4
            replace ht0 := ht0.below hC4
            replace hv0 := hv0.below hC4
            have hx3 := (Bx.new w3 _ _).below hB4
            replace ht3 := ht3.below hC4
            replace hv3 := hv3.below hC4
            replace hT := hT.below hC4
            replace hl := hl.below hC4
            replace hk := hk.below hC4
            replace hp2 := hp2.below hC4
            replace c00 := hx0.cells.1
            replace c01 := hx0.cells.2.1
            replace l0 := hx0.cells.2.2.2.2
            have c30 := hx3.cells.1
            have c31 := hx3.cells.2.1
            have l3 := hx3.cells.2.2.2.2
            replace hBB := below2 hBB hC4
            obtain ⟨ab4, nb4, cb4, aw4, nw4, cw4, rfl, rfl, hnb4, hnw4⟩ := ho4.forms
            have ht4 := ho4.texts
            have hv4 := ho4.wrs
            have N4 := Lib.hid (And.intro hnb4 hnw4)
            clear hnb4 hnw4
            rw [H.out.2.2.2.1] at ht4
            go_wp2_with fail
            refine (load_calls _ _ _ _ _ (ht4.below (below_alloc _ _)) (hv4.below (below_alloc _ _)) (hT.below (below_alloc _ _))).mono ?_
            rintro e w5 ⟨vp5, he, ho5, hB5⟩
            rw [H.out.2.2.2.2.1] at he
            rw [H.out.2.2.2.2.2.2] at he
            rw [H.out.2.2.2.2.2.1] at ho5
            subst he
            have hC5 := below2 (below_alloc _ _) hB5
            replace hx0 := hx0.below hC5
            replace ht0 := ht0.below hC5
            replace hv0 := hv0.below hC5
            replace hx3 := hx3.below hC5
            replace ht3 := ht3.below hC5
            replace hv3 := hv3.below hC5
            have hx4 := (Bx.new w4 _ _).below hB5
            replace ht4 := ht4.below hC5
            replace hv4 := hv4.below hC5
            replace hT := hT.below hC5
            replace hl := hl.below hC5
            replace hk := hk.below hC5
            replace hp2 := hp2.below hC5
            replace c00 := hx0.cells.1
            replace c01 := hx0.cells.2.1
            replace l0 := hx0.cells.2.2.2.2
            replace c30 := hx3.cells.1
            replace c31 := hx3.cells.2.1
            replace l3 := hx3.cells.2.2.2.2
            have c40 := hx4.cells.1
            have c41 := hx4.cells.2.1
            have l4 := hx4.cells.2.2.2.2
            replace hBB := below2 hBB hC5
            have hp5 := ho5.txts
            clear ho5
            obtain ⟨ap5, cp5, rfl⟩ := hp5.strs.form
            go_wp2_with fail
            refine (shelved_calls _ hT).mono ?_
            rintro e w6 ⟨he, hB6⟩
            subst he
            have hC6 := hB6
            replace hx0 := hx0.below hC6
            replace ht0 := ht0.below hC6
            replace hv0 := hv0.below hC6
            replace hx3 := hx3.below hC6
            replace ht3 := ht3.below hC6
            replace hv3 := hv3.below hC6
            replace hx4 := hx4.below hC6
            replace ht4 := ht4.below hC6
            replace hv4 := hv4.below hC6
            replace hT := hT.below hC6
            replace hl := hl.below hC6
            replace hk := hk.below hC6
            replace hp2 := hp2.below hC6
            replace hp5 := hp5.below hC6
            replace c00 := hx0.cells.1
            replace c01 := hx0.cells.2.1
            replace l0 := hx0.cells.2.2.2.2
            replace c30 := hx3.cells.1
            replace c31 := hx3.cells.2.1
            replace l3 := hx3.cells.2.2.2.2
            replace c40 := hx4.cells.1
            replace c41 := hx4.cells.2.1
            replace l4 := hx4.cells.2.2.2.2
            replace hBB := below2 hBB hC6
            go_wp2_with fail
            refine (texts_calls _ _ _ _ _ hp5.strs hp2.strs (by omega)).mono ?_
            rintro e w7 ⟨he, hB7⟩
            rw [show decide (P0 = P0) = true by simp] at he
            subst he
            have hC7 := hB7
            replace hx0 := hx0.below hC7
            replace ht0 := ht0.below hC7
            replace hv0 := hv0.below hC7
            replace hx3 := hx3.below hC7
            replace ht3 := ht3.below hC7
            replace hv3 := hv3.below hC7
            replace hx4 := hx4.below hC7
            replace ht4 := ht4.below hC7
            replace hv4 := hv4.below hC7
            replace hT := hT.below hC7
            replace hl := hl.below hC7
            replace hk := hk.below hC7
            replace hp2 := hp2.below hC7
            replace hp5 := hp5.below hC7
            replace c00 := hx0.cells.1
            replace c01 := hx0.cells.2.1
            replace l0 := hx0.cells.2.2.2.2
            replace c30 := hx3.cells.1
            replace c31 := hx3.cells.2.1
            replace l3 := hx3.cells.2.2.2.2
            replace c40 := hx4.cells.1
            replace c41 := hx4.cells.2.1
            replace l4 := hx4.cells.2.2.2.2
            replace hBB := below2 hBB hC7
            go_wp2_with fail
            go_ret
            exact ⟨rfl, hBB⟩
        · obtain ⟨c, hc, q1⟩ := save_none2 hz
          obtain ⟨e0, he0⟩ : ∃ e, openE bs [] = e := ⟨_, rfl⟩
          have H := Lib.hid (And.intro q1 he0)
          have hcb : (c != 0) = true := by simpa using hc
          obtain ⟨n0, hn0⟩ : ∃ n, openN bs [] = n := ⟨_, rfl⟩
          have HN := Lib.hid hn0
          clear q1 he0 hz hc hn0 hnl
          by_cases he : e0 = 0
          · have heb : (e0 != 0) = false := by simp [he]
            clear he
            go_enter Tryd.func4, Tryd.ntmps4
            go_wp2_with fail
            refine (sfar_calls _ _ _ _ _ l _ (ht0.below (below_alloc _ _)) (hv0.below (below_alloc _ _)) (hl.below (below_alloc _ _))).mono ?_
            rintro e w1 ⟨he, hB1⟩
            rw [HF.out] at he
            subst he
            have hC1 := below2 (below_alloc _ _) hB1
            have hx0 := (Bx.new w0 _ _).below hB1
            replace ht0 := ht0.below hC1
            replace hv0 := hv0.below hC1
            replace hT := hT.below hC1
            replace hl := hl.below hC1
            replace hk := hk.below hC1
            have c00 := hx0.cells.1
            have c01 := hx0.cells.2.1
            have l0 := hx0.cells.2.2.2.2
            replace hBB := below2 hBB hC1
            go_wp2_with fail
            refine (load_calls _ _ _ _ _ ht0 hv0 hT).mono ?_
            rintro e w2 ⟨vp2, he, ho2, hB2⟩
            rw [HN.out] at he
            rw [H.out.2] at he
            subst he
            have hC2 := hB2
            replace hx0 := hx0.below hC2
            replace ht0 := ht0.below hC2
            replace hv0 := hv0.below hC2
            replace hT := hT.below hC2
            replace hl := hl.below hC2
            replace hk := hk.below hC2
            replace c00 := hx0.cells.1
            replace c01 := hx0.cells.2.1
            replace l0 := hx0.cells.2.2.2.2
            replace hBB := below2 hBB hC2
            have hp2 := ho2.txts
            clear ho2
            obtain ⟨ap2, cp2, rfl⟩ := hp2.strs.form
            go_wp2_with fail
            refine (save_calls _ _ _ _ _ l k _ ht0 hv0 hl hT (by omega)).mono ?_
            rintro e w3 ⟨vb3, vw3, he, ho3, hB3⟩
            rw [H.out.1] at he
            subst he
            have hC3 := hB3
            replace hx0 := hx0.below hC3
            replace ht0 := ht0.below hC3
            replace hv0 := hv0.below hC3
            replace hT := hT.below hC3
            replace hl := hl.below hC3
            replace hk := hk.below hC3
            replace hp2 := hp2.below hC3
            replace c00 := hx0.cells.1
            replace c01 := hx0.cells.2.1
            replace l0 := hx0.cells.2.2.2.2
            replace hBB := below2 hBB hC3
            obtain ⟨ab3, nb3, cb3, aw3, nw3, cw3, rfl, rfl, hnb3, hnw3⟩ := ho3.forms
            have ht3 := ho3.texts
            have hv3 := ho3.wrs
            have N3 := Lib.hid (And.intro hnb3 hnw3)
            clear hnb3 hnw3
            rw [H.out.1] at ht3
            rw [H.out.1] at hv3
            go_wp2_with fail
            refine (shelved_calls _ (hT.below (below_alloc _ _))).mono ?_
            rintro e w4 ⟨he, hB4⟩
            subst he
            have hC4 := below2 (below_alloc _ _) hB4
            replace hx0 := hx0.below hC4
            replace ht0 := ht0.below hC4
            replace hv0 := hv0.below hC4
            have hx3 := (Bx.new w3 _ _).below hB4
            replace ht3 := ht3.below hC4
            replace hv3 := hv3.below hC4
            replace hT := hT.below hC4
            replace hl := hl.below hC4
            replace hk := hk.below hC4
            replace hp2 := hp2.below hC4
            replace c00 := hx0.cells.1
            replace c01 := hx0.cells.2.1
            replace l0 := hx0.cells.2.2.2.2
            have c30 := hx3.cells.1
            have c31 := hx3.cells.2.1
            have l3 := hx3.cells.2.2.2.2
            replace hBB := below2 hBB hC4
            go_wp2_with fail
            go_ret
            exact ⟨rfl, hBB⟩
          · have heb : (e0 != 0) = true := by simpa using he
            clear he
            go_enter Tryd.func4, Tryd.ntmps4
            go_wp2_with fail
            refine (sfar_calls _ _ _ _ _ l _ (ht0.below (below_alloc _ _)) (hv0.below (below_alloc _ _)) (hl.below (below_alloc _ _))).mono ?_
            rintro e w1 ⟨he, hB1⟩
            rw [HF.out] at he
            subst he
            have hC1 := below2 (below_alloc _ _) hB1
            have hx0 := (Bx.new w0 _ _).below hB1
            replace ht0 := ht0.below hC1
            replace hv0 := hv0.below hC1
            replace hT := hT.below hC1
            replace hl := hl.below hC1
            replace hk := hk.below hC1
            have c00 := hx0.cells.1
            have c01 := hx0.cells.2.1
            have l0 := hx0.cells.2.2.2.2
            replace hBB := below2 hBB hC1
            go_wp2_with fail
            refine (load_calls _ _ _ _ _ ht0 hv0 hT).mono ?_
            rintro e w2 ⟨vp2, he, ho2, hB2⟩
            rw [HN.out] at he
            rw [H.out.2] at he
            subst he
            have hC2 := hB2
            replace hx0 := hx0.below hC2
            replace ht0 := ht0.below hC2
            replace hv0 := hv0.below hC2
            replace hT := hT.below hC2
            replace hl := hl.below hC2
            replace hk := hk.below hC2
            replace c00 := hx0.cells.1
            replace c01 := hx0.cells.2.1
            replace l0 := hx0.cells.2.2.2.2
            replace hBB := below2 hBB hC2
            have hp2 := ho2.txts
            clear ho2
            obtain ⟨ap2, cp2, rfl⟩ := hp2.strs.form
            go_wp2_with fail
            refine (save_calls _ _ _ _ _ l k _ ht0 hv0 hl hT (by omega)).mono ?_
            rintro e w3 ⟨vb3, vw3, he, ho3, hB3⟩
            rw [H.out.1] at he
            subst he
            have hC3 := hB3
            replace hx0 := hx0.below hC3
            replace ht0 := ht0.below hC3
            replace hv0 := hv0.below hC3
            replace hT := hT.below hC3
            replace hl := hl.below hC3
            replace hk := hk.below hC3
            replace hp2 := hp2.below hC3
            replace c00 := hx0.cells.1
            replace c01 := hx0.cells.2.1
            replace l0 := hx0.cells.2.2.2.2
            replace hBB := below2 hBB hC3
            obtain ⟨ab3, nb3, cb3, aw3, nw3, cw3, rfl, rfl, hnb3, hnw3⟩ := ho3.forms
            have ht3 := ho3.texts
            have hv3 := ho3.wrs
            have N3 := Lib.hid (And.intro hnb3 hnw3)
            clear hnb3 hnw3
            rw [H.out.1] at ht3
            rw [H.out.1] at hv3
            go_wp2_with fail
            refine (shelved_calls _ (hT.below (below_alloc _ _))).mono ?_
            rintro e w4 ⟨he, hB4⟩
            subst he
            have hC4 := below2 (below_alloc _ _) hB4
            replace hx0 := hx0.below hC4
            replace ht0 := ht0.below hC4
            replace hv0 := hv0.below hC4
            have hx3 := (Bx.new w3 _ _).below hB4
            replace ht3 := ht3.below hC4
            replace hv3 := hv3.below hC4
            replace hT := hT.below hC4
            replace hl := hl.below hC4
            replace hk := hk.below hC4
            replace hp2 := hp2.below hC4
            replace c00 := hx0.cells.1
            replace c01 := hx0.cells.2.1
            replace l0 := hx0.cells.2.2.2.2
            have c30 := hx3.cells.1
            have c31 := hx3.cells.2.1
            have l3 := hx3.cells.2.2.2.2
            replace hBB := below2 hBB hC4
            go_wp2_with fail
            go_ret
            exact ⟨rfl, hBB⟩

end Go.Proofs.YtdbidfbjfongbaaDoor
