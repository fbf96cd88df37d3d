/-
  The walk of WalCrash.
-/
import Derived.Test.YtcipdmdliobdmaaDoorPks07
namespace Go.Proofs.YtcipdmdliobdmaaDoor
open Go.RowKit

/-- Behind All on a new disk, and a crash. -/
theorem crash_all {n : Nat} {i e : Int} {l : List (List UInt8)} {k : Int} (h : allE (List.replicate n []) [] i e l k = 0) (ks : List Bool) :
    ∃ X V D c m, allBs (List.replicate n []) [] i e l k = X ∧ allWs (List.replicate n []) [] i e l k = V ∧ allD (List.replicate n []) [] i e l k = D ∧ syncE X V = 0 ∧ crashBs X V ks = c ∧ waE c [] i e = 0 ∧ openL c [] i e = m ∧ m <+: l ∧ (D = true → m = l) := by
  obtain ⟨g, h1, h2, h3⟩ := all_new h
  cases hf : fullB l k with
  | true =>
    rw [hf] at h1 h2 h3
    simp only [if_true] at h1 h2
    have ht : takeA l k = l := by simp [takeA, hf]
    rw [ht] at g h1
    have hr := right_lay g.ws (xs := recsW i e.toNat 0 l) (fun x hx => hx)
    obtain ⟨s1, s2⟩ := synced_wal g
    refine ⟨_, _, _, _, _, h1, h2, h3, by simp [syncE, hr], by rw [crashBs, if_pos hr, keptL_none, lay_nil], s2, by rw [openL, if_pos s2, s1], List.prefix_rfl, fun _ => rfl⟩
  | false =>
    rw [hf] at h1 h2 h3
    simp only [Bool.false_eq_true, if_false] at h1 h2
    have ht : takeA l k <+: l := by simp only [takeA, hf, Bool.false_eq_true, if_false]; exact List.take_prefix _ _
    obtain ⟨s1, s2⟩ := crash_wal g ks
    exact ⟨_, _, _, _, _, h1, h2, h3, by simp [syncE, g.ws], by rw [crashBs, if_pos g.ws], s2, by rw [openL, if_pos s2], s1.trans ht, fun q => by cases q⟩

set_option maxRecDepth 100000 in
set_option maxHeartbeats 16000000 in
theorem walCrash_walk (n i e : Int) (vl : Value) (l : List (List UInt8)) (k : Int) (vk : Value) (ks : List Bool) (w0 : World) (hl : Txts w0 vl l) (hlm : l.length ≤ maxLen) (hk : Bools w0 vk ks) (hT : TabOk w0) :
    Calls Tryd.prog 4 #[.int .i64 n, .int .i64 i, .int .i64 e, vl, .int .i64 k, vk] w0 fun e w' => e = .returned (.bool true) ∧ Below w0.heap.size w0 w' := by
  obtain ⟨al, cl, rfl⟩ := hl.strs.form
  obtain ⟨ak, ck, rfl⟩ := hk.form
  have hBB := Below.refl w0.heap.size w0
  by_cases hn : 1 ≤ n ∧ n ≤ 200
  · obtain ⟨N, rfl⟩ : ∃ N : Nat, n = (N : Int) := ⟨n.toNat, by omega⟩
    have HN := Lib.hid (show newE (N : Int) = 0 ∧ newB (N : Int) = List.replicate N [] by simp only [newE, newB, if_pos hn]; exact ⟨trivial, rfl⟩)
    have hN200 : N ≤ 200 := by omega
    clear hn
    by_cases h20 : 20 < N
    · have d1 : decide ((20 : Int) < (N : Int)) = true := by simp; omega
      go_enter Tryd.func4, Tryd.ntmps4
      go_wp2_with fail
      refine (new_calls _ _).mono ?_
      rintro e w1 ⟨vb1, vw1, he, ho1, hB1⟩
      rw [HN.out.1] at he
      subst he
      have hC1 := hB1
      replace hT := hT.below hC1
      replace hl := hl.below hC1
      replace hk := hk.below hC1
      replace hBB := below2 hBB hC1
      obtain ⟨ab1, nb1, cb1, aw1, nw1, cw1, rfl, rfl, hnb1, hnw1⟩ := ho1.forms
      have ht1 := ho1.texts
      have hv1 := ho1.wrs
      have N1 := Lib.hid (And.intro hnb1 hnw1)
      clear hnb1 hnw1
      rw [HN.out.2] at ht1
      go_wp2_with fail
      refine (logged_calls _ (hT.below (below_alloc _ _))).mono ?_
      rintro e w2 ⟨he, hB2⟩
      subst he
      have hC2 := below2 (below_alloc _ _) hB2
      have hx1 := (Bx.new w1 _ _).below hB2
      replace ht1 := ht1.below hC2
      replace hv1 := hv1.below hC2
      replace hT := hT.below hC2
      replace hl := hl.below hC2
      replace hk := hk.below hC2
      have c10 := hx1.cells.1
      have c11 := hx1.cells.2.1
      have l1 := hx1.cells.2.2.2.2
      replace hBB := below2 hBB hC2
      go_wp2_with fail
      go_ret
      exact ⟨rfl, hBB⟩
    · have d1 : decide ((20 : Int) < (N : Int)) = false := by simp; omega
      clear h20
      cases hF : wfarB (List.replicate N []) [] l with
      | true =>
        have HF := Lib.hid hF
        clear hF
        go_enter Tryd.func4, Tryd.ntmps4
        go_wp2_with fail
        refine (new_calls _ _).mono ?_
        rintro e w1 ⟨vb1, vw1, he, ho1, hB1⟩
        rw [HN.out.1] at he
        subst he
        have hC1 := hB1
        replace hT := hT.below hC1
        replace hl := hl.below hC1
        replace hk := hk.below hC1
        replace hBB := below2 hBB hC1
        obtain ⟨ab1, nb1, cb1, aw1, nw1, cw1, rfl, rfl, hnb1, hnw1⟩ := ho1.forms
        have ht1 := ho1.texts
        have hv1 := ho1.wrs
        have N1 := Lib.hid (And.intro hnb1 hnw1)
        clear hnb1 hnw1
        rw [HN.out.2] at ht1
        go_wp2_with fail
        refine (wfar_calls _ _ _ _ _ l _ (ht1.below (below_alloc _ _)) (hv1.below (below_alloc _ _)) (hl.below (below_alloc _ _)) hlm).mono ?_
        rintro e w2 ⟨he, hB2⟩
        rw [HF.out] at he
        subst he
        have hC2 := below2 (below_alloc _ _) hB2
        have hx1 := (Bx.new w1 _ _).below hB2
        replace ht1 := ht1.below hC2
        replace hv1 := hv1.below hC2
        replace hT := hT.below hC2
        replace hl := hl.below hC2
        replace hk := hk.below hC2
        have c10 := hx1.cells.1
        have c11 := hx1.cells.2.1
        have l1 := hx1.cells.2.2.2.2
        replace hBB := below2 hBB hC2
        go_wp2_with fail
        refine (logged_calls _ hT).mono ?_
        rintro e w3 ⟨he, hB3⟩
        subst he
        have hC3 := hB3
        replace hx1 := hx1.below hC3
        replace ht1 := ht1.below hC3
        replace hv1 := hv1.below hC3
        replace hT := hT.below hC3
        replace hl := hl.below hC3
        replace hk := hk.below hC3
        replace c10 := hx1.cells.1
        replace c11 := hx1.cells.2.1
        replace l1 := hx1.cells.2.2.2.2
        replace hBB := below2 hBB hC3
        go_wp2_with fail
        go_ret
        exact ⟨rfl, hBB⟩
      | false =>
        have hl30 := (wfar_not hF).1
        have HF := Lib.hid hF
        clear hF
        by_cases h100 : 100 < ks.length
        · have d2 : decide ((100 : Int) < (ks.length : Int)) = true := by simp; omega
          go_enter Tryd.func4, Tryd.ntmps4
          go_wp2_with fail
          refine (new_calls _ _).mono ?_
          rintro e w1 ⟨vb1, vw1, he, ho1, hB1⟩
          rw [HN.out.1] at he
          subst he
          have hC1 := hB1
          replace hT := hT.below hC1
          replace hl := hl.below hC1
          replace hk := hk.below hC1
          replace hBB := below2 hBB hC1
          obtain ⟨ab1, nb1, cb1, aw1, nw1, cw1, rfl, rfl, hnb1, hnw1⟩ := ho1.forms
          have ht1 := ho1.texts
          have hv1 := ho1.wrs
          have N1 := Lib.hid (And.intro hnb1 hnw1)
          clear hnb1 hnw1
          rw [HN.out.2] at ht1
          go_wp2_with fail
          refine (wfar_calls _ _ _ _ _ l _ (ht1.below (below_alloc _ _)) (hv1.below (below_alloc _ _)) (hl.below (below_alloc _ _)) hlm).mono ?_
          rintro e w2 ⟨he, hB2⟩
          rw [HF.out] at he
          subst he
          have hC2 := below2 (below_alloc _ _) hB2
          have hx1 := (Bx.new w1 _ _).below hB2
          replace ht1 := ht1.below hC2
          replace hv1 := hv1.below hC2
          replace hT := hT.below hC2
          replace hl := hl.below hC2
          replace hk := hk.below hC2
          have c10 := hx1.cells.1
          have c11 := hx1.cells.2.1
          have l1 := hx1.cells.2.2.2.2
          replace hBB := below2 hBB hC2
          go_wp2_with fail
          refine (logged_calls _ hT).mono ?_
          rintro e w3 ⟨he, hB3⟩
          subst he
          have hC3 := hB3
          replace hx1 := hx1.below hC3
          replace ht1 := ht1.below hC3
          replace hv1 := hv1.below hC3
          replace hT := hT.below hC3
          replace hl := hl.below hC3
          replace hk := hk.below hC3
          replace c10 := hx1.cells.1
          replace c11 := hx1.cells.2.1
          replace l1 := hx1.cells.2.2.2.2
          replace hBB := below2 hBB hC3
          go_wp2_with fail
          go_ret
          exact ⟨rfl, hBB⟩
        · have d2 : decide ((100 : Int) < (ks.length : Int)) = false := by simp; omega
          by_cases hz : allE (List.replicate N []) [] i e l k = 0
          · obtain ⟨X, V, D, c, m, q1, q2, q3, q4, q5, q6, q7, q8, q9⟩ := crash_all hz ks
            have H := Lib.hid (And.intro hz (And.intro q1 (And.intro q2 (And.intro q3 (And.intro q4 (And.intro q5 (And.intro q6 (And.intro q7 q8))))))))
            have hm30 : m.length ≤ 30 := by have := q8.length_le; omega
            clear hz q1 q2 q3 q4 q5 q6 q7 q8
            cases D with
            | true =>
              obtain rfl : l = m := (q9 rfl).symm
              clear q9
              go_enter Tryd.func4, Tryd.ntmps4
              go_wp2_with fail
              refine (new_calls _ _).mono ?_
              rintro e w1 ⟨vb1, vw1, he, ho1, hB1⟩
              rw [HN.out.1] at he
              subst he
              have hC1 := hB1
              replace hT := hT.below hC1
              replace hl := hl.below hC1
              replace hk := hk.below hC1
              replace hBB := below2 hBB hC1
              obtain ⟨ab1, nb1, cb1, aw1, nw1, cw1, rfl, rfl, hnb1, hnw1⟩ := ho1.forms
              have ht1 := ho1.texts
              have hv1 := ho1.wrs
              have N1 := Lib.hid (And.intro hnb1 hnw1)
              clear hnb1 hnw1
              rw [HN.out.2] at ht1
              go_wp2_with fail
              refine (wfar_calls _ _ _ _ _ l _ (ht1.below (below_alloc _ _)) (hv1.below (below_alloc _ _)) (hl.below (below_alloc _ _)) hlm).mono ?_
              rintro e w2 ⟨he, hB2⟩
              rw [HF.out] at he
              subst he
              have hC2 := below2 (below_alloc _ _) hB2
              have hx1 := (Bx.new w1 _ _).below hB2
              replace ht1 := ht1.below hC2
              replace hv1 := hv1.below hC2
              replace hT := hT.below hC2
              replace hl := hl.below hC2
              replace hk := hk.below hC2
              have c10 := hx1.cells.1
              have c11 := hx1.cells.2.1
              have l1 := hx1.cells.2.2.2.2
              replace hBB := below2 hBB hC2
              go_wp2_with fail
              refine (walAll_calls _ _ _ _ _ _ _ l k _ ht1 hv1 hl (by omega) hT).mono ?_
              rintro e w3 ⟨vb3, vw3, he, ho3, hB3⟩
              rw [H.out.1] at he
              rw [H.out.2.2.2.1] at he
              subst he
              have hC3 := hB3
              replace hx1 := hx1.below hC3
              replace ht1 := ht1.below hC3
              replace hv1 := hv1.below hC3
              replace hT := hT.below hC3
              replace hl := hl.below hC3
              replace hk := hk.below hC3
              replace c10 := hx1.cells.1
              replace c11 := hx1.cells.2.1
              replace l1 := hx1.cells.2.2.2.2
              replace hBB := below2 hBB hC3
              obtain ⟨ab3, nb3, cb3, aw3, nw3, cw3, rfl, rfl, hnb3, hnw3⟩ := ho3.forms
              have ht3 := ho3.texts
              have hv3 := ho3.wrs
              have N3 := Lib.hid (And.intro hnb3 hnw3)
              clear hnb3 hnw3
              rw [H.out.2.1] at ht3
              rw [H.out.2.2.1] at hv3
              go_wp2_with fail
              refine (crash_calls _ _ _ _ _ ks _ (ht3.below (below_alloc _ _)) (hv3.below (below_alloc _ _)) (hk.below (below_alloc _ _))).mono ?_
              rintro e w4 ⟨vb4, vw4, he, ho4, hB4⟩
              rw [H.out.2.2.2.2.1] at he
              subst he
              have hC4 := below2 (below_alloc _ _) hB4
              replace hx1 := hx1.below hC4
              replace ht1 := ht1.below hC4
              replace hv1 := hv1.below hC4
              have hx3 := (Bx.new w3 _ _).below hB4
              replace ht3 := ht3.below hC4
              replace hv3 := hv3.below hC4
              replace hT := hT.below hC4
              replace hl := hl.below hC4
              replace hk := hk.below hC4
              replace c10 := hx1.cells.1
              replace c11 := hx1.cells.2.1
              replace l1 := hx1.cells.2.2.2.2
              have c30 := hx3.cells.1
              have c31 := hx3.cells.2.1
              have l3 := hx3.cells.2.2.2.2
              replace hBB := below2 hBB hC4
              obtain ⟨ab4, nb4, cb4, aw4, nw4, cw4, rfl, rfl, hnb4, hnw4⟩ := ho4.forms
              have ht4 := ho4.texts
              have hv4 := ho4.wrs
              have N4 := Lib.hid (And.intro hnb4 hnw4)
              clear hnb4 hnw4
              rw [H.out.2.2.2.2.2.1] at ht4
              go_wp2_with fail
              refine (waopen_calls _ _ _ _ _ _ _ (ht4.below (below_alloc _ _)) (hv4.below (below_alloc _ _)) (hT.below (below_alloc _ _))).mono ?_
              rintro e w5 ⟨vp5, he, ho5, hB5⟩
              rw [H.out.2.2.2.2.2.2.1] at he
              rw [H.out.2.2.2.2.2.2.2.1] at ho5
              subst he
              have hC5 := below2 (below_alloc _ _) hB5
              replace hx1 := hx1.below hC5
              replace ht1 := ht1.below hC5
              replace hv1 := hv1.below hC5
              replace hx3 := hx3.below hC5
              replace ht3 := ht3.below hC5
              replace hv3 := hv3.below hC5
              have hx4 := (Bx.new w4 _ _).below hB5
              replace ht4 := ht4.below hC5
              replace hv4 := hv4.below hC5
              replace hT := hT.below hC5
              replace hl := hl.below hC5
              replace hk := hk.below hC5
              replace c10 := hx1.cells.1
              replace c11 := hx1.cells.2.1
              replace l1 := hx1.cells.2.2.2.2
              replace c30 := hx3.cells.1
              replace c31 := hx3.cells.2.1
              replace l3 := hx3.cells.2.2.2.2
              have c40 := hx4.cells.1
              have c41 := hx4.cells.2.1
              have l4 := hx4.cells.2.2.2.2
              replace hBB := below2 hBB hC5
              have hp5 := Txts.own ho5
              clear ho5
              obtain ⟨ap5, cp5, rfl⟩ := hp5.strs.form
              go_wp2_with fail
              refine (logged_calls _ hT).mono ?_
              rintro e w6 ⟨he, hB6⟩
              subst he
              have hC6 := hB6
              replace hx1 := hx1.below hC6
              replace ht1 := ht1.below hC6
              replace hv1 := hv1.below hC6
              replace hx3 := hx3.below hC6
              replace ht3 := ht3.below hC6
              replace hv3 := hv3.below hC6
              replace hx4 := hx4.below hC6
              replace ht4 := ht4.below hC6
              replace hv4 := hv4.below hC6
              replace hT := hT.below hC6
              replace hl := hl.below hC6
              replace hk := hk.below hC6
              replace hp5 := hp5.below hC6
              replace c10 := hx1.cells.1
              replace c11 := hx1.cells.2.1
              replace l1 := hx1.cells.2.2.2.2
              replace c30 := hx3.cells.1
              replace c31 := hx3.cells.2.1
              replace l3 := hx3.cells.2.2.2.2
              replace c40 := hx4.cells.1
              replace c41 := hx4.cells.2.1
              replace l4 := hx4.cells.2.2.2.2
              replace hBB := below2 hBB hC6
              go_wp2_with fail
              refine (front_calls _ _ _ _ _ hp5 hl H.out.2.2.2.2.2.2.2.2 (by omega)).mono ?_
              rintro e w7 ⟨he, hB7⟩
              subst he
              have hC7 := hB7
              replace hx1 := hx1.below hC7
              replace ht1 := ht1.below hC7
              replace hv1 := hv1.below hC7
              replace hx3 := hx3.below hC7
              replace ht3 := ht3.below hC7
              replace hv3 := hv3.below hC7
              replace hx4 := hx4.below hC7
              replace ht4 := ht4.below hC7
              replace hv4 := hv4.below hC7
              replace hT := hT.below hC7
              replace hl := hl.below hC7
              replace hk := hk.below hC7
              replace hp5 := hp5.below hC7
              replace c10 := hx1.cells.1
              replace c11 := hx1.cells.2.1
              replace l1 := hx1.cells.2.2.2.2
              replace c30 := hx3.cells.1
              replace c31 := hx3.cells.2.1
              replace l3 := hx3.cells.2.2.2.2
              replace c40 := hx4.cells.1
              replace c41 := hx4.cells.2.1
              replace l4 := hx4.cells.2.2.2.2
              replace hBB := below2 hBB hC7
              go_wp2_with fail
              go_ret
              exact ⟨rfl, hBB⟩
            | false =>
              clear q9
              go_enter Tryd.func4, Tryd.ntmps4
              go_wp2_with fail
              refine (new_calls _ _).mono ?_
              rintro e w1 ⟨vb1, vw1, he, ho1, hB1⟩
              rw [HN.out.1] at he
              subst he
              have hC1 := hB1
              replace hT := hT.below hC1
              replace hl := hl.below hC1
              replace hk := hk.below hC1
              replace hBB := below2 hBB hC1
              obtain ⟨ab1, nb1, cb1, aw1, nw1, cw1, rfl, rfl, hnb1, hnw1⟩ := ho1.forms
              have ht1 := ho1.texts
              have hv1 := ho1.wrs
              have N1 := Lib.hid (And.intro hnb1 hnw1)
              clear hnb1 hnw1
              rw [HN.out.2] at ht1
              go_wp2_with fail
              refine (wfar_calls _ _ _ _ _ l _ (ht1.below (below_alloc _ _)) (hv1.below (below_alloc _ _)) (hl.below (below_alloc _ _)) hlm).mono ?_
              rintro e w2 ⟨he, hB2⟩
              rw [HF.out] at he
              subst he
              have hC2 := below2 (below_alloc _ _) hB2
              have hx1 := (Bx.new w1 _ _).below hB2
              replace ht1 := ht1.below hC2
              replace hv1 := hv1.below hC2
              replace hT := hT.below hC2
              replace hl := hl.below hC2
              replace hk := hk.below hC2
              have c10 := hx1.cells.1
              have c11 := hx1.cells.2.1
              have l1 := hx1.cells.2.2.2.2
              replace hBB := below2 hBB hC2
              go_wp2_with fail
              refine (walAll_calls _ _ _ _ _ _ _ l k _ ht1 hv1 hl (by omega) hT).mono ?_
              rintro e w3 ⟨vb3, vw3, he, ho3, hB3⟩
              rw [H.out.1] at he
              rw [H.out.2.2.2.1] at he
              subst he
              have hC3 := hB3
              replace hx1 := hx1.below hC3
              replace ht1 := ht1.below hC3
              replace hv1 := hv1.below hC3
              replace hT := hT.below hC3
              replace hl := hl.below hC3
              replace hk := hk.below hC3
              replace c10 := hx1.cells.1
              replace c11 := hx1.cells.2.1
              replace l1 := hx1.cells.2.2.2.2
              replace hBB := below2 hBB hC3
              obtain ⟨ab3, nb3, cb3, aw3, nw3, cw3, rfl, rfl, hnb3, hnw3⟩ := ho3.forms
              have ht3 := ho3.texts
              have hv3 := ho3.wrs
              have N3 := Lib.hid (And.intro hnb3 hnw3)
              clear hnb3 hnw3
              rw [H.out.2.1] at ht3
              rw [H.out.2.2.1] at hv3
              go_wp2_with fail
              refine (crash_calls _ _ _ _ _ ks _ (ht3.below (below_alloc _ _)) (hv3.below (below_alloc _ _)) (hk.below (below_alloc _ _))).mono ?_
              rintro e w4 ⟨vb4, vw4, he, ho4, hB4⟩
              rw [H.out.2.2.2.2.1] at he
              subst he
              have hC4 := below2 (below_alloc _ _) hB4
              replace hx1 := hx1.below hC4
              replace ht1 := ht1.below hC4
              replace hv1 := hv1.below hC4
              have hx3 := (Bx.new w3 _ _).below hB4
              replace ht3 := ht3.below hC4
              replace hv3 := hv3.below hC4
              replace hT := hT.below hC4
              replace hl := hl.below hC4
              replace hk := hk.below hC4
              replace c10 := hx1.cells.1
              replace c11 := hx1.cells.2.1
              replace l1 := hx1.cells.2.2.2.2
              have c30 := hx3.cells.1
              have c31 := hx3.cells.2.1
              have l3 := hx3.cells.2.2.2.2
              replace hBB := below2 hBB hC4
              obtain ⟨ab4, nb4, cb4, aw4, nw4, cw4, rfl, rfl, hnb4, hnw4⟩ := ho4.forms
              have ht4 := ho4.texts
              have hv4 := ho4.wrs
              have N4 := Lib.hid (And.intro hnb4 hnw4)
              clear hnb4 hnw4
              rw [H.out.2.2.2.2.2.1] at ht4
              go_wp2_with fail
              refine (waopen_calls _ _ _ _ _ _ _ (ht4.below (below_alloc _ _)) (hv4.below (below_alloc _ _)) (hT.below (below_alloc _ _))).mono ?_
              rintro e w5 ⟨vp5, he, ho5, hB5⟩
              rw [H.out.2.2.2.2.2.2.1] at he
              rw [H.out.2.2.2.2.2.2.2.1] at ho5
              subst he
              have hC5 := below2 (below_alloc _ _) hB5
              replace hx1 := hx1.below hC5
              replace ht1 := ht1.below hC5
              replace hv1 := hv1.below hC5
              replace hx3 := hx3.below hC5
              replace ht3 := ht3.below hC5
              replace hv3 := hv3.below hC5
              have hx4 := (Bx.new w4 _ _).below hB5
              replace ht4 := ht4.below hC5
              replace hv4 := hv4.below hC5
              replace hT := hT.below hC5
              replace hl := hl.below hC5
              replace hk := hk.below hC5
              replace c10 := hx1.cells.1
              replace c11 := hx1.cells.2.1
              replace l1 := hx1.cells.2.2.2.2
              replace c30 := hx3.cells.1
              replace c31 := hx3.cells.2.1
              replace l3 := hx3.cells.2.2.2.2
              have c40 := hx4.cells.1
              have c41 := hx4.cells.2.1
              have l4 := hx4.cells.2.2.2.2
              replace hBB := below2 hBB hC5
              have hp5 := Txts.own ho5
              clear ho5
              obtain ⟨ap5, cp5, rfl⟩ := hp5.strs.form
              go_wp2_with fail
              refine (logged_calls _ hT).mono ?_
              rintro e w6 ⟨he, hB6⟩
              subst he
              have hC6 := hB6
              replace hx1 := hx1.below hC6
              replace ht1 := ht1.below hC6
              replace hv1 := hv1.below hC6
              replace hx3 := hx3.below hC6
              replace ht3 := ht3.below hC6
              replace hv3 := hv3.below hC6
              replace hx4 := hx4.below hC6
              replace ht4 := ht4.below hC6
              replace hv4 := hv4.below hC6
              replace hT := hT.below hC6
              replace hl := hl.below hC6
              replace hk := hk.below hC6
              replace hp5 := hp5.below hC6
              replace c10 := hx1.cells.1
              replace c11 := hx1.cells.2.1
              replace l1 := hx1.cells.2.2.2.2
              replace c30 := hx3.cells.1
              replace c31 := hx3.cells.2.1
              replace l3 := hx3.cells.2.2.2.2
              replace c40 := hx4.cells.1
              replace c41 := hx4.cells.2.1
              replace l4 := hx4.cells.2.2.2.2
              replace hBB := below2 hBB hC6
              go_wp2_with fail
              refine (front_calls _ _ _ _ _ hp5 hl H.out.2.2.2.2.2.2.2.2 (by omega)).mono ?_
              rintro e w7 ⟨he, hB7⟩
              subst he
              have hC7 := hB7
              replace hx1 := hx1.below hC7
              replace ht1 := ht1.below hC7
              replace hv1 := hv1.below hC7
              replace hx3 := hx3.below hC7
              replace ht3 := ht3.below hC7
              replace hv3 := hv3.below hC7
              replace hx4 := hx4.below hC7
              replace ht4 := ht4.below hC7
              replace hv4 := hv4.below hC7
              replace hT := hT.below hC7
              replace hl := hl.below hC7
              replace hk := hk.below hC7
              replace hp5 := hp5.below hC7
              replace c10 := hx1.cells.1
              replace c11 := hx1.cells.2.1
              replace l1 := hx1.cells.2.2.2.2
              replace c30 := hx3.cells.1
              replace c31 := hx3.cells.2.1
              replace l3 := hx3.cells.2.2.2.2
              replace c40 := hx4.cells.1
              replace c41 := hx4.cells.2.1
              replace l4 := hx4.cells.2.2.2.2
              replace hBB := below2 hBB hC7
              go_wp2_with fail
              go_ret
              exact ⟨rfl, hBB⟩
          · have HQ := Lib.hid (show allBs (List.replicate N []) [] i e l k = [] ∧ allWs (List.replicate N []) [] i e l k = [] ∧ allD (List.replicate N []) [] i e l k = false by simp [allBs, allWs, allD, hz])
            obtain ⟨cE, hcE⟩ : ∃ c, allE (List.replicate N []) [] i e l k = c := ⟨_, rfl⟩
            rw [hcE] at hz
            have HE := Lib.hid hcE
            have dE : (cE != 0) = true := by simpa using hz
            clear hcE hz
            go_enter Tryd.func4, Tryd.ntmps4
            go_wp2_with fail
            refine (new_calls _ _).mono ?_
            rintro e w1 ⟨vb1, vw1, he, ho1, hB1⟩
            rw [HN.out.1] at he
            subst he
            have hC1 := hB1
            replace hT := hT.below hC1
            replace hl := hl.below hC1
            replace hk := hk.below hC1
            replace hBB := below2 hBB hC1
            obtain ⟨ab1, nb1, cb1, aw1, nw1, cw1, rfl, rfl, hnb1, hnw1⟩ := ho1.forms
            have ht1 := ho1.texts
            have hv1 := ho1.wrs
            have N1 := Lib.hid (And.intro hnb1 hnw1)
            clear hnb1 hnw1
            rw [HN.out.2] at ht1
            go_wp2_with fail
            refine (wfar_calls _ _ _ _ _ l _ (ht1.below (below_alloc _ _)) (hv1.below (below_alloc _ _)) (hl.below (below_alloc _ _)) hlm).mono ?_
            rintro e w2 ⟨he, hB2⟩
            rw [HF.out] at he
            subst he
            have hC2 := below2 (below_alloc _ _) hB2
            have hx1 := (Bx.new w1 _ _).below hB2
            replace ht1 := ht1.below hC2
            replace hv1 := hv1.below hC2
            replace hT := hT.below hC2
            replace hl := hl.below hC2
            replace hk := hk.below hC2
            have c10 := hx1.cells.1
            have c11 := hx1.cells.2.1
            have l1 := hx1.cells.2.2.2.2
            replace hBB := below2 hBB hC2
            go_wp2_with fail
            refine (walAll_calls _ _ _ _ _ _ _ l k _ ht1 hv1 hl (by omega) hT).mono ?_
            rintro e w3 ⟨vb3, vw3, he, ho3, hB3⟩
            rw [HE.out] at he
            rw [HQ.out.2.2] at he
            subst he
            have hC3 := hB3
            replace hx1 := hx1.below hC3
            replace ht1 := ht1.below hC3
            replace hv1 := hv1.below hC3
            replace hT := hT.below hC3
            replace hl := hl.below hC3
            replace hk := hk.below hC3
            replace c10 := hx1.cells.1
            replace c11 := hx1.cells.2.1
            replace l1 := hx1.cells.2.2.2.2
            replace hBB := below2 hBB hC3
            obtain ⟨ab3, nb3, cb3, aw3, nw3, cw3, rfl, rfl, hnb3, hnw3⟩ := ho3.forms
            have ht3 := ho3.texts
            have hv3 := ho3.wrs
            have N3 := Lib.hid (And.intro hnb3 hnw3)
            clear hnb3 hnw3
            rw [HQ.out.1] at ht3
            rw [HQ.out.2.1] at hv3
            go_wp2_with fail
            refine (logged_calls _ (hT.below (below_alloc _ _))).mono ?_
            rintro e w4 ⟨he, hB4⟩
            subst he
            have hC4 := below2 (below_alloc _ _) hB4
            replace hx1 := hx1.below hC4
            replace ht1 := ht1.below hC4
            replace hv1 := hv1.below hC4
            have hx3 := (Bx.new w3 _ _).below hB4
            replace ht3 := ht3.below hC4
            replace hv3 := hv3.below hC4
            replace hT := hT.below hC4
            replace hl := hl.below hC4
            replace hk := hk.below hC4
            replace c10 := hx1.cells.1
            replace c11 := hx1.cells.2.1
            replace l1 := hx1.cells.2.2.2.2
            have c30 := hx3.cells.1
            have c31 := hx3.cells.2.1
            have l3 := hx3.cells.2.2.2.2
            replace hBB := below2 hBB hC4
            go_wp2_with fail
            go_ret
            exact ⟨rfl, hBB⟩
  · have HN := Lib.hid (show newE n = 1 by simp only [newE, if_neg hn])
    clear hn
    go_enter Tryd.func4, Tryd.ntmps4
    go_wp2_with fail
    refine (new_calls _ _).mono ?_
    rintro e w1 ⟨vb1, vw1, he, ho1, hB1⟩
    rw [HN.out] at he
    subst he
    have hC1 := hB1
    replace hT := hT.below hC1
    replace hl := hl.below hC1
    replace hk := hk.below hC1
    replace hBB := below2 hBB hC1
    obtain ⟨ab1, nb1, cb1, aw1, nw1, cw1, rfl, rfl, hnb1, hnw1⟩ := ho1.forms
    have ht1 := ho1.texts
    have hv1 := ho1.wrs
    have N1 := Lib.hid (And.intro hnb1 hnw1)
    clear hnb1 hnw1
    go_wp2_with fail
    refine (logged_calls _ (hT.below (below_alloc _ _))).mono ?_
    rintro e w2 ⟨he, hB2⟩
    subst he
    have hC2 := below2 (below_alloc _ _) hB2
    have hx1 := (Bx.new w1 _ _).below hB2
    replace ht1 := ht1.below hC2
    replace hv1 := hv1.below hC2
    replace hT := hT.below hC2
    replace hl := hl.below hC2
    replace hk := hk.below hC2
    have c10 := hx1.cells.1
    have c11 := hx1.cells.2.1
    have l1 := hx1.cells.2.2.2.2
    replace hBB := below2 hBB hC2
    go_wp2_with fail
    go_ret
    exact ⟨rfl, hBB⟩

end Go.Proofs.YtcipdmdliobdmaaDoor
