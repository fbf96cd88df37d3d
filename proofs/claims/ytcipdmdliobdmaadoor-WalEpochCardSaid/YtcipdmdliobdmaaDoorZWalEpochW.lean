/-
  The walk of WalEpoch.
-/
import Derived.Test.YtcipdmdliobdmaaDoorPks07
namespace Go.Proofs.YtcipdmdliobdmaaDoor
open Go.RowKit

/-- Of another epoch nothing is read; that one goes on from its beginning. -/
theorem epoch_facts {n : Nat} {i e o : Int} {l : List (List UInt8)} {s : List UInt8} (h : allE (List.replicate n []) [] i e l (-1) = 0) (hs : s.length ≤ 200) (hne : e ≠ o) {X : List (List UInt8)} {V : List Wr}
    (hX : allBs (List.replicate n []) [] i e l (-1) = X) (hV : allWs (List.replicate n []) [] i e l (-1) = V) (hg : waE X V i o = 0) :
    ∃ V2, openL X V i o = [] ∧ appE X V i o s = 0 ∧ appBs X V i o s = X ∧ appWs X V i o s = V2 ∧ waE X V2 i o = 0 ∧ openL X V2 i o = [s] ∧ waE X V2 i e = 0 ∧ openL X V2 i e = [] := by
  have hf : fullB l (-1) = true := by simp [fullB]
  have ht : takeA l (-1) = l := by simp [takeA, hf]
  obtain ⟨g, h1, h2, _⟩ := all_new h
  rw [hf, ht] at h1
  rw [hf] at h2
  rw [ht] at g
  simp only [if_true] at h1 h2
  rw [hX] at h1
  rw [hV] at h2
  subst h2
  have hXl : X.length = n := by rw [h1, layL_len]; simp
  have hsa : SaysAt e.toNat l (X.drop i.toNat) := by rw [h1]; exact says_all n i g.hi.1 e.toNat l
  clear h1 hX hV
  obtain ⟨hr, ho1, ho2, hi1, hi2⟩ := wa_ok.1 hg
  have he := g.he
  have hn200 := (right_parts hr).2.1
  have hen : ((e.toNat : Nat) : Int) = e := by omega
  have hon : ((o.toNat : Nat) : Int) = o := by omega
  have hoth : ∀ k, tellL o k ((X.drop i.toNat).drop k) = [] := fun k => by
    have := tell_other e.toNat o.toNat (by rw [hen, hon]; exact hne) (by omega) l (X.drop i.toNat) g.hs (by simp; omega) hsa k
    rwa [hon] at this
  have hw0 : walL X [] i o = [] := by
    have := hoth 0
    rw [List.drop_zero] at this
    exact congrArg (List.map Prod.snd) this
  have hroom : roomN X [] i o ≠ 0 := by
    simp only [roomN, hg, hw0, if_true, List.length_nil]
    omega
  have hwr : writeE X [] i (recB o.toNat 0 s) = 0 := by
    rw [writeE, if_pos hr, if_pos (hasB_iff.2 ⟨hi1, hi2⟩), if_pos (rec_len _ _ _ (by omega) hs), if_pos (by simp)]
  have ha : appE X [] i o s = 0 := by
    rw [appE, if_pos hg, if_pos hs, if_neg hroom, hw0]
    simpa using hwr
  have hV2 : appWs X [] i o s = [(i, recB o.toNat 0 s)] := by
    rw [appWs, if_pos ha, hw0]
    simp
  have hr2 : rightB X [(i, recB o.toNat 0 s)] = true := by
    have := right_more hwr
    simpa using this
  have hD : logD X [(i, recB o.toNat 0 s)] i = (X.set i.toNat (recB o.toNat 0 s)).drop i.toNat := rfl
  have hit : i.toNat < X.length := by omega
  have h0 : (logD X [(i, recB o.toNat 0 s)] i)[0]? = some (recB o.toNat 0 s) := by
    rw [hD, List.getElem?_drop, Nat.add_zero, List.getElem?_set, if_pos rfl, if_pos hit]
  have h1 : (logD X [(i, recB o.toNat 0 s)] i).drop 1 = (X.drop i.toNat).drop 1 := by
    rw [hD, List.drop_drop, List.drop_drop, List.drop_set_of_lt (by omega)]
  have w2 : waE X [(i, recB o.toNat 0 s)] i o = 0 := wa_ok.2 ⟨hr2, ho1, ho2, hi1, hi2⟩
  have w3 : waE X [(i, recB o.toNat 0 s)] i e = 0 := wa_ok.2 ⟨hr2, he.1, he.2, hi1, hi2⟩
  refine ⟨[(i, recB o.toNat 0 s)], by rw [openL, if_pos hg, hw0], ha, by rw [appBs, if_pos ha], hV2, w2, ?_, w3, ?_⟩
  · rw [openL, if_pos w2, walL]
    have q := tell_cons (e := o) h0
    have q2 := recAt_rec o.toNat 0 s (by omega) (by omega) hs o (0 : Nat)
    rw [if_pos ⟨hon, rfl⟩] at q2
    rw [List.drop_zero, q2] at q
    simp only at q
    rw [show (0 : Nat) + 1 = 1 from rfl, h1, hoth 1] at q
    rw [q]
    rfl
  · rw [openL, if_pos w3, walL]
    have q := tell_cons (e := e) h0
    have q2 := recAt_rec o.toNat 0 s (by omega) (by omega) hs e (0 : Nat)
    rw [if_neg (by rw [hon]; exact fun z => hne z.1.symm)] at q2
    rw [List.drop_zero, q2] at q
    exact congrArg (List.map Prod.snd) q

set_option maxRecDepth 100000 in
set_option maxHeartbeats 16000000 in
theorem walEpoch_walk (n i e o : Int) (vl : Value) (l : List (List UInt8)) (t : List UInt8) (w0 : World) (hl : Txts w0 vl l) (hlm : l.length ≤ maxLen) (hT : TabOk w0) :
    Calls Tryd.prog 5 #[.int .i64 n, .int .i64 i, .int .i64 e, .int .i64 o, vl, .string ⟨t.toArray⟩] w0 fun e w' => e = .returned (.bool true) ∧ Below w0.heap.size w0 w' := by
  obtain ⟨al, cl, rfl⟩ := hl.strs.form
  have hBB := Below.refl w0.heap.size w0
  by_cases hn : 1 ≤ n ∧ n ≤ 200
  · obtain ⟨N, rfl⟩ : ∃ N : Nat, n = (N : Int) := ⟨n.toNat, by omega⟩
    have HN := Lib.hid (show newE (N : Int) = 0 ∧ newB (N : Int) = List.replicate N [] by simp only [newE, newB, if_pos hn]; exact ⟨trivial, rfl⟩)
    have hN200 : N ≤ 200 := by omega
    clear hn
    by_cases h20 : 20 < N
    · have d1 : decide ((20 : Int) < (N : Int)) = true := by simp; omega
      go_enter Tryd.func5, Tryd.ntmps5
      go_wp2_with fail
      refine (new_calls _ _).mono ?_
      rintro e w1 ⟨vb1, vw1, he, ho1, hB1⟩
      rw [HN.out.1] at he
      subst he
      have hC1 := hB1
      replace hT := hT.below hC1
      replace hl := hl.below hC1
      replace hBB := below2 hBB hC1
      obtain ⟨ab1, nb1, cb1, aw1, nw1, cw1, rfl, rfl, hnb1, hnw1⟩ := ho1.forms
      have ht1 := ho1.texts
      have hv1 := ho1.wrs
      have N1 := Lib.hid (And.intro hnb1 hnw1)
      clear hnb1 hnw1
      rw [HN.out.2] at ht1
      go_wp2_with fail
      refine (logged_calls _ (hT.below (below_alloc _ _))).mono ?_
      rintro e w2 ⟨he, hB2⟩
      subst he
      have hC2 := below2 (below_alloc _ _) hB2
      have hx1 := (Bx.new w1 _ _).below hB2
      replace ht1 := ht1.below hC2
      replace hv1 := hv1.below hC2
      replace hT := hT.below hC2
      replace hl := hl.below hC2
      have c10 := hx1.cells.1
      have c11 := hx1.cells.2.1
      have l1 := hx1.cells.2.2.2.2
      replace hBB := below2 hBB hC2
      go_wp2_with fail
      go_ret
      exact ⟨rfl, hBB⟩
    · have d1 : decide ((20 : Int) < (N : Int)) = false := by simp; omega
      clear h20
      cases hF : wfarB (List.replicate N []) [] l with
      | true =>
        have HF := Lib.hid hF
        clear hF
        go_enter Tryd.func5, Tryd.ntmps5
        go_wp2_with fail
        refine (new_calls _ _).mono ?_
        rintro e w1 ⟨vb1, vw1, he, ho1, hB1⟩
        rw [HN.out.1] at he
        subst he
        have hC1 := hB1
        replace hT := hT.below hC1
        replace hl := hl.below hC1
        replace hBB := below2 hBB hC1
        obtain ⟨ab1, nb1, cb1, aw1, nw1, cw1, rfl, rfl, hnb1, hnw1⟩ := ho1.forms
        have ht1 := ho1.texts
        have hv1 := ho1.wrs
        have N1 := Lib.hid (And.intro hnb1 hnw1)
        clear hnb1 hnw1
        rw [HN.out.2] at ht1
        go_wp2_with fail
        refine (wfar_calls _ _ _ _ _ l _ (ht1.below (below_alloc _ _)) (hv1.below (below_alloc _ _)) (hl.below (below_alloc _ _)) hlm).mono ?_
        rintro e w2 ⟨he, hB2⟩
        rw [HF.out] at he
        subst he
        have hC2 := below2 (below_alloc _ _) hB2
        have hx1 := (Bx.new w1 _ _).below hB2
        replace ht1 := ht1.below hC2
        replace hv1 := hv1.below hC2
        replace hT := hT.below hC2
        replace hl := hl.below hC2
        have c10 := hx1.cells.1
        have c11 := hx1.cells.2.1
        have l1 := hx1.cells.2.2.2.2
        replace hBB := below2 hBB hC2
        go_wp2_with fail
        refine (logged_calls _ hT).mono ?_
        rintro e w3 ⟨he, hB3⟩
        subst he
        have hC3 := hB3
        replace hx1 := hx1.below hC3
        replace ht1 := ht1.below hC3
        replace hv1 := hv1.below hC3
        replace hT := hT.below hC3
        replace hl := hl.below hC3
        replace c10 := hx1.cells.1
        replace c11 := hx1.cells.2.1
        replace l1 := hx1.cells.2.2.2.2
        replace hBB := below2 hBB hC3
        go_wp2_with fail
        go_ret
        exact ⟨rfl, hBB⟩
      | false =>
        have hl30 := (wfar_not hF).1
        have HF := Lib.hid hF
        clear hF
        by_cases h200 : 200 < t.length
        · have d2 : decide ((200 : Int) < (t.length : Int)) = true := by simp; omega
          go_enter Tryd.func5, Tryd.ntmps5
          go_wp2_with fail
          refine (new_calls _ _).mono ?_
          rintro e w1 ⟨vb1, vw1, he, ho1, hB1⟩
          rw [HN.out.1] at he
          subst he
          have hC1 := hB1
          replace hT := hT.below hC1
          replace hl := hl.below hC1
          replace hBB := below2 hBB hC1
          obtain ⟨ab1, nb1, cb1, aw1, nw1, cw1, rfl, rfl, hnb1, hnw1⟩ := ho1.forms
          have ht1 := ho1.texts
          have hv1 := ho1.wrs
          have N1 := Lib.hid (And.intro hnb1 hnw1)
          clear hnb1 hnw1
          rw [HN.out.2] at ht1
          go_wp2_with fail
          refine (wfar_calls _ _ _ _ _ l _ (ht1.below (below_alloc _ _)) (hv1.below (below_alloc _ _)) (hl.below (below_alloc _ _)) hlm).mono ?_
          rintro e w2 ⟨he, hB2⟩
          rw [HF.out] at he
          subst he
          have hC2 := below2 (below_alloc _ _) hB2
          have hx1 := (Bx.new w1 _ _).below hB2
          replace ht1 := ht1.below hC2
          replace hv1 := hv1.below hC2
          replace hT := hT.below hC2
          replace hl := hl.below hC2
          have c10 := hx1.cells.1
          have c11 := hx1.cells.2.1
          have l1 := hx1.cells.2.2.2.2
          replace hBB := below2 hBB hC2
          go_wp2_with fail
          refine (logged_calls _ hT).mono ?_
          rintro e w3 ⟨he, hB3⟩
          subst he
          have hC3 := hB3
          replace hx1 := hx1.below hC3
          replace ht1 := ht1.below hC3
          replace hv1 := hv1.below hC3
          replace hT := hT.below hC3
          replace hl := hl.below hC3
          replace c10 := hx1.cells.1
          replace c11 := hx1.cells.2.1
          replace l1 := hx1.cells.2.2.2.2
          replace hBB := below2 hBB hC3
          go_wp2_with fail
          go_ret
          exact ⟨rfl, hBB⟩
        · have d2 : decide ((200 : Int) < (t.length : Int)) = false := by simp; omega
          by_cases heo : e = o
          · have d3 : (e == o) = true := by simp [heo]
            clear heo
            go_enter Tryd.func5, Tryd.ntmps5
            go_wp2_with fail
            refine (new_calls _ _).mono ?_
            rintro e w1 ⟨vb1, vw1, he, ho1, hB1⟩
            rw [HN.out.1] at he
            subst he
            have hC1 := hB1
            replace hT := hT.below hC1
            replace hl := hl.below hC1
            replace hBB := below2 hBB hC1
            obtain ⟨ab1, nb1, cb1, aw1, nw1, cw1, rfl, rfl, hnb1, hnw1⟩ := ho1.forms
            have ht1 := ho1.texts
            have hv1 := ho1.wrs
            have N1 := Lib.hid (And.intro hnb1 hnw1)
            clear hnb1 hnw1
            rw [HN.out.2] at ht1
            go_wp2_with fail
            refine (wfar_calls _ _ _ _ _ l _ (ht1.below (below_alloc _ _)) (hv1.below (below_alloc _ _)) (hl.below (below_alloc _ _)) hlm).mono ?_
            rintro e w2 ⟨he, hB2⟩
            rw [HF.out] at he
            subst he
            have hC2 := below2 (below_alloc _ _) hB2
            have hx1 := (Bx.new w1 _ _).below hB2
            replace ht1 := ht1.below hC2
            replace hv1 := hv1.below hC2
            replace hT := hT.below hC2
            replace hl := hl.below hC2
            have c10 := hx1.cells.1
            have c11 := hx1.cells.2.1
            have l1 := hx1.cells.2.2.2.2
            replace hBB := below2 hBB hC2
            go_wp2_with fail
            refine (logged_calls _ hT).mono ?_
            rintro e w3 ⟨he, hB3⟩
            subst he
            have hC3 := hB3
            replace hx1 := hx1.below hC3
            replace ht1 := ht1.below hC3
            replace hv1 := hv1.below hC3
            replace hT := hT.below hC3
            replace hl := hl.below hC3
            replace c10 := hx1.cells.1
            replace c11 := hx1.cells.2.1
            replace l1 := hx1.cells.2.2.2.2
            replace hBB := below2 hBB hC3
            go_wp2_with fail
            go_ret
            exact ⟨rfl, hBB⟩
          · have d3 : (e == o) = false := by simp [heo]
            obtain ⟨X, hX⟩ : ∃ X, allBs (List.replicate N []) [] i e l (-1) = X := ⟨_, rfl⟩
            obtain ⟨V, hV⟩ : ∃ V, allWs (List.replicate N []) [] i e l (-1) = V := ⟨_, rfl⟩
            obtain ⟨D, hD⟩ : ∃ D, allD (List.replicate N []) [] i e l (-1) = D := ⟨_, rfl⟩
            have HX := Lib.hid (And.intro hX (And.intro hV hD))
            by_cases hz : allE (List.replicate N []) [] i e l (-1) = 0
            · by_cases hg : waE X V i o = 0
              · obtain ⟨V2, q1, q2, q3, q4, q5, q6, q7, q8⟩ := epoch_facts hz (show t.length ≤ 200 by omega) heo hX hV hg
                have H := Lib.hid (And.intro hz (And.intro hg (And.intro q1 (And.intro q2 (And.intro q3 (And.intro q4 (And.intro q5 (And.intro q6 (And.intro q7 q8)))))))))
                clear hz hg q1 q2 q3 q4 q5 q6 q7 q8 hX hV hD heo
                go_enter Tryd.func5, Tryd.ntmps5
                go_wp2_with fail
                refine (new_calls _ _).mono ?_
                rintro e w1 ⟨vb1, vw1, he, ho1, hB1⟩
                rw [HN.out.1] at he
                subst he
                have hC1 := hB1
                replace hT := hT.below hC1
                replace hl := hl.below hC1
                replace hBB := below2 hBB hC1
                obtain ⟨ab1, nb1, cb1, aw1, nw1, cw1, rfl, rfl, hnb1, hnw1⟩ := ho1.forms
                have ht1 := ho1.texts
                have hv1 := ho1.wrs
                have N1 := Lib.hid (And.intro hnb1 hnw1)
                clear hnb1 hnw1
                rw [HN.out.2] at ht1
                go_wp2_with fail
                refine (wfar_calls _ _ _ _ _ l _ (ht1.below (below_alloc _ _)) (hv1.below (below_alloc _ _)) (hl.below (below_alloc _ _)) hlm).mono ?_
                rintro e w2 ⟨he, hB2⟩
                rw [HF.out] at he
                subst he
                have hC2 := below2 (below_alloc _ _) hB2
                have hx1 := (Bx.new w1 _ _).below hB2
                replace ht1 := ht1.below hC2
                replace hv1 := hv1.below hC2
                replace hT := hT.below hC2
                replace hl := hl.below hC2
                have c10 := hx1.cells.1
                have c11 := hx1.cells.2.1
                have l1 := hx1.cells.2.2.2.2
                replace hBB := below2 hBB hC2
                go_wp2_with fail
                refine (walAll_calls _ _ _ _ _ _ _ l (-1) _ ht1 hv1 hl (by omega) hT).mono ?_
                rintro e w3 ⟨vb3, vw3, he, ho3, hB3⟩
                rw [H.out.1] at he
                rw [HX.out.2.2] at he
                subst he
                have hC3 := hB3
                replace hx1 := hx1.below hC3
                replace ht1 := ht1.below hC3
                replace hv1 := hv1.below hC3
                replace hT := hT.below hC3
                replace hl := hl.below hC3
                replace c10 := hx1.cells.1
                replace c11 := hx1.cells.2.1
                replace l1 := hx1.cells.2.2.2.2
                replace hBB := below2 hBB hC3
                obtain ⟨ab3, nb3, cb3, aw3, nw3, cw3, rfl, rfl, hnb3, hnw3⟩ := ho3.forms
                have ht3 := ho3.texts
                have hv3 := ho3.wrs
                have N3 := Lib.hid (And.intro hnb3 hnw3)
                clear hnb3 hnw3
                rw [HX.out.1] at ht3
                rw [HX.out.2.1] at hv3
                go_wp2_with fail
                refine (waopen_calls _ _ _ _ _ _ _ (ht3.below (below_alloc _ _)) (hv3.below (below_alloc _ _)) (hT.below (below_alloc _ _))).mono ?_
                rintro e w4 ⟨vp4, he, ho4, hB4⟩
                rw [H.out.2.1] at he
                rw [H.out.2.2.1] at ho4
                subst he
                have hC4 := below2 (below_alloc _ _) hB4
                replace hx1 := hx1.below hC4
                replace ht1 := ht1.below hC4
                replace hv1 := hv1.below hC4
                have hx3 := (Bx.new w3 _ _).below hB4
                replace ht3 := ht3.below hC4
                replace hv3 := hv3.below hC4
                replace hT := hT.below hC4
                replace hl := hl.below hC4
                replace c10 := hx1.cells.1
                replace c11 := hx1.cells.2.1
                replace l1 := hx1.cells.2.2.2.2
                have c30 := hx3.cells.1
                have c31 := hx3.cells.2.1
                have l3 := hx3.cells.2.2.2.2
                replace hBB := below2 hBB hC4
                have hp4 := Txts.own ho4
                clear ho4
                obtain ⟨ap4, cp4, rfl⟩ := hp4.strs.form
                go_wp2_with fail
                refine (append_calls _ _ _ _ _ _ t _ ht3 hv3 hT).mono ?_
                rintro e w5 ⟨vb5, vw5, he, ho5, hB5⟩
                rw [H.out.2.2.2.1] at he
                subst he
                have hC5 := hB5
                replace hx1 := hx1.below hC5
                replace ht1 := ht1.below hC5
                replace hv1 := hv1.below hC5
                replace hx3 := hx3.below hC5
                replace ht3 := ht3.below hC5
                replace hv3 := hv3.below hC5
                replace hT := hT.below hC5
                replace hl := hl.below hC5
                replace hp4 := hp4.below hC5
                replace c10 := hx1.cells.1
                replace c11 := hx1.cells.2.1
                replace l1 := hx1.cells.2.2.2.2
                replace c30 := hx3.cells.1
                replace c31 := hx3.cells.2.1
                replace l3 := hx3.cells.2.2.2.2
                replace hBB := below2 hBB hC5
                obtain ⟨ab5, nb5, cb5, aw5, nw5, cw5, rfl, rfl, hnb5, hnw5⟩ := ho5.forms
                have ht5 := ho5.texts
                have hv5 := ho5.wrs
                have N5 := Lib.hid (And.intro hnb5 hnw5)
                clear hnb5 hnw5
                rw [H.out.2.2.2.2.1] at ht5
                rw [H.out.2.2.2.2.2.1] at hv5
                go_wp2_with fail
                refine (waopen_calls _ _ _ _ _ _ _ (ht5.below (below_alloc _ _)) (hv5.below (below_alloc _ _)) (hT.below (below_alloc _ _))).mono ?_
                rintro e w6 ⟨vp6, he, ho6, hB6⟩
                rw [H.out.2.2.2.2.2.2.1] at he
                rw [H.out.2.2.2.2.2.2.2.1] at ho6
                subst he
                have hC6 := below2 (below_alloc _ _) hB6
                replace hx1 := hx1.below hC6
                replace ht1 := ht1.below hC6
                replace hv1 := hv1.below hC6
                replace hx3 := hx3.below hC6
                replace ht3 := ht3.below hC6
                replace hv3 := hv3.below hC6
                have hx5 := (Bx.new w5 _ _).below hB6
                replace ht5 := ht5.below hC6
                replace hv5 := hv5.below hC6
                replace hT := hT.below hC6
                replace hl := hl.below hC6
                replace hp4 := hp4.below hC6
                replace c10 := hx1.cells.1
                replace c11 := hx1.cells.2.1
                replace l1 := hx1.cells.2.2.2.2
                replace c30 := hx3.cells.1
                replace c31 := hx3.cells.2.1
                replace l3 := hx3.cells.2.2.2.2
                have c50 := hx5.cells.1
                have c51 := hx5.cells.2.1
                have l5 := hx5.cells.2.2.2.2
                replace hBB := below2 hBB hC6
                have hp6 := Txts.own ho6
                clear ho6
                obtain ⟨ap6, cp6, rfl⟩ := hp6.strs.form
                go_wp2_with fail
                refine (waopen_calls _ _ _ _ _ _ _ ht5 hv5 hT).mono ?_
                rintro e w7 ⟨vp7, he, ho7, hB7⟩
                rw [H.out.2.2.2.2.2.2.2.2.1] at he
                rw [H.out.2.2.2.2.2.2.2.2.2] at ho7
                subst he
                have hC7 := hB7
                replace hx1 := hx1.below hC7
                replace ht1 := ht1.below hC7
                replace hv1 := hv1.below hC7
                replace hx3 := hx3.below hC7
                replace ht3 := ht3.below hC7
                replace hv3 := hv3.below hC7
                replace hx5 := hx5.below hC7
                replace ht5 := ht5.below hC7
                replace hv5 := hv5.below hC7
                replace hT := hT.below hC7
                replace hl := hl.below hC7
                replace hp4 := hp4.below hC7
                replace hp6 := hp6.below hC7
                replace c10 := hx1.cells.1
                replace c11 := hx1.cells.2.1
                replace l1 := hx1.cells.2.2.2.2
                replace c30 := hx3.cells.1
                replace c31 := hx3.cells.2.1
                replace l3 := hx3.cells.2.2.2.2
                replace c50 := hx5.cells.1
                replace c51 := hx5.cells.2.1
                replace l5 := hx5.cells.2.2.2.2
                replace hBB := below2 hBB hC7
                have hp7 := Txts.own ho7
                clear ho7
                obtain ⟨ap7, cp7, rfl⟩ := hp7.strs.form
                go_wp2_with fail
                refine (logged_calls _ hT).mono ?_
                rintro e w8 ⟨he, hB8⟩
                subst he
                have hC8 := hB8
                replace hx1 := hx1.below hC8
                replace ht1 := ht1.below hC8
                replace hv1 := hv1.below hC8
                replace hx3 := hx3.below hC8
                replace ht3 := ht3.below hC8
                replace hv3 := hv3.below hC8
                replace hx5 := hx5.below hC8
                replace ht5 := ht5.below hC8
                replace hv5 := hv5.below hC8
                replace hT := hT.below hC8
                replace hl := hl.below hC8
                replace hp4 := hp4.below hC8
                replace hp6 := hp6.below hC8
                replace hp7 := hp7.below hC8
                replace c10 := hx1.cells.1
                replace c11 := hx1.cells.2.1
                replace l1 := hx1.cells.2.2.2.2
                replace c30 := hx3.cells.1
                replace c31 := hx3.cells.2.1
                replace l3 := hx3.cells.2.2.2.2
                replace c50 := hx5.cells.1
                replace c51 := hx5.cells.2.1
                replace l5 := hx5.cells.2.2.2.2
                replace hBB := below2 hBB hC8
                go_wp2_with fail
                refine (texts_calls _ _ _ _ _ (hp6.below (below_alloc _ _)).strs (Txts.new _ [t] _).strs (by simp)).mono ?_
                rintro e w9 ⟨he, hB9⟩
                rw [show decide (([t] : List (List UInt8)) = [t]) = true by simp] at he
                subst he
                have hC9 := below2 (below_alloc _ _) hB9
                replace hx1 := hx1.below hC9
                replace ht1 := ht1.below hC9
                replace hv1 := hv1.below hC9
                replace hx3 := hx3.below hC9
                replace ht3 := ht3.below hC9
                replace hv3 := hv3.below hC9
                replace hx5 := hx5.below hC9
                replace ht5 := ht5.below hC9
                replace hv5 := hv5.below hC9
                replace hT := hT.below hC9
                replace hl := hl.below hC9
                replace hp4 := hp4.below hC9
                replace hp6 := hp6.below hC9
                replace hp7 := hp7.below hC9
                replace c10 := hx1.cells.1
                replace c11 := hx1.cells.2.1
                replace l1 := hx1.cells.2.2.2.2
                replace c30 := hx3.cells.1
                replace c31 := hx3.cells.2.1
                replace l3 := hx3.cells.2.2.2.2
                replace c50 := hx5.cells.1
                replace c51 := hx5.cells.2.1
                replace l5 := hx5.cells.2.2.2.2
                replace hBB := below2 hBB hC9
                go_wp2_with fail
                go_ret
                exact ⟨rfl, hBB⟩
              · obtain ⟨cG, hcG⟩ : ∃ c, waE X V i o = c := ⟨_, rfl⟩
                rw [hcG] at hg
                have HE := Lib.hid (And.intro hz hcG)
                have dE : (cG != 0) = true := by simpa using hg
                clear hz hcG hg hX hV hD heo
                go_enter Tryd.func5, Tryd.ntmps5
                go_wp2_with fail
                refine (new_calls _ _).mono ?_
                rintro e w1 ⟨vb1, vw1, he, ho1, hB1⟩
                rw [HN.out.1] at he
                subst he
                have hC1 := hB1
                replace hT := hT.below hC1
                replace hl := hl.below hC1
                replace hBB := below2 hBB hC1
                obtain ⟨ab1, nb1, cb1, aw1, nw1, cw1, rfl, rfl, hnb1, hnw1⟩ := ho1.forms
                have ht1 := ho1.texts
                have hv1 := ho1.wrs
                have N1 := Lib.hid (And.intro hnb1 hnw1)
                clear hnb1 hnw1
                rw [HN.out.2] at ht1
                go_wp2_with fail
                refine (wfar_calls _ _ _ _ _ l _ (ht1.below (below_alloc _ _)) (hv1.below (below_alloc _ _)) (hl.below (below_alloc _ _)) hlm).mono ?_
                rintro e w2 ⟨he, hB2⟩
                rw [HF.out] at he
                subst he
                have hC2 := below2 (below_alloc _ _) hB2
                have hx1 := (Bx.new w1 _ _).below hB2
                replace ht1 := ht1.below hC2
                replace hv1 := hv1.below hC2
                replace hT := hT.below hC2
                replace hl := hl.below hC2
                have c10 := hx1.cells.1
                have c11 := hx1.cells.2.1
                have l1 := hx1.cells.2.2.2.2
                replace hBB := below2 hBB hC2
                go_wp2_with fail
                refine (walAll_calls _ _ _ _ _ _ _ l (-1) _ ht1 hv1 hl (by omega) hT).mono ?_
                rintro e w3 ⟨vb3, vw3, he, ho3, hB3⟩
                rw [HE.out.1] at he
                rw [HX.out.2.2] at he
                subst he
                have hC3 := hB3
                replace hx1 := hx1.below hC3
                replace ht1 := ht1.below hC3
                replace hv1 := hv1.below hC3
                replace hT := hT.below hC3
                replace hl := hl.below hC3
                replace c10 := hx1.cells.1
                replace c11 := hx1.cells.2.1
                replace l1 := hx1.cells.2.2.2.2
                replace hBB := below2 hBB hC3
                obtain ⟨ab3, nb3, cb3, aw3, nw3, cw3, rfl, rfl, hnb3, hnw3⟩ := ho3.forms
                have ht3 := ho3.texts
                have hv3 := ho3.wrs
                have N3 := Lib.hid (And.intro hnb3 hnw3)
                clear hnb3 hnw3
                rw [HX.out.1] at ht3
                rw [HX.out.2.1] at hv3
                go_wp2_with fail
                refine (waopen_calls _ _ _ _ _ _ _ (ht3.below (below_alloc _ _)) (hv3.below (below_alloc _ _)) (hT.below (below_alloc _ _))).mono ?_
                rintro e w4 ⟨vp4, he, ho4, hB4⟩
                rw [HE.out.2] at he
                subst he
                have hC4 := below2 (below_alloc _ _) hB4
                replace hx1 := hx1.below hC4
                replace ht1 := ht1.below hC4
                replace hv1 := hv1.below hC4
                have hx3 := (Bx.new w3 _ _).below hB4
                replace ht3 := ht3.below hC4
                replace hv3 := hv3.below hC4
                replace hT := hT.below hC4
                replace hl := hl.below hC4
                replace c10 := hx1.cells.1
                replace c11 := hx1.cells.2.1
                replace l1 := hx1.cells.2.2.2.2
                have c30 := hx3.cells.1
                have c31 := hx3.cells.2.1
                have l3 := hx3.cells.2.2.2.2
                replace hBB := below2 hBB hC4
                have hp4 := Txts.own ho4
                clear ho4
                obtain ⟨ap4, cp4, rfl⟩ := hp4.strs.form
                go_wp2_with fail
                refine (append_calls _ _ _ _ _ _ t _ ht3 hv3 hT).mono ?_
                rintro e w5 ⟨vb5, vw5, he, ho5, hB5⟩
                subst he
                have hC5 := hB5
                replace hx1 := hx1.below hC5
                replace ht1 := ht1.below hC5
                replace hv1 := hv1.below hC5
                replace hx3 := hx3.below hC5
                replace ht3 := ht3.below hC5
                replace hv3 := hv3.below hC5
                replace hT := hT.below hC5
                replace hl := hl.below hC5
                replace hp4 := hp4.below hC5
                replace c10 := hx1.cells.1
                replace c11 := hx1.cells.2.1
                replace l1 := hx1.cells.2.2.2.2
                replace c30 := hx3.cells.1
                replace c31 := hx3.cells.2.1
                replace l3 := hx3.cells.2.2.2.2
                replace hBB := below2 hBB hC5
                obtain ⟨ab5, nb5, cb5, aw5, nw5, cw5, rfl, rfl, hnb5, hnw5⟩ := ho5.forms
                have ht5 := ho5.texts
                have hv5 := ho5.wrs
                have N5 := Lib.hid (And.intro hnb5 hnw5)
                clear hnb5 hnw5
                go_wp2_with fail
                refine (logged_calls _ (hT.below (below_alloc _ _))).mono ?_
                rintro e w6 ⟨he, hB6⟩
                subst he
                have hC6 := below2 (below_alloc _ _) hB6
                replace hx1 := hx1.below hC6
                replace ht1 := ht1.below hC6
                replace hv1 := hv1.below hC6
                replace hx3 := hx3.below hC6
                replace ht3 := ht3.below hC6
                replace hv3 := hv3.below hC6
                have hx5 := (Bx.new w5 _ _).below hB6
                replace ht5 := ht5.below hC6
                replace hv5 := hv5.below hC6
                replace hT := hT.below hC6
                replace hl := hl.below hC6
                replace hp4 := hp4.below hC6
                replace c10 := hx1.cells.1
                replace c11 := hx1.cells.2.1
                replace l1 := hx1.cells.2.2.2.2
                replace c30 := hx3.cells.1
                replace c31 := hx3.cells.2.1
                replace l3 := hx3.cells.2.2.2.2
                have c50 := hx5.cells.1
                have c51 := hx5.cells.2.1
                have l5 := hx5.cells.2.2.2.2
                replace hBB := below2 hBB hC6
                go_wp2_with fail
                go_ret
                exact ⟨rfl, hBB⟩
            · obtain ⟨cE, hcE⟩ : ∃ c, allE (List.replicate N []) [] i e l (-1) = c := ⟨_, rfl⟩
              rw [hcE] at hz
              have HE := Lib.hid hcE
              have dE : (cE != 0) = true := by simpa using hz
              clear hz hcE hX hV hD heo
              go_enter Tryd.func5, Tryd.ntmps5
              go_wp2_with fail
              refine (new_calls _ _).mono ?_
              rintro e w1 ⟨vb1, vw1, he, ho1, hB1⟩
              rw [HN.out.1] at he
              subst he
              have hC1 := hB1
              replace hT := hT.below hC1
              replace hl := hl.below hC1
              replace hBB := below2 hBB hC1
              obtain ⟨ab1, nb1, cb1, aw1, nw1, cw1, rfl, rfl, hnb1, hnw1⟩ := ho1.forms
              have ht1 := ho1.texts
              have hv1 := ho1.wrs
              have N1 := Lib.hid (And.intro hnb1 hnw1)
              clear hnb1 hnw1
              rw [HN.out.2] at ht1
              go_wp2_with fail
              refine (wfar_calls _ _ _ _ _ l _ (ht1.below (below_alloc _ _)) (hv1.below (below_alloc _ _)) (hl.below (below_alloc _ _)) hlm).mono ?_
              rintro e w2 ⟨he, hB2⟩
              rw [HF.out] at he
              subst he
              have hC2 := below2 (below_alloc _ _) hB2
              have hx1 := (Bx.new w1 _ _).below hB2
              replace ht1 := ht1.below hC2
              replace hv1 := hv1.below hC2
              replace hT := hT.below hC2
              replace hl := hl.below hC2
              have c10 := hx1.cells.1
              have c11 := hx1.cells.2.1
              have l1 := hx1.cells.2.2.2.2
              replace hBB := below2 hBB hC2
              go_wp2_with fail
              refine (walAll_calls _ _ _ _ _ _ _ l (-1) _ ht1 hv1 hl (by omega) hT).mono ?_
              rintro e w3 ⟨vb3, vw3, he, ho3, hB3⟩
              rw [HE.out] at he
              rw [HX.out.2.2] at he
              subst he
              have hC3 := hB3
              replace hx1 := hx1.below hC3
              replace ht1 := ht1.below hC3
              replace hv1 := hv1.below hC3
              replace hT := hT.below hC3
              replace hl := hl.below hC3
              replace c10 := hx1.cells.1
              replace c11 := hx1.cells.2.1
              replace l1 := hx1.cells.2.2.2.2
              replace hBB := below2 hBB hC3
              obtain ⟨ab3, nb3, cb3, aw3, nw3, cw3, rfl, rfl, hnb3, hnw3⟩ := ho3.forms
              have ht3 := ho3.texts
              have hv3 := ho3.wrs
              have N3 := Lib.hid (And.intro hnb3 hnw3)
              clear hnb3 hnw3
              rw [HX.out.1] at ht3
              rw [HX.out.2.1] at hv3
              go_wp2_with fail
              refine (waopen_calls _ _ _ _ _ _ _ (ht3.below (below_alloc _ _)) (hv3.below (below_alloc _ _)) (hT.below (below_alloc _ _))).mono ?_
              rintro e w4 ⟨vp4, he, ho4, hB4⟩
              subst he
              have hC4 := below2 (below_alloc _ _) hB4
              replace hx1 := hx1.below hC4
              replace ht1 := ht1.below hC4
              replace hv1 := hv1.below hC4
              have hx3 := (Bx.new w3 _ _).below hB4
              replace ht3 := ht3.below hC4
              replace hv3 := hv3.below hC4
              replace hT := hT.below hC4
              replace hl := hl.below hC4
              replace c10 := hx1.cells.1
              replace c11 := hx1.cells.2.1
              replace l1 := hx1.cells.2.2.2.2
              have c30 := hx3.cells.1
              have c31 := hx3.cells.2.1
              have l3 := hx3.cells.2.2.2.2
              replace hBB := below2 hBB hC4
              have hp4 := Txts.own ho4
              clear ho4
              obtain ⟨ap4, cp4, rfl⟩ := hp4.strs.form
              go_wp2_with fail
              refine (append_calls _ _ _ _ _ _ t _ ht3 hv3 hT).mono ?_
              rintro e w5 ⟨vb5, vw5, he, ho5, hB5⟩
              subst he
              have hC5 := hB5
              replace hx1 := hx1.below hC5
              replace ht1 := ht1.below hC5
              replace hv1 := hv1.below hC5
              replace hx3 := hx3.below hC5
              replace ht3 := ht3.below hC5
              replace hv3 := hv3.below hC5
              replace hT := hT.below hC5
              replace hl := hl.below hC5
              replace hp4 := hp4.below hC5
              replace c10 := hx1.cells.1
              replace c11 := hx1.cells.2.1
              replace l1 := hx1.cells.2.2.2.2
              replace c30 := hx3.cells.1
              replace c31 := hx3.cells.2.1
              replace l3 := hx3.cells.2.2.2.2
              replace hBB := below2 hBB hC5
              obtain ⟨ab5, nb5, cb5, aw5, nw5, cw5, rfl, rfl, hnb5, hnw5⟩ := ho5.forms
              have ht5 := ho5.texts
              have hv5 := ho5.wrs
              have N5 := Lib.hid (And.intro hnb5 hnw5)
              clear hnb5 hnw5
              go_wp2_with fail
              refine (logged_calls _ (hT.below (below_alloc _ _))).mono ?_
              rintro e w6 ⟨he, hB6⟩
              subst he
              have hC6 := below2 (below_alloc _ _) hB6
              replace hx1 := hx1.below hC6
              replace ht1 := ht1.below hC6
              replace hv1 := hv1.below hC6
              replace hx3 := hx3.below hC6
              replace ht3 := ht3.below hC6
              replace hv3 := hv3.below hC6
              have hx5 := (Bx.new w5 _ _).below hB6
              replace ht5 := ht5.below hC6
              replace hv5 := hv5.below hC6
              replace hT := hT.below hC6
              replace hl := hl.below hC6
              replace hp4 := hp4.below hC6
              replace c10 := hx1.cells.1
              replace c11 := hx1.cells.2.1
              replace l1 := hx1.cells.2.2.2.2
              replace c30 := hx3.cells.1
              replace c31 := hx3.cells.2.1
              replace l3 := hx3.cells.2.2.2.2
              have c50 := hx5.cells.1
              have c51 := hx5.cells.2.1
              have l5 := hx5.cells.2.2.2.2
              replace hBB := below2 hBB hC6
              go_wp2_with fail
              go_ret
              exact ⟨rfl, hBB⟩
  · have HN := Lib.hid (show newE n = 1 by simp only [newE, if_neg hn])
    clear hn
    go_enter Tryd.func5, Tryd.ntmps5
    go_wp2_with fail
    refine (new_calls _ _).mono ?_
    rintro e w1 ⟨vb1, vw1, he, ho1, hB1⟩
    rw [HN.out] at he
    subst he
    have hC1 := hB1
    replace hT := hT.below hC1
    replace hl := hl.below hC1
    replace hBB := below2 hBB hC1
    obtain ⟨ab1, nb1, cb1, aw1, nw1, cw1, rfl, rfl, hnb1, hnw1⟩ := ho1.forms
    have ht1 := ho1.texts
    have hv1 := ho1.wrs
    have N1 := Lib.hid (And.intro hnb1 hnw1)
    clear hnb1 hnw1
    go_wp2_with fail
    refine (logged_calls _ (hT.below (below_alloc _ _))).mono ?_
    rintro e w2 ⟨he, hB2⟩
    subst he
    have hC2 := below2 (below_alloc _ _) hB2
    have hx1 := (Bx.new w1 _ _).below hB2
    replace ht1 := ht1.below hC2
    replace hv1 := hv1.below hC2
    replace hT := hT.below hC2
    replace hl := hl.below hC2
    have c10 := hx1.cells.1
    have c11 := hx1.cells.2.1
    have l1 := hx1.cells.2.2.2.2
    replace hBB := below2 hBB hC2
    go_wp2_with fail
    go_ret
    exact ⟨rfl, hBB⟩

end Go.Proofs.YtcipdmdliobdmaaDoor
