/-
  The walk of WalDoes.
-/
import Derived.Test.YtcipdmdliobdmaaDoorPks07
import Derived.Test.YtcipdmdliobdmaaDoorPks04
namespace Go.Proofs.YtcipdmdliobdmaaDoor
open Go.RowKit

theorem runA_right (i e : Int) (bs : List (List UInt8)) : ∀ (l : List (List UInt8)) (ws : List Wr), rightB bs ws = true → (runA i e l bs ws).1 = 0 → rightB bs (runA i e l bs ws).2.2 = true
  | [], _, h, _ => h
  | s :: r, ws, h, hz => by
    unfold runA at hz ⊢
    by_cases ha : appE bs ws i e s = 0
    · rw [if_pos ha] at hz ⊢
      exact runA_right i e bs r _ (by rw [appWs, if_pos ha]; exact right_more (app_ok ha).2.2.2) hz
    · rw [if_neg ha] at hz
      exact absurd hz ha
theorem app_small (bs : List (List UInt8)) (ws : List Wr) (i e : Int) (s : List UInt8) : (appBs bs ws i e s).length ≤ 200 ∧ (appWs bs ws i e s).length ≤ 100 := by
  by_cases ha : appE bs ws i e s = 0
  · have h := right_parts (right_more (app_ok ha).2.2.2)
    rw [appBs, appWs, if_pos ha, if_pos ha]
    exact ⟨h.2.1, h.2.2.1⟩
  · simp [appBs, appWs, ha]
theorem all_small (bs : List (List UInt8)) (ws : List Wr) (i e : Int) (l : List (List UInt8)) (k : Int) : (allBs bs ws i e l k).length ≤ 200 ∧ (allWs bs ws i e l k).length ≤ 100 := by
  by_cases ha : allE bs ws i e l k = 0
  · have hz : waE bs ws i e = 0 := by
      by_cases hz : waE bs ws i e = 0
      · exact hz
      · exfalso
        simp [allE, hz] at ha
    have hr : (runA i e (takeA l k) bs ws).1 = 0 := by simpa [allE, hz] using ha
    have h0 := (wa_ok.1 hz).1
    have h := right_parts (runA_right i e bs (takeA l k) ws h0 hr)
    rw [allBs, allWs, if_pos ha, if_pos ha]
    cases fullB l k with
    | true => simp only [if_true, layL_len, List.length_nil]; exact ⟨h.2.1, by omega⟩
    | false => simp only [Bool.false_eq_true, if_false]; exact ⟨h.2.1, h.2.2.1⟩
  · simp [allBs, allWs, ha]
theorem openL_small (bs : List (List UInt8)) (ws : List Wr) (i e : Int) : (openL bs ws i e).length ≤ bs.length := by
  unfold openL
  split
  · have := wal_len bs ws i e
    omega
  · simp

set_option maxRecDepth 100000 in
set_option maxHeartbeats 16000000 in
theorem walDoes_walk (vb vw vl : Value) (bs : List (List UInt8)) (ws : List Wr) (i e : Int) (l : List (List UInt8)) (k : Int) (w0 : World) (ht0 : Txts w0 vb bs) (hv0 : Wrs w0 vw ws) (hl : Txts w0 vl l) (hlm : l.length ≤ maxLen) (hT : TabOk w0) :
    Calls Tryd.prog 3 #[.agg #[vb, vw], .int .i64 i, .int .i64 e, vl, .int .i64 k] w0 fun e w' => e = .returned (.bool true) ∧ Below w0.heap.size w0 w' := by
  obtain ⟨ab0, cb0, rfl⟩ := ht0.strs.form
  obtain ⟨aw0, cw0, rfl⟩ := hv0.form
  obtain ⟨al, cl, rfl⟩ := hl.strs.form
  have hBB := Below.refl w0.heap.size w0
  cases hF : wfarB bs ws l with
  | true =>
    have HF := Lib.hid hF
    clear hF
    go_enter Tryd.func3, Tryd.ntmps3
    go_wp2_with fail
    refine (wfar_calls _ _ _ _ _ l _ (ht0.below (below_alloc _ _)) (hv0.below (below_alloc _ _)) (hl.below (below_alloc _ _)) hlm).mono ?_
    rintro e w1 ⟨he, hB1⟩
    rw [HF.out] at he
    subst he
    have hC1 := below2 (below_alloc _ _) hB1
    have hx0 := (Bx.new w0 _ _).below hB1
    replace ht0 := ht0.below hC1
    replace hv0 := hv0.below hC1
    replace hT := hT.below hC1
    replace hl := hl.below hC1
    have c00 := hx0.cells.1
    have c01 := hx0.cells.2.1
    have l0 := hx0.cells.2.2.2.2
    replace hBB := below2 hBB hC1
    go_wp2_with fail
    go_ret
    exact ⟨rfl, hBB⟩
  | false =>
    have hl30 := (wfar_not hF).1
    have hbw := big_not (wfar_not hF).2
    obtain ⟨hb250, hw150⟩ := hbw
    have HF := Lib.hid hF
    clear hF
    by_cases h0 : 0 < l.length
    · have d0 : decide ((0 : Int) < (l.length : Int)) = true := by simp; omega
      obtain ⟨one, h1⟩ : ∃ s, l[0] = s := ⟨_, rfl⟩
      obtain ⟨E0, hE0⟩ : ∃ x, waE bs ws i e = x := ⟨_, rfl⟩
      obtain ⟨OL, hOL⟩ : ∃ x, openL bs ws i e = x := ⟨_, rfl⟩
      obtain ⟨AE, hAE⟩ : ∃ x, appE bs ws i e one = x := ⟨_, rfl⟩
      obtain ⟨AB, hAB⟩ : ∃ x, appBs bs ws i e one = x := ⟨_, rfl⟩
      obtain ⟨AW, hAW⟩ : ∃ x, appWs bs ws i e one = x := ⟨_, rfl⟩
      obtain ⟨LE, hLE⟩ : ∃ x, allE bs ws i e l k = x := ⟨_, rfl⟩
      obtain ⟨LB, hLB⟩ : ∃ x, allBs bs ws i e l k = x := ⟨_, rfl⟩
      obtain ⟨LW, hLW⟩ : ∃ x, allWs bs ws i e l k = x := ⟨_, rfl⟩
      obtain ⟨LD, hLD⟩ : ∃ x, allD bs ws i e l k = x := ⟨_, rfl⟩
      obtain ⟨RN, hRN⟩ : ∃ x, roomN bs ws i e = x := ⟨_, rfl⟩
      have s1 := app_small bs ws i e one
      have s2 := all_small bs ws i e l k
      have s3 := openL_small bs ws i e
      rw [hAB, hAW] at s1
      rw [hLB, hLW] at s2
      rw [hOL] at s3
      obtain ⟨s1, s1'⟩ := s1
      obtain ⟨s2, s2'⟩ := s2
      have H1 := Lib.hid (And.intro hE0 hOL)
      have H2 := Lib.hid (And.intro hAE (And.intro hAB hAW))
      have H3 := Lib.hid (And.intro hLE (And.intro hLB (And.intro hLW hLD)))
      have H4 := Lib.hid hRN
      clear hE0 hOL hAE hAB hAW hLE hLB hLW hLD hRN
      go_enter Tryd.func3, Tryd.ntmps3
      go_wp2_with fail
      refine (wfar_calls _ _ _ _ _ l _ (ht0.below (below_alloc _ _)) (hv0.below (below_alloc _ _)) (hl.below (below_alloc _ _)) hlm).mono ?_
      rintro e w1 ⟨he, hB1⟩
      rw [HF.out] at he
      subst he
      have hC1 := below2 (below_alloc _ _) hB1
      have hx0 := (Bx.new w0 _ _).below hB1
      replace ht0 := ht0.below hC1
      replace hv0 := hv0.below hC1
      replace hT := hT.below hC1
      replace hl := hl.below hC1
      have c00 := hx0.cells.1
      have c01 := hx0.cells.2.1
      have l0 := hx0.cells.2.2.2.2
      replace hBB := below2 hBB hC1
      go_wp2_with fail
      refine (refOwn_calls _ _ _ _ _ ht0 hv0 (by omega) (by omega)).mono ?_
      rintro e w2 ⟨vb2, vw2, he, ho2, hB2⟩
      subst he
      have hC2 := hB2
      replace hx0 := hx0.below hC2
      replace ht0 := ht0.below hC2
      replace hv0 := hv0.below hC2
      replace hT := hT.below hC2
      replace hl := hl.below hC2
      replace c00 := hx0.cells.1
      replace c01 := hx0.cells.2.1
      replace l0 := hx0.cells.2.2.2.2
      replace hBB := below2 hBB hC2
      obtain ⟨ab2, nb2, cb2, aw2, nw2, cw2, rfl, rfl, hnb2, hnw2⟩ := ho2.forms
      have ht2 := ho2.texts
      have hv2 := ho2.wrs
      have N2 := Lib.hid (And.intro hnb2 hnw2)
      clear hnb2 hnw2
      go_wp2_with fail
      refine (ownT_calls _ _ _ (hl.below (below_alloc _ _)).strs (by omega)).mono ?_
      rintro e w3 ⟨vp3, he, ho3, hB3⟩
      subst he
      have hC3 := below2 (below_alloc _ _) hB3
      replace hx0 := hx0.below hC3
      replace ht0 := ht0.below hC3
      replace hv0 := hv0.below hC3
      have hx2 := (Bx.new w2 _ _).below hB3
      replace ht2 := ht2.below hC3
      replace hv2 := hv2.below hC3
      replace hT := hT.below hC3
      replace hl := hl.below hC3
      replace c00 := hx0.cells.1
      replace c01 := hx0.cells.2.1
      replace l0 := hx0.cells.2.2.2.2
      have c20 := hx2.cells.1
      have c21 := hx2.cells.2.1
      have l2 := hx2.cells.2.2.2.2
      replace hBB := below2 hBB hC3
      have hp3 := Txts.own ho3
      clear ho3
      obtain ⟨ap3, cp3, rfl⟩ := hp3.strs.form
      obtain ⟨b9, o9, hat9, hcell9⟩ := hl.strs.at (k := 0) h0
      subst hat9
      rw [h1, Nat.add_zero] at hcell9
      have hbl9 := World.block_lt_of_cell? _ _ hcell9
      go_wp2_with fail
      refine (waopen_calls _ _ _ _ _ _ _ ht0 hv0 hT).mono ?_
      rintro e w4 ⟨vp4, he, ho4, hB4⟩
      rw [H1.out.1] at he
      rw [H1.out.2] at ho4
      subst he
      have hC4 := hB4
      replace hx0 := hx0.below hC4
      replace ht0 := ht0.below hC4
      replace hv0 := hv0.below hC4
      replace hx2 := hx2.below hC4
      replace ht2 := ht2.below hC4
      replace hv2 := hv2.below hC4
      replace hT := hT.below hC4
      replace hl := hl.below hC4
      replace hp3 := hp3.below hC4
      replace c00 := hx0.cells.1
      replace c01 := hx0.cells.2.1
      replace l0 := hx0.cells.2.2.2.2
      replace c20 := hx2.cells.1
      replace c21 := hx2.cells.2.1
      replace l2 := hx2.cells.2.2.2.2
      replace hBB := below2 hBB hC4
      have hp4 := Txts.own ho4
      clear ho4
      obtain ⟨ap4, cp4, rfl⟩ := hp4.strs.form
      clear hcell9 hbl9
      go_wp2_with fail
      refine (refOpen_calls _ _ _ _ _ _ _ ht2 hv2).mono ?_
      rintro e w5 ⟨vp5, he, ho5, hB5⟩
      rw [H1.out.1] at he
      rw [H1.out.2] at ho5
      subst he
      have hC5 := hB5
      replace hx0 := hx0.below hC5
      replace ht0 := ht0.below hC5
      replace hv0 := hv0.below hC5
      replace hx2 := hx2.below hC5
      replace ht2 := ht2.below hC5
      replace hv2 := hv2.below hC5
      replace hT := hT.below hC5
      replace hl := hl.below hC5
      replace hp3 := hp3.below hC5
      replace hp4 := hp4.below hC5
      replace c00 := hx0.cells.1
      replace c01 := hx0.cells.2.1
      replace l0 := hx0.cells.2.2.2.2
      replace c20 := hx2.cells.1
      replace c21 := hx2.cells.2.1
      replace l2 := hx2.cells.2.2.2.2
      replace hBB := below2 hBB hC5
      have hp5 := Txts.own ho5
      clear ho5
      obtain ⟨ap5, cp5, rfl⟩ := hp5.strs.form
      go_wp2_with fail
      refine (append_calls _ _ _ _ _ _ one _ ht0 hv0 hT).mono ?_
      rintro e w6 ⟨vb6, vw6, he, ho6, hB6⟩
      rw [H2.out.1] at he
      subst he
      have hC6 := hB6
      replace hx0 := hx0.below hC6
      replace ht0 := ht0.below hC6
      replace hv0 := hv0.below hC6
      replace hx2 := hx2.below hC6
      replace ht2 := ht2.below hC6
      replace hv2 := hv2.below hC6
      replace hT := hT.below hC6
      replace hl := hl.below hC6
      replace hp3 := hp3.below hC6
      replace hp4 := hp4.below hC6
      replace hp5 := hp5.below hC6
      replace c00 := hx0.cells.1
      replace c01 := hx0.cells.2.1
      replace l0 := hx0.cells.2.2.2.2
      replace c20 := hx2.cells.1
      replace c21 := hx2.cells.2.1
      replace l2 := hx2.cells.2.2.2.2
      replace hBB := below2 hBB hC6
      obtain ⟨ab6, nb6, cb6, aw6, nw6, cw6, rfl, rfl, hnb6, hnw6⟩ := ho6.forms
      have ht6 := ho6.texts
      have hv6 := ho6.wrs
      have N6 := Lib.hid (And.intro hnb6 hnw6)
      clear hnb6 hnw6
      rw [H2.out.2.1] at ht6
      rw [H2.out.2.2] at hv6
      go_wp2_with fail
      refine (refAppend_calls _ _ _ _ _ _ one _ (ht2.below (below_alloc _ _)) (hv2.below (below_alloc _ _))).mono ?_
      rintro e w7 ⟨vb7, vw7, he, ho7, hB7⟩
      rw [H2.out.1] at he
      subst he
      have hC7 := below2 (below_alloc _ _) hB7
      replace hx0 := hx0.below hC7
      replace ht0 := ht0.below hC7
      replace hv0 := hv0.below hC7
      replace hx2 := hx2.below hC7
      replace ht2 := ht2.below hC7
      replace hv2 := hv2.below hC7
      have hx6 := (Bx.new w6 _ _).below hB7
      replace ht6 := ht6.below hC7
      replace hv6 := hv6.below hC7
      replace hT := hT.below hC7
      replace hl := hl.below hC7
      replace hp3 := hp3.below hC7
      replace hp4 := hp4.below hC7
      replace hp5 := hp5.below hC7
      replace c00 := hx0.cells.1
      replace c01 := hx0.cells.2.1
      replace l0 := hx0.cells.2.2.2.2
      replace c20 := hx2.cells.1
      replace c21 := hx2.cells.2.1
      replace l2 := hx2.cells.2.2.2.2
      have c60 := hx6.cells.1
      have c61 := hx6.cells.2.1
      have l6 := hx6.cells.2.2.2.2
      replace hBB := below2 hBB hC7
      obtain ⟨ab7, nb7, cb7, aw7, nw7, cw7, rfl, rfl, hnb7, hnw7⟩ := ho7.forms
      have ht7 := ho7.texts
      have hv7 := ho7.wrs
      have N7 := Lib.hid (And.intro hnb7 hnw7)
      clear hnb7 hnw7
      rw [H2.out.2.1] at ht7
      rw [H2.out.2.2] at hv7
      go_wp2_with fail
      refine (walAll_calls _ _ _ _ _ _ _ l k _ (ht0.below (below_alloc _ _)) (hv0.below (below_alloc _ _)) (hl.below (below_alloc _ _)) (by omega) (hT.below (below_alloc _ _))).mono ?_
      rintro e w8 ⟨vb8, vw8, he, ho8, hB8⟩
      rw [H3.out.1] at he
      rw [H3.out.2.2.2] at he
      subst he
      have hC8 := below2 (below_alloc _ _) hB8
      replace hx0 := hx0.below hC8
      replace ht0 := ht0.below hC8
      replace hv0 := hv0.below hC8
      replace hx2 := hx2.below hC8
      replace ht2 := ht2.below hC8
      replace hv2 := hv2.below hC8
      replace hx6 := hx6.below hC8
      replace ht6 := ht6.below hC8
      replace hv6 := hv6.below hC8
      have hx7 := (Bx.new w7 _ _).below hB8
      replace ht7 := ht7.below hC8
      replace hv7 := hv7.below hC8
      replace hT := hT.below hC8
      replace hl := hl.below hC8
      replace hp3 := hp3.below hC8
      replace hp4 := hp4.below hC8
      replace hp5 := hp5.below hC8
      replace c00 := hx0.cells.1
      replace c01 := hx0.cells.2.1
      replace l0 := hx0.cells.2.2.2.2
      replace c20 := hx2.cells.1
      replace c21 := hx2.cells.2.1
      replace l2 := hx2.cells.2.2.2.2
      replace c60 := hx6.cells.1
      replace c61 := hx6.cells.2.1
      replace l6 := hx6.cells.2.2.2.2
      have c70 := hx7.cells.1
      have c71 := hx7.cells.2.1
      have l7 := hx7.cells.2.2.2.2
      replace hBB := below2 hBB hC8
      obtain ⟨ab8, nb8, cb8, aw8, nw8, cw8, rfl, rfl, hnb8, hnw8⟩ := ho8.forms
      have ht8 := ho8.texts
      have hv8 := ho8.wrs
      have N8 := Lib.hid (And.intro hnb8 hnw8)
      clear hnb8 hnw8
      rw [H3.out.2.1] at ht8
      rw [H3.out.2.2.1] at hv8
      go_wp2_with fail
      refine (refAll_calls7 _ _ _ _ _ _ _ l k _ (ht2.below (below_alloc _ _)) (hv2.below (below_alloc _ _)) (hp3.below (below_alloc _ _)) (by omega)).mono ?_
      rintro e w9 ⟨vb9, vw9, he, ho9, hB9⟩
      rw [H3.out.1] at he
      rw [H3.out.2.2.2] at he
      subst he
      have hC9 := below2 (below_alloc _ _) hB9
      replace hx0 := hx0.below hC9
      replace ht0 := ht0.below hC9
      replace hv0 := hv0.below hC9
      replace hx2 := hx2.below hC9
      replace ht2 := ht2.below hC9
      replace hv2 := hv2.below hC9
      replace hx6 := hx6.below hC9
      replace ht6 := ht6.below hC9
      replace hv6 := hv6.below hC9
      replace hx7 := hx7.below hC9
      replace ht7 := ht7.below hC9
      replace hv7 := hv7.below hC9
      have hx8 := (Bx.new w8 _ _).below hB9
      replace ht8 := ht8.below hC9
      replace hv8 := hv8.below hC9
      replace hT := hT.below hC9
      replace hl := hl.below hC9
      replace hp3 := hp3.below hC9
      replace hp4 := hp4.below hC9
      replace hp5 := hp5.below hC9
      replace c00 := hx0.cells.1
      replace c01 := hx0.cells.2.1
      replace l0 := hx0.cells.2.2.2.2
      replace c20 := hx2.cells.1
      replace c21 := hx2.cells.2.1
      replace l2 := hx2.cells.2.2.2.2
      replace c60 := hx6.cells.1
      replace c61 := hx6.cells.2.1
      replace l6 := hx6.cells.2.2.2.2
      replace c70 := hx7.cells.1
      replace c71 := hx7.cells.2.1
      replace l7 := hx7.cells.2.2.2.2
      have c80 := hx8.cells.1
      have c81 := hx8.cells.2.1
      have l8 := hx8.cells.2.2.2.2
      replace hBB := below2 hBB hC9
      obtain ⟨ab9, nb9, cb9, aw9, nw9, cw9, rfl, rfl, hnb9, hnw9⟩ := ho9.forms
      have ht9 := ho9.texts
      have hv9 := ho9.wrs
      have N9 := Lib.hid (And.intro hnb9 hnw9)
      clear hnb9 hnw9
      rw [H3.out.2.1] at ht9
      rw [H3.out.2.2.1] at hv9
      go_wp2_with fail
      refine (room_calls _ _ _ _ _ _ _ (ht0.below (below_alloc _ _)) (hv0.below (below_alloc _ _)) (hT.below (below_alloc _ _))).mono ?_
      rintro e w10 ⟨he, hB10⟩
      rw [H1.out.1] at he
      rw [H4.out] at he
      subst he
      have hC10 := below2 (below_alloc _ _) hB10
      replace hx0 := hx0.below hC10
      replace ht0 := ht0.below hC10
      replace hv0 := hv0.below hC10
      replace hx2 := hx2.below hC10
      replace ht2 := ht2.below hC10
      replace hv2 := hv2.below hC10
      replace hx6 := hx6.below hC10
      replace ht6 := ht6.below hC10
      replace hv6 := hv6.below hC10
      replace hx7 := hx7.below hC10
      replace ht7 := ht7.below hC10
      replace hv7 := hv7.below hC10
      replace hx8 := hx8.below hC10
      replace ht8 := ht8.below hC10
      replace hv8 := hv8.below hC10
      have hx9 := (Bx.new w9 _ _).below hB10
      replace ht9 := ht9.below hC10
      replace hv9 := hv9.below hC10
      replace hT := hT.below hC10
      replace hl := hl.below hC10
      replace hp3 := hp3.below hC10
      replace hp4 := hp4.below hC10
      replace hp5 := hp5.below hC10
      replace c00 := hx0.cells.1
      replace c01 := hx0.cells.2.1
      replace l0 := hx0.cells.2.2.2.2
      replace c20 := hx2.cells.1
      replace c21 := hx2.cells.2.1
      replace l2 := hx2.cells.2.2.2.2
      replace c60 := hx6.cells.1
      replace c61 := hx6.cells.2.1
      replace l6 := hx6.cells.2.2.2.2
      replace c70 := hx7.cells.1
      replace c71 := hx7.cells.2.1
      replace l7 := hx7.cells.2.2.2.2
      replace c80 := hx8.cells.1
      replace c81 := hx8.cells.2.1
      replace l8 := hx8.cells.2.2.2.2
      have c90 := hx9.cells.1
      have c91 := hx9.cells.2.1
      have l9 := hx9.cells.2.2.2.2
      replace hBB := below2 hBB hC10
      go_wp2_with fail
      refine (refRoom_calls _ _ _ _ _ _ _ ht2 hv2).mono ?_
      rintro e w11 ⟨he, hB11⟩
      rw [H1.out.1] at he
      rw [H4.out] at he
      subst he
      have hC11 := hB11
      replace hx0 := hx0.below hC11
      replace ht0 := ht0.below hC11
      replace hv0 := hv0.below hC11
      replace hx2 := hx2.below hC11
      replace ht2 := ht2.below hC11
      replace hv2 := hv2.below hC11
      replace hx6 := hx6.below hC11
      replace ht6 := ht6.below hC11
      replace hv6 := hv6.below hC11
      replace hx7 := hx7.below hC11
      replace ht7 := ht7.below hC11
      replace hv7 := hv7.below hC11
      replace hx8 := hx8.below hC11
      replace ht8 := ht8.below hC11
      replace hv8 := hv8.below hC11
      replace hx9 := hx9.below hC11
      replace ht9 := ht9.below hC11
      replace hv9 := hv9.below hC11
      replace hT := hT.below hC11
      replace hl := hl.below hC11
      replace hp3 := hp3.below hC11
      replace hp4 := hp4.below hC11
      replace hp5 := hp5.below hC11
      replace c00 := hx0.cells.1
      replace c01 := hx0.cells.2.1
      replace l0 := hx0.cells.2.2.2.2
      replace c20 := hx2.cells.1
      replace c21 := hx2.cells.2.1
      replace l2 := hx2.cells.2.2.2.2
      replace c60 := hx6.cells.1
      replace c61 := hx6.cells.2.1
      replace l6 := hx6.cells.2.2.2.2
      replace c70 := hx7.cells.1
      replace c71 := hx7.cells.2.1
      replace l7 := hx7.cells.2.2.2.2
      replace c80 := hx8.cells.1
      replace c81 := hx8.cells.2.1
      replace l8 := hx8.cells.2.2.2.2
      replace c90 := hx9.cells.1
      replace c91 := hx9.cells.2.1
      replace l9 := hx9.cells.2.2.2.2
      replace hBB := below2 hBB hC11
      go_wp2_with fail
      refine (logged_calls _ hT).mono ?_
      rintro e w12 ⟨he, hB12⟩
      subst he
      have hC12 := hB12
      replace hx0 := hx0.below hC12
      replace ht0 := ht0.below hC12
      replace hv0 := hv0.below hC12
      replace hx2 := hx2.below hC12
      replace ht2 := ht2.below hC12
      replace hv2 := hv2.below hC12
      replace hx6 := hx6.below hC12
      replace ht6 := ht6.below hC12
      replace hv6 := hv6.below hC12
      replace hx7 := hx7.below hC12
      replace ht7 := ht7.below hC12
      replace hv7 := hv7.below hC12
      replace hx8 := hx8.below hC12
      replace ht8 := ht8.below hC12
      replace hv8 := hv8.below hC12
      replace hx9 := hx9.below hC12
      replace ht9 := ht9.below hC12
      replace hv9 := hv9.below hC12
      replace hT := hT.below hC12
      replace hl := hl.below hC12
      replace hp3 := hp3.below hC12
      replace hp4 := hp4.below hC12
      replace hp5 := hp5.below hC12
      replace c00 := hx0.cells.1
      replace c01 := hx0.cells.2.1
      replace l0 := hx0.cells.2.2.2.2
      replace c20 := hx2.cells.1
      replace c21 := hx2.cells.2.1
      replace l2 := hx2.cells.2.2.2.2
      replace c60 := hx6.cells.1
      replace c61 := hx6.cells.2.1
      replace l6 := hx6.cells.2.2.2.2
      replace c70 := hx7.cells.1
      replace c71 := hx7.cells.2.1
      replace l7 := hx7.cells.2.2.2.2
      replace c80 := hx8.cells.1
      replace c81 := hx8.cells.2.1
      replace l8 := hx8.cells.2.2.2.2
      replace c90 := hx9.cells.1
      replace c91 := hx9.cells.2.1
      replace l9 := hx9.cells.2.2.2.2
      replace hBB := below2 hBB hC12
      go_wp2_with fail
      refine (texts_calls _ _ _ _ _ hp4.strs hp5.strs (by omega)).mono ?_
      rintro e w13 ⟨he, hB13⟩
      rw [show decide ((OL : List (List UInt8)) = OL) = true from decide_eq_true rfl] at he
      subst he
      have hC13 := hB13
      replace hx0 := hx0.below hC13
      replace ht0 := ht0.below hC13
      replace hv0 := hv0.below hC13
      replace hx2 := hx2.below hC13
      replace ht2 := ht2.below hC13
      replace hv2 := hv2.below hC13
      replace hx6 := hx6.below hC13
      replace ht6 := ht6.below hC13
      replace hv6 := hv6.below hC13
      replace hx7 := hx7.below hC13
      replace ht7 := ht7.below hC13
      replace hv7 := hv7.below hC13
      replace hx8 := hx8.below hC13
      replace ht8 := ht8.below hC13
      replace hv8 := hv8.below hC13
      replace hx9 := hx9.below hC13
      replace ht9 := ht9.below hC13
      replace hv9 := hv9.below hC13
      replace hT := hT.below hC13
      replace hl := hl.below hC13
      replace hp3 := hp3.below hC13
      replace hp4 := hp4.below hC13
      replace hp5 := hp5.below hC13
      replace c00 := hx0.cells.1
      replace c01 := hx0.cells.2.1
      replace l0 := hx0.cells.2.2.2.2
      replace c20 := hx2.cells.1
      replace c21 := hx2.cells.2.1
      replace l2 := hx2.cells.2.2.2.2
      replace c60 := hx6.cells.1
      replace c61 := hx6.cells.2.1
      replace l6 := hx6.cells.2.2.2.2
      replace c70 := hx7.cells.1
      replace c71 := hx7.cells.2.1
      replace l7 := hx7.cells.2.2.2.2
      replace c80 := hx8.cells.1
      replace c81 := hx8.cells.2.1
      replace l8 := hx8.cells.2.2.2.2
      replace c90 := hx9.cells.1
      replace c91 := hx9.cells.2.1
      replace l9 := hx9.cells.2.2.2.2
      replace hBB := below2 hBB hC13
      go_wp2_with fail
      refine (same_calls _ _ _ _ _ _ _ _ _ ht6 hv6 ht7 hv7 (by omega) (by omega)).mono ?_
      rintro e w14 ⟨he, hB14⟩
      rw [sameD_refl] at he
      subst he
      have hC14 := hB14
      replace hx0 := hx0.below hC14
      replace ht0 := ht0.below hC14
      replace hv0 := hv0.below hC14
      replace hx2 := hx2.below hC14
      replace ht2 := ht2.below hC14
      replace hv2 := hv2.below hC14
      replace hx6 := hx6.below hC14
      replace ht6 := ht6.below hC14
      replace hv6 := hv6.below hC14
      replace hx7 := hx7.below hC14
      replace ht7 := ht7.below hC14
      replace hv7 := hv7.below hC14
      replace hx8 := hx8.below hC14
      replace ht8 := ht8.below hC14
      replace hv8 := hv8.below hC14
      replace hx9 := hx9.below hC14
      replace ht9 := ht9.below hC14
      replace hv9 := hv9.below hC14
      replace hT := hT.below hC14
      replace hl := hl.below hC14
      replace hp3 := hp3.below hC14
      replace hp4 := hp4.below hC14
      replace hp5 := hp5.below hC14
      replace c00 := hx0.cells.1
      replace c01 := hx0.cells.2.1
      replace l0 := hx0.cells.2.2.2.2
      replace c20 := hx2.cells.1
      replace c21 := hx2.cells.2.1
      replace l2 := hx2.cells.2.2.2.2
      replace c60 := hx6.cells.1
      replace c61 := hx6.cells.2.1
      replace l6 := hx6.cells.2.2.2.2
      replace c70 := hx7.cells.1
      replace c71 := hx7.cells.2.1
      replace l7 := hx7.cells.2.2.2.2
      replace c80 := hx8.cells.1
      replace c81 := hx8.cells.2.1
      replace l8 := hx8.cells.2.2.2.2
      replace c90 := hx9.cells.1
      replace c91 := hx9.cells.2.1
      replace l9 := hx9.cells.2.2.2.2
      replace hBB := below2 hBB hC14
      go_wp2_with fail
      refine (same_calls _ _ _ _ _ _ _ _ _ ht8 hv8 ht9 hv9 (by omega) (by omega)).mono ?_
      rintro e w15 ⟨he, hB15⟩
      rw [sameD_refl] at he
      subst he
      have hC15 := hB15
      replace hx0 := hx0.below hC15
      replace ht0 := ht0.below hC15
      replace hv0 := hv0.below hC15
      replace hx2 := hx2.below hC15
      replace ht2 := ht2.below hC15
      replace hv2 := hv2.below hC15
      replace hx6 := hx6.below hC15
      replace ht6 := ht6.below hC15
      replace hv6 := hv6.below hC15
      replace hx7 := hx7.below hC15
      replace ht7 := ht7.below hC15
      replace hv7 := hv7.below hC15
      replace hx8 := hx8.below hC15
      replace ht8 := ht8.below hC15
      replace hv8 := hv8.below hC15
      replace hx9 := hx9.below hC15
      replace ht9 := ht9.below hC15
      replace hv9 := hv9.below hC15
      replace hT := hT.below hC15
      replace hl := hl.below hC15
      replace hp3 := hp3.below hC15
      replace hp4 := hp4.below hC15
      replace hp5 := hp5.below hC15
      replace c00 := hx0.cells.1
      replace c01 := hx0.cells.2.1
      replace l0 := hx0.cells.2.2.2.2
      replace c20 := hx2.cells.1
      replace c21 := hx2.cells.2.1
      replace l2 := hx2.cells.2.2.2.2
      replace c60 := hx6.cells.1
      replace c61 := hx6.cells.2.1
      replace l6 := hx6.cells.2.2.2.2
      replace c70 := hx7.cells.1
      replace c71 := hx7.cells.2.1
      replace l7 := hx7.cells.2.2.2.2
      replace c80 := hx8.cells.1
      replace c81 := hx8.cells.2.1
      replace l8 := hx8.cells.2.2.2.2
      replace c90 := hx9.cells.1
      replace c91 := hx9.cells.2.1
      replace l9 := hx9.cells.2.2.2.2
      replace hBB := below2 hBB hC15
      go_wp2_with fail
      refine (same_calls _ _ _ _ _ _ _ _ _ ht0 hv0 ht2 hv2 (by omega) (by omega)).mono ?_
      rintro e w16 ⟨he, hB16⟩
      rw [sameD_refl] at he
      subst he
      have hC16 := hB16
      replace hx0 := hx0.below hC16
      replace ht0 := ht0.below hC16
      replace hv0 := hv0.below hC16
      replace hx2 := hx2.below hC16
      replace ht2 := ht2.below hC16
      replace hv2 := hv2.below hC16
      replace hx6 := hx6.below hC16
      replace ht6 := ht6.below hC16
      replace hv6 := hv6.below hC16
      replace hx7 := hx7.below hC16
      replace ht7 := ht7.below hC16
      replace hv7 := hv7.below hC16
      replace hx8 := hx8.below hC16
      replace ht8 := ht8.below hC16
      replace hv8 := hv8.below hC16
      replace hx9 := hx9.below hC16
      replace ht9 := ht9.below hC16
      replace hv9 := hv9.below hC16
      replace hT := hT.below hC16
      replace hl := hl.below hC16
      replace hp3 := hp3.below hC16
      replace hp4 := hp4.below hC16
      replace hp5 := hp5.below hC16
      replace c00 := hx0.cells.1
      replace c01 := hx0.cells.2.1
      replace l0 := hx0.cells.2.2.2.2
      replace c20 := hx2.cells.1
      replace c21 := hx2.cells.2.1
      replace l2 := hx2.cells.2.2.2.2
      replace c60 := hx6.cells.1
      replace c61 := hx6.cells.2.1
      replace l6 := hx6.cells.2.2.2.2
      replace c70 := hx7.cells.1
      replace c71 := hx7.cells.2.1
      replace l7 := hx7.cells.2.2.2.2
      replace c80 := hx8.cells.1
      replace c81 := hx8.cells.2.1
      replace l8 := hx8.cells.2.2.2.2
      replace c90 := hx9.cells.1
      replace c91 := hx9.cells.2.1
      replace l9 := hx9.cells.2.2.2.2
      replace hBB := below2 hBB hC16
      go_wp2_with fail
      refine (texts_calls _ _ _ _ _ hl.strs hp3.strs (by omega)).mono ?_
      rintro e w17 ⟨he, hB17⟩
      rw [show decide ((l : List (List UInt8)) = l) = true from decide_eq_true rfl] at he
      subst he
      have hC17 := hB17
      replace hx0 := hx0.below hC17
      replace ht0 := ht0.below hC17
      replace hv0 := hv0.below hC17
      replace hx2 := hx2.below hC17
      replace ht2 := ht2.below hC17
      replace hv2 := hv2.below hC17
      replace hx6 := hx6.below hC17
      replace ht6 := ht6.below hC17
      replace hv6 := hv6.below hC17
      replace hx7 := hx7.below hC17
      replace ht7 := ht7.below hC17
      replace hv7 := hv7.below hC17
      replace hx8 := hx8.below hC17
      replace ht8 := ht8.below hC17
      replace hv8 := hv8.below hC17
      replace hx9 := hx9.below hC17
      replace ht9 := ht9.below hC17
      replace hv9 := hv9.below hC17
      replace hT := hT.below hC17
      replace hl := hl.below hC17
      replace hp3 := hp3.below hC17
      replace hp4 := hp4.below hC17
      replace hp5 := hp5.below hC17
      replace c00 := hx0.cells.1
      replace c01 := hx0.cells.2.1
      replace l0 := hx0.cells.2.2.2.2
      replace c20 := hx2.cells.1
      replace c21 := hx2.cells.2.1
      replace l2 := hx2.cells.2.2.2.2
      replace c60 := hx6.cells.1
      replace c61 := hx6.cells.2.1
      replace l6 := hx6.cells.2.2.2.2
      replace c70 := hx7.cells.1
      replace c71 := hx7.cells.2.1
      replace l7 := hx7.cells.2.2.2.2
      replace c80 := hx8.cells.1
      replace c81 := hx8.cells.2.1
      replace l8 := hx8.cells.2.2.2.2
      replace c90 := hx9.cells.1
      replace c91 := hx9.cells.2.1
      replace l9 := hx9.cells.2.2.2.2
      replace hBB := below2 hBB hC17
      go_wp2_with fail
      go_ret
      exact ⟨rfl, hBB⟩
    · have d0 : decide ((0 : Int) < (l.length : Int)) = false := decide_eq_false (by omega)
      have d0' : decide (0 < l.length) = false := decide_eq_false h0
      obtain ⟨E0, hE0⟩ : ∃ x, waE bs ws i e = x := ⟨_, rfl⟩
      obtain ⟨OL, hOL⟩ : ∃ x, openL bs ws i e = x := ⟨_, rfl⟩
      obtain ⟨AE, hAE⟩ : ∃ x, appE bs ws i e [120] = x := ⟨_, rfl⟩
      obtain ⟨AB, hAB⟩ : ∃ x, appBs bs ws i e [120] = x := ⟨_, rfl⟩
      obtain ⟨AW, hAW⟩ : ∃ x, appWs bs ws i e [120] = x := ⟨_, rfl⟩
      obtain ⟨LE, hLE⟩ : ∃ x, allE bs ws i e l k = x := ⟨_, rfl⟩
      obtain ⟨LB, hLB⟩ : ∃ x, allBs bs ws i e l k = x := ⟨_, rfl⟩
      obtain ⟨LW, hLW⟩ : ∃ x, allWs bs ws i e l k = x := ⟨_, rfl⟩
      obtain ⟨LD, hLD⟩ : ∃ x, allD bs ws i e l k = x := ⟨_, rfl⟩
      obtain ⟨RN, hRN⟩ : ∃ x, roomN bs ws i e = x := ⟨_, rfl⟩
      have s1 := app_small bs ws i e [120]
      have s2 := all_small bs ws i e l k
      have s3 := openL_small bs ws i e
      rw [hAB, hAW] at s1
      rw [hLB, hLW] at s2
      rw [hOL] at s3
      obtain ⟨s1, s1'⟩ := s1
      obtain ⟨s2, s2'⟩ := s2
      have H1 := Lib.hid (And.intro hE0 hOL)
      have H2 := Lib.hid (And.intro hAE (And.intro hAB hAW))
      have H3 := Lib.hid (And.intro hLE (And.intro hLB (And.intro hLW hLD)))
      have H4 := Lib.hid hRN
      clear hE0 hOL hAE hAB hAW hLE hLB hLW hLD hRN
      go_enter Tryd.func3, Tryd.ntmps3
      go_wp2_with fail
      refine (wfar_calls _ _ _ _ _ l _ (ht0.below (below_alloc _ _)) (hv0.below (below_alloc _ _)) (hl.below (below_alloc _ _)) hlm).mono ?_
      rintro e w1 ⟨he, hB1⟩
      rw [HF.out] at he
      subst he
      have hC1 := below2 (below_alloc _ _) hB1
      have hx0 := (Bx.new w0 _ _).below hB1
      replace ht0 := ht0.below hC1
      replace hv0 := hv0.below hC1
      replace hT := hT.below hC1
      replace hl := hl.below hC1
      have c00 := hx0.cells.1
      have c01 := hx0.cells.2.1
      have l0 := hx0.cells.2.2.2.2
      replace hBB := below2 hBB hC1
      go_wp2_with fail
      refine (refOwn_calls _ _ _ _ _ ht0 hv0 (by omega) (by omega)).mono ?_
      rintro e w2 ⟨vb2, vw2, he, ho2, hB2⟩
      subst he
      have hC2 := hB2
      replace hx0 := hx0.below hC2
      replace ht0 := ht0.below hC2
      replace hv0 := hv0.below hC2
      replace hT := hT.below hC2
      replace hl := hl.below hC2
      replace c00 := hx0.cells.1
      replace c01 := hx0.cells.2.1
      replace l0 := hx0.cells.2.2.2.2
      replace hBB := below2 hBB hC2
      obtain ⟨ab2, nb2, cb2, aw2, nw2, cw2, rfl, rfl, hnb2, hnw2⟩ := ho2.forms
      have ht2 := ho2.texts
      have hv2 := ho2.wrs
      have N2 := Lib.hid (And.intro hnb2 hnw2)
      clear hnb2 hnw2
      go_wp2_with fail
      refine (ownT_calls _ _ _ (hl.below (below_alloc _ _)).strs (by omega)).mono ?_
      rintro e w3 ⟨vp3, he, ho3, hB3⟩
      subst he
      have hC3 := below2 (below_alloc _ _) hB3
      replace hx0 := hx0.below hC3
      replace ht0 := ht0.below hC3
      replace hv0 := hv0.below hC3
      have hx2 := (Bx.new w2 _ _).below hB3
      replace ht2 := ht2.below hC3
      replace hv2 := hv2.below hC3
      replace hT := hT.below hC3
      replace hl := hl.below hC3
      replace c00 := hx0.cells.1
      replace c01 := hx0.cells.2.1
      replace l0 := hx0.cells.2.2.2.2
      have c20 := hx2.cells.1
      have c21 := hx2.cells.2.1
      have l2 := hx2.cells.2.2.2.2
      replace hBB := below2 hBB hC3
      have hp3 := Txts.own ho3
      clear ho3
      obtain ⟨ap3, cp3, rfl⟩ := hp3.strs.form
      go_wp2_with fail
      refine (waopen_calls _ _ _ _ _ _ _ ht0 hv0 hT).mono ?_
      rintro e w4 ⟨vp4, he, ho4, hB4⟩
      rw [H1.out.1] at he
      rw [H1.out.2] at ho4
      subst he
      have hC4 := hB4
      replace hx0 := hx0.below hC4
      replace ht0 := ht0.below hC4
      replace hv0 := hv0.below hC4
      replace hx2 := hx2.below hC4
      replace ht2 := ht2.below hC4
      replace hv2 := hv2.below hC4
      replace hT := hT.below hC4
      replace hl := hl.below hC4
      replace hp3 := hp3.below hC4
      replace c00 := hx0.cells.1
      replace c01 := hx0.cells.2.1
      replace l0 := hx0.cells.2.2.2.2
      replace c20 := hx2.cells.1
      replace c21 := hx2.cells.2.1
      replace l2 := hx2.cells.2.2.2.2
      replace hBB := below2 hBB hC4
      have hp4 := Txts.own ho4
      clear ho4
      obtain ⟨ap4, cp4, rfl⟩ := hp4.strs.form
      go_wp2_with fail
      refine (refOpen_calls _ _ _ _ _ _ _ ht2 hv2).mono ?_
      rintro e w5 ⟨vp5, he, ho5, hB5⟩
      rw [H1.out.1] at he
      rw [H1.out.2] at ho5
      subst he
      have hC5 := hB5
      replace hx0 := hx0.below hC5
      replace ht0 := ht0.below hC5
      replace hv0 := hv0.below hC5
      replace hx2 := hx2.below hC5
      replace ht2 := ht2.below hC5
      replace hv2 := hv2.below hC5
      replace hT := hT.below hC5
      replace hl := hl.below hC5
      replace hp3 := hp3.below hC5
      replace hp4 := hp4.below hC5
      replace c00 := hx0.cells.1
      replace c01 := hx0.cells.2.1
      replace l0 := hx0.cells.2.2.2.2
      replace c20 := hx2.cells.1
      replace c21 := hx2.cells.2.1
      replace l2 := hx2.cells.2.2.2.2
      replace hBB := below2 hBB hC5
      have hp5 := Txts.own ho5
      clear ho5
      obtain ⟨ap5, cp5, rfl⟩ := hp5.strs.form
      go_wp2_with fail
      refine (append_calls _ _ _ _ _ _ [120] _ ht0 hv0 hT).mono ?_
      rintro e w6 ⟨vb6, vw6, he, ho6, hB6⟩
      rw [H2.out.1] at he
      subst he
      have hC6 := hB6
      replace hx0 := hx0.below hC6
      replace ht0 := ht0.below hC6
      replace hv0 := hv0.below hC6
      replace hx2 := hx2.below hC6
      replace ht2 := ht2.below hC6
      replace hv2 := hv2.below hC6
      replace hT := hT.below hC6
      replace hl := hl.below hC6
      replace hp3 := hp3.below hC6
      replace hp4 := hp4.below hC6
      replace hp5 := hp5.below hC6
      replace c00 := hx0.cells.1
      replace c01 := hx0.cells.2.1
      replace l0 := hx0.cells.2.2.2.2
      replace c20 := hx2.cells.1
      replace c21 := hx2.cells.2.1
      replace l2 := hx2.cells.2.2.2.2
      replace hBB := below2 hBB hC6
      obtain ⟨ab6, nb6, cb6, aw6, nw6, cw6, rfl, rfl, hnb6, hnw6⟩ := ho6.forms
      have ht6 := ho6.texts
      have hv6 := ho6.wrs
      have N6 := Lib.hid (And.intro hnb6 hnw6)
      clear hnb6 hnw6
      rw [H2.out.2.1] at ht6
      rw [H2.out.2.2] at hv6
      go_wp2_with fail
      refine (refAppend_calls _ _ _ _ _ _ [120] _ (ht2.below (below_alloc _ _)) (hv2.below (below_alloc _ _))).mono ?_
      rintro e w7 ⟨vb7, vw7, he, ho7, hB7⟩
      rw [H2.out.1] at he
      subst he
      have hC7 := below2 (below_alloc _ _) hB7
      replace hx0 := hx0.below hC7
      replace ht0 := ht0.below hC7
      replace hv0 := hv0.below hC7
      replace hx2 := hx2.below hC7
      replace ht2 := ht2.below hC7
      replace hv2 := hv2.below hC7
      have hx6 := (Bx.new w6 _ _).below hB7
      replace ht6 := ht6.below hC7
      replace hv6 := hv6.below hC7
      replace hT := hT.below hC7
      replace hl := hl.below hC7
      replace hp3 := hp3.below hC7
      replace hp4 := hp4.below hC7
      replace hp5 := hp5.below hC7
      replace c00 := hx0.cells.1
      replace c01 := hx0.cells.2.1
      replace l0 := hx0.cells.2.2.2.2
      replace c20 := hx2.cells.1
      replace c21 := hx2.cells.2.1
      replace l2 := hx2.cells.2.2.2.2
      have c60 := hx6.cells.1
      have c61 := hx6.cells.2.1
      have l6 := hx6.cells.2.2.2.2
      replace hBB := below2 hBB hC7
      obtain ⟨ab7, nb7, cb7, aw7, nw7, cw7, rfl, rfl, hnb7, hnw7⟩ := ho7.forms
      have ht7 := ho7.texts
      have hv7 := ho7.wrs
      have N7 := Lib.hid (And.intro hnb7 hnw7)
      clear hnb7 hnw7
      rw [H2.out.2.1] at ht7
      rw [H2.out.2.2] at hv7
      go_wp2_with fail
      refine (walAll_calls _ _ _ _ _ _ _ l k _ (ht0.below (below_alloc _ _)) (hv0.below (below_alloc _ _)) (hl.below (below_alloc _ _)) (by omega) (hT.below (below_alloc _ _))).mono ?_
      rintro e w8 ⟨vb8, vw8, he, ho8, hB8⟩
      rw [H3.out.1] at he
      rw [H3.out.2.2.2] at he
      subst he
      have hC8 := below2 (below_alloc _ _) hB8
      replace hx0 := hx0.below hC8
      replace ht0 := ht0.below hC8
      replace hv0 := hv0.below hC8
      replace hx2 := hx2.below hC8
      replace ht2 := ht2.below hC8
      replace hv2 := hv2.below hC8
      replace hx6 := hx6.below hC8
      replace ht6 := ht6.below hC8
      replace hv6 := hv6.below hC8
      have hx7 := (Bx.new w7 _ _).below hB8
      replace ht7 := ht7.below hC8
      replace hv7 := hv7.below hC8
      replace hT := hT.below hC8
      replace hl := hl.below hC8
      replace hp3 := hp3.below hC8
      replace hp4 := hp4.below hC8
      replace hp5 := hp5.below hC8
      replace c00 := hx0.cells.1
      replace c01 := hx0.cells.2.1
      replace l0 := hx0.cells.2.2.2.2
      replace c20 := hx2.cells.1
      replace c21 := hx2.cells.2.1
      replace l2 := hx2.cells.2.2.2.2
      replace c60 := hx6.cells.1
      replace c61 := hx6.cells.2.1
      replace l6 := hx6.cells.2.2.2.2
      have c70 := hx7.cells.1
      have c71 := hx7.cells.2.1
      have l7 := hx7.cells.2.2.2.2
      replace hBB := below2 hBB hC8
      obtain ⟨ab8, nb8, cb8, aw8, nw8, cw8, rfl, rfl, hnb8, hnw8⟩ := ho8.forms
      have ht8 := ho8.texts
      have hv8 := ho8.wrs
      have N8 := Lib.hid (And.intro hnb8 hnw8)
      clear hnb8 hnw8
      rw [H3.out.2.1] at ht8
      rw [H3.out.2.2.1] at hv8
      go_wp2_with fail
      refine (refAll_calls7 _ _ _ _ _ _ _ l k _ (ht2.below (below_alloc _ _)) (hv2.below (below_alloc _ _)) (hp3.below (below_alloc _ _)) (by omega)).mono ?_
      rintro e w9 ⟨vb9, vw9, he, ho9, hB9⟩
      rw [H3.out.1] at he
      rw [H3.out.2.2.2] at he
      subst he
      have hC9 := below2 (below_alloc _ _) hB9
      replace hx0 := hx0.below hC9
      replace ht0 := ht0.below hC9
      replace hv0 := hv0.below hC9
      replace hx2 := hx2.below hC9
      replace ht2 := ht2.below hC9
      replace hv2 := hv2.below hC9
      replace hx6 := hx6.below hC9
      replace ht6 := ht6.below hC9
      replace hv6 := hv6.below hC9
      replace hx7 := hx7.below hC9
      replace ht7 := ht7.below hC9
      replace hv7 := hv7.below hC9
      have hx8 := (Bx.new w8 _ _).below hB9
      replace ht8 := ht8.below hC9
      replace hv8 := hv8.below hC9
      replace hT := hT.below hC9
      replace hl := hl.below hC9
      replace hp3 := hp3.below hC9
      replace hp4 := hp4.below hC9
      replace hp5 := hp5.below hC9
      replace c00 := hx0.cells.1
      replace c01 := hx0.cells.2.1
      replace l0 := hx0.cells.2.2.2.2
      replace c20 := hx2.cells.1
      replace c21 := hx2.cells.2.1
      replace l2 := hx2.cells.2.2.2.2
      replace c60 := hx6.cells.1
      replace c61 := hx6.cells.2.1
      replace l6 := hx6.cells.2.2.2.2
      replace c70 := hx7.cells.1
      replace c71 := hx7.cells.2.1
      replace l7 := hx7.cells.2.2.2.2
      have c80 := hx8.cells.1
      have c81 := hx8.cells.2.1
      have l8 := hx8.cells.2.2.2.2
      replace hBB := below2 hBB hC9
      obtain ⟨ab9, nb9, cb9, aw9, nw9, cw9, rfl, rfl, hnb9, hnw9⟩ := ho9.forms
      have ht9 := ho9.texts
      have hv9 := ho9.wrs
      have N9 := Lib.hid (And.intro hnb9 hnw9)
      clear hnb9 hnw9
      rw [H3.out.2.1] at ht9
      rw [H3.out.2.2.1] at hv9
      go_wp2_with fail
      refine (room_calls _ _ _ _ _ _ _ (ht0.below (below_alloc _ _)) (hv0.below (below_alloc _ _)) (hT.below (below_alloc _ _))).mono ?_
      rintro e w10 ⟨he, hB10⟩
      rw [H1.out.1] at he
      rw [H4.out] at he
      subst he
      have hC10 := below2 (below_alloc _ _) hB10
      replace hx0 := hx0.below hC10
      replace ht0 := ht0.below hC10
      replace hv0 := hv0.below hC10
      replace hx2 := hx2.below hC10
      replace ht2 := ht2.below hC10
      replace hv2 := hv2.below hC10
      replace hx6 := hx6.below hC10
      replace ht6 := ht6.below hC10
      replace hv6 := hv6.below hC10
      replace hx7 := hx7.below hC10
      replace ht7 := ht7.below hC10
      replace hv7 := hv7.below hC10
      replace hx8 := hx8.below hC10
      replace ht8 := ht8.below hC10
      replace hv8 := hv8.below hC10
      have hx9 := (Bx.new w9 _ _).below hB10
      replace ht9 := ht9.below hC10
      replace hv9 := hv9.below hC10
      replace hT := hT.below hC10
      replace hl := hl.below hC10
      replace hp3 := hp3.below hC10
      replace hp4 := hp4.below hC10
      replace hp5 := hp5.below hC10
      replace c00 := hx0.cells.1
      replace c01 := hx0.cells.2.1
      replace l0 := hx0.cells.2.2.2.2
      replace c20 := hx2.cells.1
      replace c21 := hx2.cells.2.1
      replace l2 := hx2.cells.2.2.2.2
      replace c60 := hx6.cells.1
      replace c61 := hx6.cells.2.1
      replace l6 := hx6.cells.2.2.2.2
      replace c70 := hx7.cells.1
      replace c71 := hx7.cells.2.1
      replace l7 := hx7.cells.2.2.2.2
      replace c80 := hx8.cells.1
      replace c81 := hx8.cells.2.1
      replace l8 := hx8.cells.2.2.2.2
      have c90 := hx9.cells.1
      have c91 := hx9.cells.2.1
      have l9 := hx9.cells.2.2.2.2
      replace hBB := below2 hBB hC10
      go_wp2_with fail
      refine (refRoom_calls _ _ _ _ _ _ _ ht2 hv2).mono ?_
      rintro e w11 ⟨he, hB11⟩
      rw [H1.out.1] at he
      rw [H4.out] at he
      subst he
      have hC11 := hB11
      replace hx0 := hx0.below hC11
      replace ht0 := ht0.below hC11
      replace hv0 := hv0.below hC11
      replace hx2 := hx2.below hC11
      replace ht2 := ht2.below hC11
      replace hv2 := hv2.below hC11
      replace hx6 := hx6.below hC11
      replace ht6 := ht6.below hC11
      replace hv6 := hv6.below hC11
      replace hx7 := hx7.below hC11
      replace ht7 := ht7.below hC11
      replace hv7 := hv7.below hC11
      replace hx8 := hx8.below hC11
      replace ht8 := ht8.below hC11
      replace hv8 := hv8.below hC11
      replace hx9 := hx9.below hC11
      replace ht9 := ht9.below hC11
      replace hv9 := hv9.below hC11
      replace hT := hT.below hC11
      replace hl := hl.below hC11
      replace hp3 := hp3.below hC11
      replace hp4 := hp4.below hC11
      replace hp5 := hp5.below hC11
      replace c00 := hx0.cells.1
      replace c01 := hx0.cells.2.1
      replace l0 := hx0.cells.2.2.2.2
      replace c20 := hx2.cells.1
      replace c21 := hx2.cells.2.1
      replace l2 := hx2.cells.2.2.2.2
      replace c60 := hx6.cells.1
      replace c61 := hx6.cells.2.1
      replace l6 := hx6.cells.2.2.2.2
      replace c70 := hx7.cells.1
      replace c71 := hx7.cells.2.1
      replace l7 := hx7.cells.2.2.2.2
      replace c80 := hx8.cells.1
      replace c81 := hx8.cells.2.1
      replace l8 := hx8.cells.2.2.2.2
      replace c90 := hx9.cells.1
      replace c91 := hx9.cells.2.1
      replace l9 := hx9.cells.2.2.2.2
      replace hBB := below2 hBB hC11
      go_wp2_with fail
      refine (logged_calls _ hT).mono ?_
      rintro e w12 ⟨he, hB12⟩
      subst he
      have hC12 := hB12
      replace hx0 := hx0.below hC12
      replace ht0 := ht0.below hC12
      replace hv0 := hv0.below hC12
      replace hx2 := hx2.below hC12
      replace ht2 := ht2.below hC12
      replace hv2 := hv2.below hC12
      replace hx6 := hx6.below hC12
      replace ht6 := ht6.below hC12
      replace hv6 := hv6.below hC12
      replace hx7 := hx7.below hC12
      replace ht7 := ht7.below hC12
      replace hv7 := hv7.below hC12
      replace hx8 := hx8.below hC12
      replace ht8 := ht8.below hC12
      replace hv8 := hv8.below hC12
      replace hx9 := hx9.below hC12
      replace ht9 := ht9.below hC12
      replace hv9 := hv9.below hC12
      replace hT := hT.below hC12
      replace hl := hl.below hC12
      replace hp3 := hp3.below hC12
      replace hp4 := hp4.below hC12
      replace hp5 := hp5.below hC12
      replace c00 := hx0.cells.1
      replace c01 := hx0.cells.2.1
      replace l0 := hx0.cells.2.2.2.2
      replace c20 := hx2.cells.1
      replace c21 := hx2.cells.2.1
      replace l2 := hx2.cells.2.2.2.2
      replace c60 := hx6.cells.1
      replace c61 := hx6.cells.2.1
      replace l6 := hx6.cells.2.2.2.2
      replace c70 := hx7.cells.1
      replace c71 := hx7.cells.2.1
      replace l7 := hx7.cells.2.2.2.2
      replace c80 := hx8.cells.1
      replace c81 := hx8.cells.2.1
      replace l8 := hx8.cells.2.2.2.2
      replace c90 := hx9.cells.1
      replace c91 := hx9.cells.2.1
      replace l9 := hx9.cells.2.2.2.2
      replace hBB := below2 hBB hC12
      go_wp2_with fail
      refine (texts_calls _ _ _ _ _ hp4.strs hp5.strs (by omega)).mono ?_
      rintro e w13 ⟨he, hB13⟩
      rw [show decide ((OL : List (List UInt8)) = OL) = true from decide_eq_true rfl] at he
      subst he
      have hC13 := hB13
      replace hx0 := hx0.below hC13
      replace ht0 := ht0.below hC13
      replace hv0 := hv0.below hC13
      replace hx2 := hx2.below hC13
      replace ht2 := ht2.below hC13
      replace hv2 := hv2.below hC13
      replace hx6 := hx6.below hC13
      replace ht6 := ht6.below hC13
      replace hv6 := hv6.below hC13
      replace hx7 := hx7.below hC13
      replace ht7 := ht7.below hC13
      replace hv7 := hv7.below hC13
      replace hx8 := hx8.below hC13
      replace ht8 := ht8.below hC13
      replace hv8 := hv8.below hC13
      replace hx9 := hx9.below hC13
      replace ht9 := ht9.below hC13
      replace hv9 := hv9.below hC13
      replace hT := hT.below hC13
      replace hl := hl.below hC13
      replace hp3 := hp3.below hC13
      replace hp4 := hp4.below hC13
      replace hp5 := hp5.below hC13
      replace c00 := hx0.cells.1
      replace c01 := hx0.cells.2.1
      replace l0 := hx0.cells.2.2.2.2
      replace c20 := hx2.cells.1
      replace c21 := hx2.cells.2.1
      replace l2 := hx2.cells.2.2.2.2
      replace c60 := hx6.cells.1
      replace c61 := hx6.cells.2.1
      replace l6 := hx6.cells.2.2.2.2
      replace c70 := hx7.cells.1
      replace c71 := hx7.cells.2.1
      replace l7 := hx7.cells.2.2.2.2
      replace c80 := hx8.cells.1
      replace c81 := hx8.cells.2.1
      replace l8 := hx8.cells.2.2.2.2
      replace c90 := hx9.cells.1
      replace c91 := hx9.cells.2.1
      replace l9 := hx9.cells.2.2.2.2
      replace hBB := below2 hBB hC13
      go_wp2_with fail
      refine (same_calls _ _ _ _ _ _ _ _ _ ht6 hv6 ht7 hv7 (by omega) (by omega)).mono ?_
      rintro e w14 ⟨he, hB14⟩
      rw [sameD_refl] at he
      subst he
      have hC14 := hB14
      replace hx0 := hx0.below hC14
      replace ht0 := ht0.below hC14
      replace hv0 := hv0.below hC14
      replace hx2 := hx2.below hC14
      replace ht2 := ht2.below hC14
      replace hv2 := hv2.below hC14
      replace hx6 := hx6.below hC14
      replace ht6 := ht6.below hC14
      replace hv6 := hv6.below hC14
      replace hx7 := hx7.below hC14
      replace ht7 := ht7.below hC14
      replace hv7 := hv7.below hC14
      replace hx8 := hx8.below hC14
      replace ht8 := ht8.below hC14
      replace hv8 := hv8.below hC14
      replace hx9 := hx9.below hC14
      replace ht9 := ht9.below hC14
      replace hv9 := hv9.below hC14
      replace hT := hT.below hC14
      replace hl := hl.below hC14
      replace hp3 := hp3.below hC14
      replace hp4 := hp4.below hC14
      replace hp5 := hp5.below hC14
      replace c00 := hx0.cells.1
      replace c01 := hx0.cells.2.1
      replace l0 := hx0.cells.2.2.2.2
      replace c20 := hx2.cells.1
      replace c21 := hx2.cells.2.1
      replace l2 := hx2.cells.2.2.2.2
      replace c60 := hx6.cells.1
      replace c61 := hx6.cells.2.1
      replace l6 := hx6.cells.2.2.2.2
      replace c70 := hx7.cells.1
      replace c71 := hx7.cells.2.1
      replace l7 := hx7.cells.2.2.2.2
      replace c80 := hx8.cells.1
      replace c81 := hx8.cells.2.1
      replace l8 := hx8.cells.2.2.2.2
      replace c90 := hx9.cells.1
      replace c91 := hx9.cells.2.1
      replace l9 := hx9.cells.2.2.2.2
      replace hBB := below2 hBB hC14
      go_wp2_with fail
      refine (same_calls _ _ _ _ _ _ _ _ _ ht8 hv8 ht9 hv9 (by omega) (by omega)).mono ?_
      rintro e w15 ⟨he, hB15⟩
      rw [sameD_refl] at he
      subst he
      have hC15 := hB15
      replace hx0 := hx0.below hC15
      replace ht0 := ht0.below hC15
      replace hv0 := hv0.below hC15
      replace hx2 := hx2.below hC15
      replace ht2 := ht2.below hC15
      replace hv2 := hv2.below hC15
      replace hx6 := hx6.below hC15
      replace ht6 := ht6.below hC15
      replace hv6 := hv6.below hC15
      replace hx7 := hx7.below hC15
      replace ht7 := ht7.below hC15
      replace hv7 := hv7.below hC15
      replace hx8 := hx8.below hC15
      replace ht8 := ht8.below hC15
      replace hv8 := hv8.below hC15
      replace hx9 := hx9.below hC15
      replace ht9 := ht9.below hC15
      replace hv9 := hv9.below hC15
      replace hT := hT.below hC15
      replace hl := hl.below hC15
      replace hp3 := hp3.below hC15
      replace hp4 := hp4.below hC15
      replace hp5 := hp5.below hC15
      replace c00 := hx0.cells.1
      replace c01 := hx0.cells.2.1
      replace l0 := hx0.cells.2.2.2.2
      replace c20 := hx2.cells.1
      replace c21 := hx2.cells.2.1
      replace l2 := hx2.cells.2.2.2.2
      replace c60 := hx6.cells.1
      replace c61 := hx6.cells.2.1
      replace l6 := hx6.cells.2.2.2.2
      replace c70 := hx7.cells.1
      replace c71 := hx7.cells.2.1
      replace l7 := hx7.cells.2.2.2.2
      replace c80 := hx8.cells.1
      replace c81 := hx8.cells.2.1
      replace l8 := hx8.cells.2.2.2.2
      replace c90 := hx9.cells.1
      replace c91 := hx9.cells.2.1
      replace l9 := hx9.cells.2.2.2.2
      replace hBB := below2 hBB hC15
      go_wp2_with fail
      refine (same_calls _ _ _ _ _ _ _ _ _ ht0 hv0 ht2 hv2 (by omega) (by omega)).mono ?_
      rintro e w16 ⟨he, hB16⟩
      rw [sameD_refl] at he
      subst he
      have hC16 := hB16
      replace hx0 := hx0.below hC16
      replace ht0 := ht0.below hC16
      replace hv0 := hv0.below hC16
      replace hx2 := hx2.below hC16
      replace ht2 := ht2.below hC16
      replace hv2 := hv2.below hC16
      replace hx6 := hx6.below hC16
      replace ht6 := ht6.below hC16
      replace hv6 := hv6.below hC16
      replace hx7 := hx7.below hC16
      replace ht7 := ht7.below hC16
      replace hv7 := hv7.below hC16
      replace hx8 := hx8.below hC16
      replace ht8 := ht8.below hC16
      replace hv8 := hv8.below hC16
      replace hx9 := hx9.below hC16
      replace ht9 := ht9.below hC16
      replace hv9 := hv9.below hC16
      replace hT := hT.below hC16
      replace hl := hl.below hC16
      replace hp3 := hp3.below hC16
      replace hp4 := hp4.below hC16
      replace hp5 := hp5.below hC16
      replace c00 := hx0.cells.1
      replace c01 := hx0.cells.2.1
      replace l0 := hx0.cells.2.2.2.2
      replace c20 := hx2.cells.1
      replace c21 := hx2.cells.2.1
      replace l2 := hx2.cells.2.2.2.2
      replace c60 := hx6.cells.1
      replace c61 := hx6.cells.2.1
      replace l6 := hx6.cells.2.2.2.2
      replace c70 := hx7.cells.1
      replace c71 := hx7.cells.2.1
      replace l7 := hx7.cells.2.2.2.2
      replace c80 := hx8.cells.1
      replace c81 := hx8.cells.2.1
      replace l8 := hx8.cells.2.2.2.2
      replace c90 := hx9.cells.1
      replace c91 := hx9.cells.2.1
      replace l9 := hx9.cells.2.2.2.2
      replace hBB := below2 hBB hC16
      go_wp2_with fail
      refine (texts_calls _ _ _ _ _ hl.strs hp3.strs (by omega)).mono ?_
      rintro e w17 ⟨he, hB17⟩
      rw [show decide ((l : List (List UInt8)) = l) = true from decide_eq_true rfl] at he
      subst he
      have hC17 := hB17
      replace hx0 := hx0.below hC17
      replace ht0 := ht0.below hC17
      replace hv0 := hv0.below hC17
      replace hx2 := hx2.below hC17
      replace ht2 := ht2.below hC17
      replace hv2 := hv2.below hC17
      replace hx6 := hx6.below hC17
      replace ht6 := ht6.below hC17
      replace hv6 := hv6.below hC17
      replace hx7 := hx7.below hC17
      replace ht7 := ht7.below hC17
      replace hv7 := hv7.below hC17
      replace hx8 := hx8.below hC17
      replace ht8 := ht8.below hC17
      replace hv8 := hv8.below hC17
      replace hx9 := hx9.below hC17
      replace ht9 := ht9.below hC17
      replace hv9 := hv9.below hC17
      replace hT := hT.below hC17
      replace hl := hl.below hC17
      replace hp3 := hp3.below hC17
      replace hp4 := hp4.below hC17
      replace hp5 := hp5.below hC17
      replace c00 := hx0.cells.1
      replace c01 := hx0.cells.2.1
      replace l0 := hx0.cells.2.2.2.2
      replace c20 := hx2.cells.1
      replace c21 := hx2.cells.2.1
      replace l2 := hx2.cells.2.2.2.2
      replace c60 := hx6.cells.1
      replace c61 := hx6.cells.2.1
      replace l6 := hx6.cells.2.2.2.2
      replace c70 := hx7.cells.1
      replace c71 := hx7.cells.2.1
      replace l7 := hx7.cells.2.2.2.2
      replace c80 := hx8.cells.1
      replace c81 := hx8.cells.2.1
      replace l8 := hx8.cells.2.2.2.2
      replace c90 := hx9.cells.1
      replace c91 := hx9.cells.2.1
      replace l9 := hx9.cells.2.2.2.2
      replace hBB := below2 hBB hC17
      go_wp2_with fail
      go_ret
      exact ⟨rfl, hBB⟩

end Go.Proofs.YtcipdmdliobdmaaDoor
