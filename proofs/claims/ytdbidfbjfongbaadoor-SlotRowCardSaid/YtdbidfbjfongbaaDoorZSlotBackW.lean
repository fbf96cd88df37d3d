/-
  The walk of SlotBack.
-/
import Derived.Test.YtdbidfbjfongbaaDoorPks06
namespace Go.Proofs.YtdbidfbjfongbaaDoor
open Go.RowKit

/-- What was saved is loaded: all of it at once. -/
theorem save_back2 {bs : List (List UInt8)} {ws : List Wr} {l : List (List UInt8)} (h : (saveR bs ws l (-1)).1 = 0) :
    ∃ x, saveR bs ws l (-1) = (0, true, x, []) ∧ openE bs ws = 0 ∧ openE x [] = 0 ∧ openP x [] = l ∧ openN x [] = openN bs ws + 1 ∧ (freeL x []).length + l.length + 2 = bs.length ∧ bs.length ≤ 200 := by
  obtain ⟨h1, b1, b2, b3, b4, _, b6, b7, b8⟩ := save_back h
  have h3 := (open_ok h1).2.2.1
  obtain ⟨⟨E, A, X, V⟩, hR⟩ : ∃ R, saveR bs ws l (-1) = R := ⟨_, rfl⟩
  rw [hR] at h b1 b2 b3 b4 b6 b7 b8
  simp only at h b1 b2 b3 b4 b6 b7 b8
  subst h b1 b2
  exact ⟨X, hR, h1, b4, b6, b7, b8, h3⟩
theorem save_none2 {bs : List (List UInt8)} {ws : List Wr} {l : List (List UInt8)} {k : Int} (h : (saveR bs ws l k).1 ≠ 0) : ∃ E, E ≠ 0 ∧ saveR bs ws l k = (E, false, [], []) :=
  ⟨_, h, by rw [← save_none h]⟩
theorem openN_le (bs : List (List UInt8)) (ws : List Wr) : openN bs ws ≤ 4294967295 := by
  unfold openN
  split
  · exact newest_le _ _ _
  · omega

set_option maxRecDepth 100000 in
set_option maxHeartbeats 16000000 in
theorem slotBack_walk (vb vw vl : Value) (bs : List (List UInt8)) (ws : List Wr) (l : List (List UInt8)) (w0 : World) (ht0 : Txts w0 vb bs) (hv0 : Wrs w0 vw ws) (hl : Txts w0 vl l) (hT : TabOk w0) :
    Calls Tryd.prog 3 #[.agg #[vb, vw], vl] w0 fun e w' => e = .returned (.bool true) ∧ Below w0.heap.size w0 w' := by
  obtain ⟨ab0, cb0, rfl⟩ := ht0.strs.form
  obtain ⟨aw0, cw0, rfl⟩ := hv0.form
  obtain ⟨al, cl, rfl⟩ := hl.strs.form
  have hBB := Below.refl w0.heap.size w0
  cases hF : sfarB bs ws l with
  | true =>
    have HF := Lib.hid hF
    clear hF
    go_enter Tryd.func3, Tryd.ntmps3
    go_wp2_with fail
    refine (sfar_calls _ _ _ _ _ l _ (ht0.below (below_alloc _ _)) (hv0.below (below_alloc _ _)) (hl.below (below_alloc _ _))).mono ?_
    rintro e w1 ⟨he, hB1⟩
    rw [HF.out] at he
    subst he
    have hC1 := below2 (below_alloc _ _) hB1
    have hx0 := (Bx.new w0 _ _).below hB1
    replace ht0 := ht0.below hC1
    replace hv0 := hv0.below hC1
    replace hT := hT.below hC1
    replace hl := hl.below hC1
    have c00 := hx0.cells.1
    have c01 := hx0.cells.2.1
    have l0 := hx0.cells.2.2.2.2
    replace hBB := below2 hBB hC1
    go_wp2_with fail
    go_ret
    exact ⟨rfl, hBB⟩
  | false =>
    have hlm := sfar_not hF
    have HF := Lib.hid hF
    have hnl := openN_le bs ws
    obtain ⟨n0, hn0⟩ : ∃ n, openN bs ws = n := ⟨_, rfl⟩
    rw [hn0] at hnl
    have HN := Lib.hid hn0
    obtain ⟨P0, hP0⟩ : ∃ n, openP bs ws = n := ⟨_, rfl⟩
    have HP := Lib.hid hP0
    clear hF hP0
    by_cases hz : (saveR bs ws l (-1)).1 = 0
    · obtain ⟨x, q1, q2, q3, q4, q5, q6, q7⟩ := save_back2 hz
      rw [hn0] at q5
      obtain ⟨F6, hF6⟩ : ∃ F, freeL x [] = F := ⟨_, rfl⟩
      rw [hF6] at q6
      have H := Lib.hid (And.intro q1 (And.intro q2 (And.intro q3 (And.intro q4 (And.intro q5 hF6)))))
      have hq6 : (F6.length : Int) + l.length + 2 = bs.length := by omega
      clear q1 q2 q3 q4 q5 hF6 hz hn0
      go_enter Tryd.func3, Tryd.ntmps3
      go_wp2_with fail
      refine (sfar_calls _ _ _ _ _ l _ (ht0.below (below_alloc _ _)) (hv0.below (below_alloc _ _)) (hl.below (below_alloc _ _))).mono ?_
      rintro e w1 ⟨he, hB1⟩
      rw [HF.out] at he
      subst he
      have hC1 := below2 (below_alloc _ _) hB1
      have hx0 := (Bx.new w0 _ _).below hB1
      replace ht0 := ht0.below hC1
      replace hv0 := hv0.below hC1
      replace hT := hT.below hC1
      replace hl := hl.below hC1
      have c00 := hx0.cells.1
      have c01 := hx0.cells.2.1
      have l0 := hx0.cells.2.2.2.2
      replace hBB := below2 hBB hC1
      go_wp2_with fail
      refine (load_calls _ _ _ _ _ ht0 hv0 hT).mono ?_
      rintro e w2 ⟨vp2, he, ho2, hB2⟩
      rw [HN.out] at he
      rw [H.out.2.1] at he
      rw [HP.out] at ho2
      subst he
      have hC2 := hB2
      replace hx0 := hx0.below hC2
      replace ht0 := ht0.below hC2
      replace hv0 := hv0.below hC2
      replace hT := hT.below hC2
      replace hl := hl.below hC2
      replace c00 := hx0.cells.1
      replace c01 := hx0.cells.2.1
      replace l0 := hx0.cells.2.2.2.2
      replace hBB := below2 hBB hC2
      have hp2 := ho2.txts
      clear ho2
      obtain ⟨ap2, cp2, rfl⟩ := hp2.strs.form
      go_wp2_with fail
      refine (save_calls _ _ _ _ _ l (-1) _ ht0 hv0 hl hT (by omega)).mono ?_
      rintro e w3 ⟨vb3, vw3, he, ho3, hB3⟩
      rw [H.out.1] at he
      subst he
      have hC3 := hB3
      replace hx0 := hx0.below hC3
      replace ht0 := ht0.below hC3
      replace hv0 := hv0.below hC3
      replace hT := hT.below hC3
      replace hl := hl.below hC3
      replace hp2 := hp2.below hC3
      replace c00 := hx0.cells.1
      replace c01 := hx0.cells.2.1
      replace l0 := hx0.cells.2.2.2.2
      replace hBB := below2 hBB hC3
      obtain ⟨ab3, nb3, cb3, aw3, nw3, cw3, rfl, rfl, hnb3, hnw3⟩ := ho3.forms
      have ht3 := ho3.texts
      have hv3 := ho3.wrs
      have N3 := Lib.hid (And.intro hnb3 hnw3)
      clear hnb3 hnw3
      rw [H.out.1] at ht3
      rw [H.out.1] at hv3
      go_wp2_with fail
      refine (load_calls _ _ _ _ _ (ht3.below (below_alloc _ _)) (hv3.below (below_alloc _ _)) (hT.below (below_alloc _ _))).mono ?_
      rintro e w4 ⟨vp4, he, ho4, hB4⟩
      rw [H.out.2.2.1] at he
      rw [H.out.2.2.2.2.1] at he
      rw [show ((n0 + 1 : Nat) : Int) = (n0 : Int) + 1 from rfl] at he
      rw [H.out.2.2.2.1] at ho4
      subst he
      have hC4 := below2 (below_alloc _ _) hB4
      replace hx0 := hx0.below hC4
      replace ht0 := ht0.below hC4
      replace hv0 := hv0.below hC4
      have hx3 := (Bx.new w3 _ _).below hB4
      replace ht3 := ht3.below hC4
      replace hv3 := hv3.below hC4
      replace hT := hT.below hC4
      replace hl := hl.below hC4
      replace hp2 := hp2.below hC4
      replace c00 := hx0.cells.1
      replace c01 := hx0.cells.2.1
      replace l0 := hx0.cells.2.2.2.2
      have c30 := hx3.cells.1
      have c31 := hx3.cells.2.1
      have l3 := hx3.cells.2.2.2.2
      replace hBB := below2 hBB hC4
      have hp4 := ho4.txts
      clear ho4
      obtain ⟨ap4, cp4, rfl⟩ := hp4.strs.form
      go_wp2_with fail
      refine (free_calls _ _ _ _ _ ht3 hv3 hT).mono ?_
      rintro e w5 ⟨vp5, he, ho5, hB5⟩
      rw [H.out.2.2.1] at he
      rw [H.out.2.2.2.2.2] at ho5
      subst he
      have hC5 := hB5
      replace hx0 := hx0.below hC5
      replace ht0 := ht0.below hC5
      replace hv0 := hv0.below hC5
      replace hx3 := hx3.below hC5
      replace ht3 := ht3.below hC5
      replace hv3 := hv3.below hC5
      replace hT := hT.below hC5
      replace hl := hl.below hC5
      replace hp2 := hp2.below hC5
      replace hp4 := hp4.below hC5
      replace c00 := hx0.cells.1
      replace c01 := hx0.cells.2.1
      replace l0 := hx0.cells.2.2.2.2
      replace c30 := hx3.cells.1
      replace c31 := hx3.cells.2.1
      replace l3 := hx3.cells.2.2.2.2
      replace hBB := below2 hBB hC5
      have hf5 := ho5.nats
      clear ho5
      obtain ⟨af5, cf5, rfl⟩ := hf5.form
      go_wp2_with fail
      refine (shelved_calls _ hT).mono ?_
      rintro e w6 ⟨he, hB6⟩
      subst he
      have hC6 := hB6
      replace hx0 := hx0.below hC6
      replace ht0 := ht0.below hC6
      replace hv0 := hv0.below hC6
      replace hx3 := hx3.below hC6
      replace ht3 := ht3.below hC6
      replace hv3 := hv3.below hC6
      replace hT := hT.below hC6
      replace hl := hl.below hC6
      replace hp2 := hp2.below hC6
      replace hp4 := hp4.below hC6
      replace hf5 := hf5.below hC6
      replace c00 := hx0.cells.1
      replace c01 := hx0.cells.2.1
      replace l0 := hx0.cells.2.2.2.2
      replace c30 := hx3.cells.1
      replace c31 := hx3.cells.2.1
      replace l3 := hx3.cells.2.2.2.2
      replace hBB := below2 hBB hC6
      go_wp2_with fail
      refine (texts_calls _ _ _ _ _ hp4.strs hl.strs (by omega)).mono ?_
      rintro e w7 ⟨he, hB7⟩
      rw [show decide (l = l) = true by simp] at he
      subst he
      have hC7 := hB7
      replace hx0 := hx0.below hC7
      replace ht0 := ht0.below hC7
      replace hv0 := hv0.below hC7
      replace hx3 := hx3.below hC7
      replace ht3 := ht3.below hC7
      replace hv3 := hv3.below hC7
      replace hT := hT.below hC7
      replace hl := hl.below hC7
      replace hp2 := hp2.below hC7
      replace hp4 := hp4.below hC7
      replace hf5 := hf5.below hC7
      replace c00 := hx0.cells.1
      replace c01 := hx0.cells.2.1
      replace l0 := hx0.cells.2.2.2.2
      replace c30 := hx3.cells.1
      replace c31 := hx3.cells.2.1
      replace l3 := hx3.cells.2.2.2.2
      replace hBB := below2 hBB hC7
      go_wp2_with fail
      go_ret
      exact ⟨rfl, hBB⟩
    · obtain ⟨c, hc, q1⟩ := save_none2 hz
      obtain ⟨e0, he0⟩ : ∃ e, openE bs ws = e := ⟨_, rfl⟩
      have H := Lib.hid (And.intro q1 he0)
      have hcb : (c != 0) = true := by simpa using hc
      clear q1 he0 hz hn0 hc
      go_enter Tryd.func3, Tryd.ntmps3
      go_wp2_with fail
      refine (sfar_calls _ _ _ _ _ l _ (ht0.below (below_alloc _ _)) (hv0.below (below_alloc _ _)) (hl.below (below_alloc _ _))).mono ?_
      rintro e w1 ⟨he, hB1⟩
      rw [HF.out] at he
      subst he
      have hC1 := below2 (below_alloc _ _) hB1
      have hx0 := (Bx.new w0 _ _).below hB1
      replace ht0 := ht0.below hC1
      replace hv0 := hv0.below hC1
      replace hT := hT.below hC1
      replace hl := hl.below hC1
      have c00 := hx0.cells.1
      have c01 := hx0.cells.2.1
      have l0 := hx0.cells.2.2.2.2
      replace hBB := below2 hBB hC1
      go_wp2_with fail
      refine (load_calls _ _ _ _ _ ht0 hv0 hT).mono ?_
      rintro e w2 ⟨vp2, he, ho2, hB2⟩
      rw [HN.out] at he
      rw [H.out.2] at he
      rw [HP.out] at ho2
      subst he
      have hC2 := hB2
      replace hx0 := hx0.below hC2
      replace ht0 := ht0.below hC2
      replace hv0 := hv0.below hC2
      replace hT := hT.below hC2
      replace hl := hl.below hC2
      replace c00 := hx0.cells.1
      replace c01 := hx0.cells.2.1
      replace l0 := hx0.cells.2.2.2.2
      replace hBB := below2 hBB hC2
      have hp2 := ho2.txts
      clear ho2
      obtain ⟨ap2, cp2, rfl⟩ := hp2.strs.form
      go_wp2_with fail
      refine (save_calls _ _ _ _ _ l (-1) _ ht0 hv0 hl hT (by omega)).mono ?_
      rintro e w3 ⟨vb3, vw3, he, ho3, hB3⟩
      rw [H.out.1] at he
      subst he
      have hC3 := hB3
      replace hx0 := hx0.below hC3
      replace ht0 := ht0.below hC3
      replace hv0 := hv0.below hC3
      replace hT := hT.below hC3
      replace hl := hl.below hC3
      replace hp2 := hp2.below hC3
      replace c00 := hx0.cells.1
      replace c01 := hx0.cells.2.1
      replace l0 := hx0.cells.2.2.2.2
      replace hBB := below2 hBB hC3
      obtain ⟨ab3, nb3, cb3, aw3, nw3, cw3, rfl, rfl, hnb3, hnw3⟩ := ho3.forms
      have ht3 := ho3.texts
      have hv3 := ho3.wrs
      have N3 := Lib.hid (And.intro hnb3 hnw3)
      clear hnb3 hnw3
      rw [H.out.1] at ht3
      rw [H.out.1] at hv3
      obtain rfl : nb3 = 0 := by rw [N3.out.1, H.out.1]; rfl
      go_wp2_with fail
      refine (shelved_calls _ (hT.below (below_alloc _ _))).mono ?_
      rintro e w4 ⟨he, hB4⟩
      subst he
      have hC4 := below2 (below_alloc _ _) hB4
      replace hx0 := hx0.below hC4
      replace ht0 := ht0.below hC4
      replace hv0 := hv0.below hC4
      have hx3 := (Bx.new w3 _ _).below hB4
      replace ht3 := ht3.below hC4
      replace hv3 := hv3.below hC4
      replace hT := hT.below hC4
      replace hl := hl.below hC4
      replace hp2 := hp2.below hC4
      replace c00 := hx0.cells.1
      replace c01 := hx0.cells.2.1
      replace l0 := hx0.cells.2.2.2.2
      have c30 := hx3.cells.1
      have c31 := hx3.cells.2.1
      have l3 := hx3.cells.2.2.2.2
      replace hBB := below2 hBB hC4
      go_wp2_with fail
      go_ret
      exact ⟨rfl, hBB⟩

end Go.Proofs.YtdbidfbjfongbaaDoor
