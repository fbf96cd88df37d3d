/-
  disk: Write.
-/
import Derived.Test.YtcikgmgkaenpmaaDSpec
namespace Go.Proofs.Ytcikgmgkaenpmaa
open Go.RowKit

set_option maxRecDepth 100000 in
set_option maxHeartbeats 4000000 in
theorem write_calls (vb vw : Value) (bs : List (List UInt8)) (ws : List Wr) (i : Int) (s : List UInt8) (w : World) (hb : Txts w vb bs) (hw : Wrs w vw ws) :
    Calls Try.prog 10 #[.agg #[vb, vw], .int .i64 i, .string ⟨s.toArray⟩] w fun e w' => ∃ vb' vw', e = .returned (.tuple #[.agg #[vb', vw'], .int .i64 (writeE bs ws i s)]) ∧ OwnD w' w.heap.size vb' (writeBs bs ws i s) vw' (writeWs bs ws i s) ∧ Below w.heap.size w w' := by
  obtain ⟨ab, cb, rfl⟩ := hb.strs.form
  obtain ⟨aw, cw, rfl⟩ := hw.form
  obtain ⟨hx0, hr0, hB0⟩ := entry2 w (.slice ab bs.length cb) (.slice aw ws.length cw)
  have C1 := check_calls _ _ bs ws _ (hb.below hB0) (hw.below hB0)
  cases hR : rightB bs ws with
  | false =>
    have E1 := Lib.hid (show writeE bs ws i s = 1 by simp [writeE, hR])
    have E2 := Lib.hid (show writeBs bs ws i s = [] by simp [writeBs, E1.out])
    have E3 := Lib.hid (show writeWs bs ws i s = [] by simp [writeWs, E1.out])
    rw [hR] at C1
    have K1 := Lib.hid C1
    clear C1 hR
    go_enter Try.func10, Try.ntmps10
    go_wp2_with fail
    refine K1.out.mono ?_
    rintro e w1 ⟨rfl, hB1⟩
    obtain ⟨q0, q1, q2, q3, q4⟩ := (hr0.below hB1).cells
    have hBB := below2 hB0 hB1
    go_wp2_with fail
    obtain ⟨r1, r2⟩ := ret_own (x := .slice none 0 0) (y := .slice none 0 0) (nil_own w1 (w.heap.size + 2)) (Nat.le_refl _) hBB
    refine ret_disk2 (p := 6) (q := 7) (by kernel_rfl) rfl (w.heap.size + 1) (.slice none 0 0) (.slice none 0 0) (.int .i64 1) rfl rfl (by go_simp) (by go_simp) ?_
    exact ⟨_, _, by rw [E1.out], by rw [E2.out, E3.out]; exact r1, r2⟩
  | true =>
    cases hH : hasB bs.length i with
    | false =>
      have E1 := Lib.hid (show writeE bs ws i s = 40 by simp [writeE, hR, hH])
      have E2 := Lib.hid (show writeBs bs ws i s = [] by simp [writeBs, E1.out])
      have E3 := Lib.hid (show writeWs bs ws i s = [] by simp [writeWs, E1.out])
      have hH := Lib.hid hH
      rw [hR] at C1
      have K1 := Lib.hid C1
      have hBB0 := hB0
      obtain ⟨p00, p01, p02, p03, p04⟩ := hx0.cells
      obtain ⟨q00, q01, q02, q03, q04⟩ := hr0.cells
      clear C1 hR
      go_enter Try.func10, Try.ntmps10
      go_wp2_with fail
      refine K1.out.mono ?_
      rintro e w1 ⟨rfl, hB1⟩
      have hx1 := hx0.below hB1
      have hr1 := hr0.below hB1
      have hBB1 := below2 hBB0 hB1
      obtain ⟨p10, p11, p12, p13, p14⟩ := hx1.cells
      obtain ⟨q10, q11, q12, q13, q14⟩ := hr1.cells
      clear p00 p01 p02 p03 p04 q00 q01 q02 q03 q04
      go_wp2_with fail
      refine (has_calls _ _ _ _ _ _).mono ?_
      rintro e w2 ⟨rfl, hB2⟩
      rw [hH.out]
      have hx2 := hx1.below hB2
      have hr2 := hr1.below hB2
      have hBB2 := below2 hBB1 hB2
      obtain ⟨p20, p21, p22, p23, p24⟩ := hx2.cells
      obtain ⟨q20, q21, q22, q23, q24⟩ := hr2.cells
      clear p10 p11 p12 p13 p14 q10 q11 q12 q13 q14
      go_wp2_with fail
      obtain ⟨r1, r2⟩ := ret_own (x := .slice none 0 0) (y := .slice none 0 0) (nil_own w2 (w.heap.size + 2)) (Nat.le_refl _) hBB2
      refine ret_disk2 (p := 6) (q := 7) (by kernel_rfl) rfl (w.heap.size + 1) (.slice none 0 0) (.slice none 0 0) (.int .i64 40) rfl rfl (by go_simp) (by go_simp) ?_
      exact ⟨_, _, by rw [E1.out], by rw [E2.out, E3.out]; exact r1, r2⟩
    | true =>
      by_cases h3 : s.length ≤ 256
      · have d3 : decide ((s.length : Int) ≤ 256) = true := by simp; omega
        by_cases h4 : ws.length < 100
        · have d4 : ((ws.length : Int) == 100) = false := by rw [beq_eq_false_iff_ne]; omega
          have E1 := Lib.hid (show writeE bs ws i s = 0 by simp [writeE, hR, hH, h3, h4])
          have E2 := Lib.hid (show writeBs bs ws i s = bs by simp [writeBs, E1.out])
          have E3 := Lib.hid (show writeWs bs ws i s = ws ++ [(i, s)] by simp [writeWs, E1.out])
          have hH := Lib.hid hH
          obtain ⟨hl1, hl2, hl3, _⟩ := right_parts hR
          rw [hR] at C1
          have K1 := Lib.hid C1
          have hBB0 := hB0
          obtain ⟨p00, p01, p02, p03, p04⟩ := hx0.cells
          obtain ⟨q00, q01, q02, q03, q04⟩ := hr0.cells
          clear C1 hR
          go_enter Try.func10, Try.ntmps10
          go_wp2_with fail
          refine K1.out.mono ?_
          rintro e w1 ⟨rfl, hB1⟩
          have hx1 := hx0.below hB1
          have hr1 := hr0.below hB1
          have hBB1 := below2 hBB0 hB1
          obtain ⟨p10, p11, p12, p13, p14⟩ := hx1.cells
          obtain ⟨q10, q11, q12, q13, q14⟩ := hr1.cells
          clear p00 p01 p02 p03 p04 q00 q01 q02 q03 q04
          go_wp2_with fail
          refine (has_calls _ _ _ _ _ _).mono ?_
          rintro e w2 ⟨rfl, hB2⟩
          rw [hH.out]
          have hx2 := hx1.below hB2
          have hr2 := hr1.below hB2
          have hBB2 := below2 hBB1 hB2
          obtain ⟨p20, p21, p22, p23, p24⟩ := hx2.cells
          obtain ⟨q20, q21, q22, q23, q24⟩ := hr2.cells
          clear p10 p11 p12 p13 p14 q10 q11 q12 q13 q14
          go_wp2_with (go_at_call 27; refine (fits_calls s _).mono ?_; rintro e w3 ⟨rfl, rfl⟩)
          have hBa := below_alloc w2 (.cells #[.int .i64 i, .string ⟨s.toArray⟩] 40)
          have hT := (hb.below hBB2).below hBa
          have hV := (hw.below hBB2).below hBa
          refine (after_wait_calls _ _ _ bs ws [(i, s)] _ hT hV (Wrs.one w2 i s _) (by omega) (by omega) (by simp)).mono ?_
          rintro e w4 ⟨vb4, vw4, rfl, ho4, hB4⟩
          have hr4 := (hr2.below hBa).below hB4
          have hBB4 := below2 (below2 hBB2 hBa) hB4
          obtain ⟨q40, q41, q42, q43, q44⟩ := hr4.cells
          obtain ⟨aw4, cw4, hv3⟩ := (Wrs.own ho4.2).form
          obtain ⟨ab4, cb4, hv4⟩ := (Txts.own ho4.1).strs.form
          rw [show (ws ++ [(i, s)]).length = ws.length + 1 by simp] at hv3
          subst hv3 hv4
          have HO4 := Lib.hid ho4
          clear ho4 p20 p21 p22 p23 p24 q20 q21 q22 q23
          go_wp2_with fail
          obtain ⟨r1, r2⟩ := ret_own (w := w) (x := .slice ab4 bs.length cb4) (y := .slice aw4 (ws.length + 1) cw4) HO4.out (by simp; omega) hBB4
          refine ret_disk2 (p := 6) (q := 7) (by kernel_rfl) rfl (w.heap.size + 1) (.slice ab4 bs.length cb4) (.slice aw4 (ws.length + 1) cw4) (.int .i64 0) rfl rfl (by go_simp) (by go_simp) ?_
          exact ⟨_, _, by rw [E1.out], by rw [E2.out, E3.out]; exact r1, r2⟩
        · have d4 : ((ws.length : Int) == 100) = true := by
            have := (right_parts hR).2.2.1
            rw [beq_iff_eq]; omega
          have E1 := Lib.hid (show writeE bs ws i s = 41 by simp [writeE, hR, hH, h3, h4])
          have E2 := Lib.hid (show writeBs bs ws i s = [] by simp [writeBs, E1.out])
          have E3 := Lib.hid (show writeWs bs ws i s = [] by simp [writeWs, E1.out])
          have hH := Lib.hid hH
          rw [hR] at C1
          have K1 := Lib.hid C1
          have hBB0 := hB0
          obtain ⟨p00, p01, p02, p03, p04⟩ := hx0.cells
          obtain ⟨q00, q01, q02, q03, q04⟩ := hr0.cells
          clear C1 hR
          go_enter Try.func10, Try.ntmps10
          go_wp2_with fail
          refine K1.out.mono ?_
          rintro e w1 ⟨rfl, hB1⟩
          have hx1 := hx0.below hB1
          have hr1 := hr0.below hB1
          have hBB1 := below2 hBB0 hB1
          obtain ⟨p10, p11, p12, p13, p14⟩ := hx1.cells
          obtain ⟨q10, q11, q12, q13, q14⟩ := hr1.cells
          clear p00 p01 p02 p03 p04 q00 q01 q02 q03 q04
          go_wp2_with fail
          refine (has_calls _ _ _ _ _ _).mono ?_
          rintro e w2 ⟨rfl, hB2⟩
          rw [hH.out]
          have hx2 := hx1.below hB2
          have hr2 := hr1.below hB2
          have hBB2 := below2 hBB1 hB2
          obtain ⟨p20, p21, p22, p23, p24⟩ := hx2.cells
          obtain ⟨q20, q21, q22, q23, q24⟩ := hr2.cells
          clear p10 p11 p12 p13 p14 q10 q11 q12 q13 q14
          go_wp2_with (go_at_call 27; refine (fits_calls s _).mono ?_; rintro e w3 ⟨rfl, rfl⟩)
          go_wp2_with fail
          obtain ⟨r1, r2⟩ := ret_own (x := .slice none 0 0) (y := .slice none 0 0) (nil_own w2 (w.heap.size + 2)) (Nat.le_refl _) hBB2
          refine ret_disk2 (p := 6) (q := 7) (by kernel_rfl) rfl (w.heap.size + 1) (.slice none 0 0) (.slice none 0 0) (.int .i64 41) rfl rfl (by go_simp) (by go_simp) ?_
          exact ⟨_, _, by rw [E1.out], by rw [E2.out, E3.out]; exact r1, r2⟩
      · have d3 : decide ((s.length : Int) ≤ 256) = false := by simp; omega
        have E1 := Lib.hid (show writeE bs ws i s = 1 by simp [writeE, hR, hH, h3])
        have E2 := Lib.hid (show writeBs bs ws i s = [] by simp [writeBs, E1.out])
        have E3 := Lib.hid (show writeWs bs ws i s = [] by simp [writeWs, E1.out])
        have hH := Lib.hid hH
        rw [hR] at C1
        have K1 := Lib.hid C1
        have hBB0 := hB0
        obtain ⟨p00, p01, p02, p03, p04⟩ := hx0.cells
        obtain ⟨q00, q01, q02, q03, q04⟩ := hr0.cells
        clear C1 hR
        go_enter Try.func10, Try.ntmps10
        go_wp2_with fail
        refine K1.out.mono ?_
        rintro e w1 ⟨rfl, hB1⟩
        have hx1 := hx0.below hB1
        have hr1 := hr0.below hB1
        have hBB1 := below2 hBB0 hB1
        obtain ⟨p10, p11, p12, p13, p14⟩ := hx1.cells
        obtain ⟨q10, q11, q12, q13, q14⟩ := hr1.cells
        clear p00 p01 p02 p03 p04 q00 q01 q02 q03 q04
        go_wp2_with fail
        refine (has_calls _ _ _ _ _ _).mono ?_
        rintro e w2 ⟨rfl, hB2⟩
        rw [hH.out]
        have hx2 := hx1.below hB2
        have hr2 := hr1.below hB2
        have hBB2 := below2 hBB1 hB2
        obtain ⟨p20, p21, p22, p23, p24⟩ := hx2.cells
        obtain ⟨q20, q21, q22, q23, q24⟩ := hr2.cells
        clear p10 p11 p12 p13 p14 q10 q11 q12 q13 q14
        go_wp2_with (go_at_call 27; refine (fits_calls s _).mono ?_; rintro e w3 ⟨rfl, rfl⟩)
        go_wp2_with fail
        obtain ⟨r1, r2⟩ := ret_own (x := .slice none 0 0) (y := .slice none 0 0) (nil_own w2 (w.heap.size + 2)) (Nat.le_refl _) hBB2
        refine ret_disk2 (p := 6) (q := 7) (by kernel_rfl) rfl (w.heap.size + 1) (.slice none 0 0) (.slice none 0 0) (.int .i64 1) rfl rfl (by go_simp) (by go_simp) ?_
        exact ⟨_, _, by rw [E1.out], by rw [E2.out, E3.out]; exact r1, r2⟩

end Go.Proofs.Ytcikgmgkaenpmaa
