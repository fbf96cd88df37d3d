/-
  The document's own Write.
-/
import Derived.Test.YtcikgmgkaenpmaaDRefC
import Derived.Test.YtcikgmgkaenpmaaOwnT
namespace Go.Proofs.Ytcikgmgkaenpmaa
open Go.RowKit

set_option maxRecDepth 100000 in
set_option maxHeartbeats 8000000 in
theorem refWrite_calls (vb vw : Value) (bs : List (List UInt8)) (ws : List Wr) (i : Int) (s : List UInt8) (w : World) (hb : Txts w vb bs) (hw : Wrs w vw ws) :
    Calls Try.prog 11 #[.agg #[vb, vw], .int .i64 i, .string ⟨s.toArray⟩] w fun e w' => ∃ vb' vw', e = .returned (.tuple #[.agg #[vb', vw'], .int .i64 (writeE bs ws i s)]) ∧ OwnD w' w.heap.size vb' (writeBs bs ws i s) vw' (writeWs bs ws i s) ∧ Below w.heap.size w w' := by
  obtain ⟨i0, hi, hz0, hz1, hz2⟩ := info_parts infoW
  obtain ⟨ab, cb, rfl⟩ := hb.strs.form
  obtain ⟨aw, cw, rfl⟩ := hw.form
  obtain ⟨hx0, hr0, hB0⟩ := entry2 w (.slice ab bs.length cb) (.slice aw ws.length cw)
  have C1 := refCheck_calls _ _ bs ws _ (hb.below hB0) (hw.below hB0)
  cases hR : rightB bs ws with
  | false =>
    have E1 := Lib.hid (show writeE bs ws i s = 1 by simp [writeE, hR])
    have E2 := Lib.hid (show writeBs bs ws i s = [] by simp [writeBs, E1.out])
    have E3 := Lib.hid (show writeWs bs ws i s = [] by simp [writeWs, E1.out])
    rw [hR] at C1
    have K1 := Lib.hid C1
    clear C1 hR
    go_enter Try.func11, Try.ntmps11
    go_wp2_with fail
    refine K1.out.mono ?_
    rintro e w1 ⟨rfl, hB1⟩
    have hx1 := hx0.below hB1
    have hr1 := hr0.below hB1
    have hBB1 := below2 hB0 hB1
    obtain ⟨p0, p1, p2, p3, p4⟩ := hx1.cells
    obtain ⟨q0, q1, q2, q3, q4⟩ := hr1.cells
    go_wp2_with fail
    obtain ⟨r1, r2⟩ := ret_own (x := .slice none 0 0) (y := .slice none 0 0) (nil_own w1 (w.heap.size + 2)) (Nat.le_refl _) hBB1
    refine ret_disk2 (p := 6) (q := 7) (by kernel_rfl) rfl (w.heap.size + 1) (.slice none 0 0) (.slice none 0 0) (.int .i64 1) rfl rfl (by go_simp) (by go_simp) ?_
    exact ⟨_, _, by rw [E1.out], by rw [E2.out, E3.out]; exact r1, r2⟩
  | true =>
    cases hH : hasB bs.length i with
    | false =>
      have E1 := Lib.hid (show writeE bs ws i s = 40 by simp [writeE, hR, hH])
      have E2 := Lib.hid (show writeBs bs ws i s = [] by simp [writeBs, E1.out])
      have E3 := Lib.hid (show writeWs bs ws i s = [] by simp [writeWs, E1.out])
      have hc : i < 0 ∨ (0 ≤ i ∧ bs.length ≤ i) := by
        have := hH
        simp [hasB] at this
        omega
      rw [hR] at C1
      have K1 := Lib.hid C1
      clear C1 hR
      clear hH
      rcases hc with h | ⟨h, h'⟩
      all_goals
        go_enter Try.func11, Try.ntmps11
        go_wp2_with fail
        refine K1.out.mono ?_
        rintro e w1 ⟨rfl, hB1⟩
        have hx1 := hx0.below hB1
        have hr1 := hr0.below hB1
        have hBB1 := below2 hB0 hB1
        obtain ⟨p0, p1, p2, p3, p4⟩ := hx1.cells
        obtain ⟨q0, q1, q2, q3, q4⟩ := hr1.cells
        go_wp2_with fail
        obtain ⟨r1, r2⟩ := ret_own (x := .slice none 0 0) (y := .slice none 0 0) (nil_own w1 (w.heap.size + 2)) (Nat.le_refl _) hBB1
        refine ret_disk2 (p := 6) (q := 7) (by kernel_rfl) rfl (w.heap.size + 1) (.slice none 0 0) (.slice none 0 0) (.int .i64 40) rfl rfl (by go_simp) (by go_simp) ?_
        exact ⟨_, _, by rw [E1.out], by rw [E2.out, E3.out]; exact r1, r2⟩
    | true =>
      obtain ⟨hl1, hl2, hl3, hl4, hl5⟩ := right_parts hR
      have hij : 0 ≤ i ∧ i < bs.length := by simpa [hasB] using hH
      obtain ⟨hi0, hi1⟩ := hij
      clear hl4 hl5
      by_cases h3 : s.length ≤ 256
      · have d3 : decide ((256 : Int) < s.length) = false := by simp; omega
        by_cases h4 : ws.length < 100
        · have d4 : decide ((100 : Int) ≤ ws.length) = false := by simp; omega
          have E1 := Lib.hid (show writeE bs ws i s = 0 by simp [writeE, hR, hH, h3, h4])
          have E2 := Lib.hid (show writeBs bs ws i s = bs by simp [writeBs, E1.out])
          have E3 := Lib.hid (show writeWs bs ws i s = ws ++ [(i, s)] by simp [writeWs, E1.out])
          clear hH
          rw [hR] at C1
          have K1 := Lib.hid C1
          clear C1 hR
          go_enter Try.func11, Try.ntmps11
          go_wp2_with fail
          refine K1.out.mono ?_
          rintro e w1 ⟨rfl, hB1⟩
          have hx1 := hx0.below hB1
          have hr1 := hr0.below hB1
          have hBB1 := below2 hB0 hB1
          obtain ⟨p0, p1, p2, p3, p4⟩ := hx1.cells
          obtain ⟨q0, q1, q2, q3, q4⟩ := hr1.cells
          go_wp2_with fail
          refine (refOwn_calls _ _ bs ws _ (hb.below hBB1) (hw.below hBB1) (by omega) (by omega)).mono ?_
          rintro e w2 ⟨vb2, vw2, rfl, ho2, hB2⟩
          obtain ⟨ab2, nb2, cb2, aw2, nw2, cw2, rfl, rfl, hnb2, hnw2⟩ := ho2.forms
          have N2 := Lib.hid (And.intro hnb2 hnw2)
          have hr2 := hr1.below hB2
          have hBB2 := below2 hBB1 hB2
          have hsz : w.heap.size + 2 ≤ w1.heap.size := q4
          have hsz2 := hB2.size
          have O2 := Lib.hid (ho2.2.alloc (.cells #[.slice ab2 nb2 cb2, .slice aw2 nw2 cw2] 25))
          have HO2 := Lib.hid ho2
          clear ho2 hnb2 hnw2 p0 p1 p2 p3 p4 q0 q1 q2 q3
          have HN := Lib.hid (news_row w2 (.cells #[.slice ab2 nb2 cb2, .slice aw2 nw2 cw2] 25) (.int .i64 i) (.string ⟨s.toArray⟩) 40)
          go_wp2_with (at_builtin; refine wpList_append_own _ rfl (.tmp 35) (.tmp 39) 23 rfl w1.heap.size 40 i0 (.agg #[.int .i64 0, .string ⟨#[]⟩]) 2 24 Try.underlying23 hi hz0 hz1 hz2 rfl (by decide) (.slice aw2 nw2 cw2) ws.length (wcells ws) rfl (O2.out.alloc _) ⟨w2.heap.size + 1, 0, none⟩ 1 1 [.int .i64 i, .string ⟨s.toArray⟩] rfl rfl HN.out (by simp [Value.oneCell']) (by unfold maxLen; omega) (by omega) (by simp; omega) ?_; intro v3 w3 hown3 hg3 _; obtain ⟨a3, n3, c3, rfl⟩ := own_form hown3; have hd3 := append_kept HO2.out hr2 (Bx.new w2 _ _) (below_alloc w2 _) hg3 (by omega); obtain ⟨hr3, hz3, hb3, hB3⟩ := hd3; obtain ⟨q30, q31, q32, q33, q34⟩ := hr3.cells; obtain ⟨z30, z31, z32, z33, z34⟩ := hz3.cells; have HO3 := Lib.hid hown3; clear hown3 hg3)
          have hod : OwnD w3 w1.heap.size (.slice ab2 nb2 cb2) bs (.slice a3 n3 c3) (ws ++ [(i, s)]) := ⟨hb3, by rw [wcells_append]; simpa [wcells, wcell, SV] using HO3.out⟩
          obtain ⟨r1, r2, r3⟩ := ret_made (w := w) hr3 hz3 (by omega) hod hsz (hBB2.trans (hB3.mono hBB1.size)) 1 (.slice a3 n3 c3) (.slice ab2 nb2 cb2) (.slice a3 n3 c3)
          refine ret_disk2 (p := 6) (q := 7) (by kernel_rfl) rfl (w.heap.size + 1) _ _ (.int .i64 0) rfl rfl r3.cells.1 r3.cells.2.1 ?_
          exact ⟨_, _, by rw [E1.out], by rw [E2.out, E3.out]; exact r1, r2⟩
        · have d4 : decide ((100 : Int) ≤ ws.length) = true := by simp; omega
          have E1 := Lib.hid (show writeE bs ws i s = 41 by simp [writeE, hR, hH, h3, h4])
          have E2 := Lib.hid (show writeBs bs ws i s = [] by simp [writeBs, E1.out])
          have E3 := Lib.hid (show writeWs bs ws i s = [] by simp [writeWs, E1.out])
          clear hH
          rw [hR] at C1
          have K1 := Lib.hid C1
          clear C1 hR
          go_enter Try.func11, Try.ntmps11
          go_wp2_with fail
          refine K1.out.mono ?_
          rintro e w1 ⟨rfl, hB1⟩
          have hx1 := hx0.below hB1
          have hr1 := hr0.below hB1
          have hBB1 := below2 hB0 hB1
          obtain ⟨p0, p1, p2, p3, p4⟩ := hx1.cells
          obtain ⟨q0, q1, q2, q3, q4⟩ := hr1.cells
          go_wp2_with fail
          obtain ⟨r1, r2⟩ := ret_own (x := .slice none 0 0) (y := .slice none 0 0) (nil_own w1 (w.heap.size + 2)) (Nat.le_refl _) hBB1
          refine ret_disk2 (p := 6) (q := 7) (by kernel_rfl) rfl (w.heap.size + 1) (.slice none 0 0) (.slice none 0 0) (.int .i64 41) rfl rfl (by go_simp) (by go_simp) ?_
          exact ⟨_, _, by rw [E1.out], by rw [E2.out, E3.out]; exact r1, r2⟩
      · have d3 : decide ((256 : Int) < s.length) = true := by simp; omega
        have E1 := Lib.hid (show writeE bs ws i s = 1 by simp [writeE, hR, hH, h3])
        have E2 := Lib.hid (show writeBs bs ws i s = [] by simp [writeBs, E1.out])
        have E3 := Lib.hid (show writeWs bs ws i s = [] by simp [writeWs, E1.out])
        clear hH
        rw [hR] at C1
        have K1 := Lib.hid C1
        clear C1 hR
        go_enter Try.func11, Try.ntmps11
        go_wp2_with fail
        refine K1.out.mono ?_
        rintro e w1 ⟨rfl, hB1⟩
        have hx1 := hx0.below hB1
        have hr1 := hr0.below hB1
        have hBB1 := below2 hB0 hB1
        obtain ⟨p0, p1, p2, p3, p4⟩ := hx1.cells
        obtain ⟨q0, q1, q2, q3, q4⟩ := hr1.cells
        go_wp2_with fail
        obtain ⟨r1, r2⟩ := ret_own (x := .slice none 0 0) (y := .slice none 0 0) (nil_own w1 (w.heap.size + 2)) (Nat.le_refl _) hBB1
        refine ret_disk2 (p := 6) (q := 7) (by kernel_rfl) rfl (w.heap.size + 1) (.slice none 0 0) (.slice none 0 0) (.int .i64 1) rfl rfl (by go_simp) (by go_simp) ?_
        exact ⟨_, _, by rw [E1.out], by rw [E2.out, E3.out]; exact r1, r2⟩

end Go.Proofs.Ytcikgmgkaenpmaa
