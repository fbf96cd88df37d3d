/-
  The walk of DiskReads.
-/
import Derived.Test.YtcikgmgkaenpmaaFar
import Derived.Test.YtcikgmgkaenpmaaSpun
namespace Go.Proofs.Ytcikgmgkaenpmaa
open Go.RowKit

theorem write_ok {bs : List (List UInt8)} {ws : List Wr} {i : Int} {s : List UInt8} (h : writeE bs ws i s = 0) : rightB bs ws = true ∧ hasB bs.length i = true ∧ s.length ≤ 256 ∧ ws.length < 100 := by
  unfold writeE at h
  split at h
  · split at h
    · split at h
      · split at h
        · exact ⟨by assumption, by assumption, by assumption, by assumption⟩
        · omega
      · omega
    · omega
  · omega
theorem right_more {bs : List (List UInt8)} {ws : List Wr} {i : Int} {s : List UInt8} (h : writeE bs ws i s = 0) : rightB bs (ws ++ [(i, s)]) = true := by
  obtain ⟨h1, h2, h3, h4⟩ := write_ok h
  simp only [rightB, Bool.and_eq_true, decide_eq_true_eq] at h1 ⊢
  obtain ⟨⟨⟨⟨a1, a2⟩, a3⟩, a4⟩, a5⟩ := h1
  refine ⟨⟨⟨⟨a1, a2⟩, by simp; omega⟩, a4⟩, ?_⟩
  rw [List.all_append, a5]
  simp [writeB, h2, blockB, h3]
theorem read_at {bs : List (List UInt8)} {ws : List Wr} {i : Int} {s : List UInt8} (h : writeE bs ws i s = 0) : readE bs (ws ++ [(i, s)]) i = 0 ∧ readT bs (ws ++ [(i, s)]) i = s := by
  have h1 := right_more h
  have h2 := (write_ok h).2.1
  have e : readE bs (ws ++ [(i, s)]) i = 0 := by simp [readE, h1, h2]
  exact ⟨e, by rw [readT, if_pos e]; exact says_cons_hit bs ws (i, s) i rfl h2⟩
theorem read_other {bs : List (List UInt8)} {ws : List Wr} {i : Int} {s : List UInt8} (h : writeE bs ws i s = 0) (j : Int) : readE bs (ws ++ [(i, s)]) j = readE bs ws j ∧ (j ≠ i → readT bs (ws ++ [(i, s)]) j = readT bs ws j) := by
  have h1 := right_more h
  have h2 := (write_ok h).2.1
  have h0 := (write_ok h).1
  have e : readE bs (ws ++ [(i, s)]) j = readE bs ws j := by simp [readE, h1, h0]
  refine ⟨e, fun hj => ?_⟩
  unfold readT
  rw [e]
  split
  · rename_i hz
    have hj2 : hasB bs.length j = true := by
      unfold readE at hz
      rw [if_pos h0] at hz
      split at hz
      · assumption
      · omega
    exact says_cons_miss bs ws (i, s) j (fun e => hj e.symm) h2 hj2
  · rfl

set_option maxRecDepth 100000 in
set_option maxHeartbeats 8000000 in
theorem diskReads_walk (vb vw : Value) (bs : List (List UInt8)) (ws : List Wr) (i j : Int) (s : List UInt8) (w0 : World) (ht0 : Txts w0 vb bs) (hv0 : Wrs w0 vw ws) :
    Calls Try.prog 4 #[.agg #[vb, vw], .int .i64 i, .int .i64 j, .string ⟨s.toArray⟩] w0 fun e w' => e = .returned (.bool true) ∧ Below w0.heap.size w0 w' := by
  obtain ⟨ab0, cb0, rfl⟩ := ht0.strs.form
  obtain ⟨aw0, cw0, rfl⟩ := hv0.form
  have hBB := below_alloc w0 (.cells #[.slice ab0 bs.length cb0, .slice aw0 ws.length cw0] 25)
  replace hBB := Below.refl w0.heap.size w0
  cases hF : farB bs ws s 0 with
  | true =>
    have HF := Lib.hid hF
    clear hF
    go_enter Try.func4, Try.ntmps4
    go_wp2_with fail
    refine (far_calls _ _ none 0 0 _ _ s _ (ht0.below (below_alloc _ _)) (hv0.below (below_alloc _ _))).mono ?_
    rintro e w1 ⟨he, hB1⟩
    rw [HF.out] at he
    subst he
    have hC1 := below2 (below_alloc _ _) hB1
    have hx0 := (Bx.new w0 _ _).below hB1
    replace ht0 := ht0.below hC1
    replace hv0 := hv0.below hC1
    have c00 := hx0.cells.1
    have c01 := hx0.cells.2.1
    have l0 := hx0.cells.2.2.2.2
    replace hBB := below2 hBB hC1
    go_wp2_with fail
    go_ret
    exact ⟨rfl, hBB⟩
  | false =>
    have HF := Lib.hid hF
    clear hF
    obtain ⟨c, hc⟩ : ∃ c, c = writeE bs ws i s := ⟨_, rfl⟩
    by_cases h0 : c = 0
    · have h0' : writeE bs ws i s = 0 := by rw [← hc]; exact h0
      have E1 := Lib.hid h0'
      have E2 := Lib.hid (read_at h0')
      have E3 := Lib.hid (read_other h0' j)
      have B2 := Lib.hid (show writeBs bs ws i s = bs by simp [writeBs, h0'])
      have W2 := Lib.hid (show writeWs bs ws i s = ws ++ [(i, s)] by simp [writeWs, h0'])
      clear h0' h0 hc
      obtain ⟨E, hE⟩ : ∃ c, c = readE bs ws j := ⟨_, rfl⟩
      obtain ⟨T, hT⟩ : ∃ c, c = readT bs ws j := ⟨_, rfl⟩
      have HE := Lib.hid hE
      have HT := Lib.hid hT
      clear hE hT
      by_cases hij : j = i
      · have hb : (j == i) = true := by simp [hij]
        have HIJ := Lib.hid hij
        clear hij
        go_enter Try.func4, Try.ntmps4
        go_wp2_with fail
        refine (far_calls _ _ none 0 0 _ _ s _ (ht0.below (below_alloc _ _)) (hv0.below (below_alloc _ _))).mono ?_
        rintro e w1 ⟨he, hB1⟩
        rw [HF.out] at he
        subst he
        have hC1 := below2 (below_alloc _ _) hB1
        have hx0 := (Bx.new w0 _ _).below hB1
        replace ht0 := ht0.below hC1
        replace hv0 := hv0.below hC1
        have c00 := hx0.cells.1
        have c01 := hx0.cells.2.1
        have l0 := hx0.cells.2.2.2.2
        replace hBB := below2 hBB hC1
        go_wp2_with fail
        refine (write_calls _ _ _ _ i s _ ht0 hv0).mono ?_
        rintro e w2 ⟨vb2, vw2, he, ho2, hB2⟩
        rw [E1.out] at he
        subst he
        have hC2 := hB2
        replace hx0 := hx0.below hC2
        replace ht0 := ht0.below hC2
        replace hv0 := hv0.below hC2
        replace c00 := hx0.cells.1
        replace c01 := hx0.cells.2.1
        replace l0 := hx0.cells.2.2.2.2
        replace hBB := below2 hBB hC2
        obtain ⟨ab2, nb2, cb2, aw2, nw2, cw2, rfl, rfl, hnb2, hnw2⟩ := ho2.forms
        have ht2 := ho2.texts
        have hv2 := ho2.wrs
        have N2 := Lib.hid (And.intro hnb2 hnw2)
        clear hnb2 hnw2
        rw [B2.out] at ht2
        rw [W2.out] at hv2
        go_wp2_with fail
        refine (read_calls _ _ _ _ i _ (ht2.below (below_alloc _ _)) (hv2.below (below_alloc _ _))).mono ?_
        rintro e w3 ⟨he, hB3⟩
        rw [E2.out.1] at he
        rw [E2.out.2] at he
        subst he
        have hC3 := below2 (below_alloc _ _) hB3
        replace hx0 := hx0.below hC3
        replace ht0 := ht0.below hC3
        replace hv0 := hv0.below hC3
        have hx2 := (Bx.new w2 _ _).below hB3
        replace ht2 := ht2.below hC3
        replace hv2 := hv2.below hC3
        replace c00 := hx0.cells.1
        replace c01 := hx0.cells.2.1
        replace l0 := hx0.cells.2.2.2.2
        have c20 := hx2.cells.1
        have c21 := hx2.cells.2.1
        have l2 := hx2.cells.2.2.2.2
        replace hBB := below2 hBB hC3
        go_wp2_with fail
        refine (read_calls _ _ _ _ j _ ht0 hv0).mono ?_
        rintro e w4 ⟨he, hB4⟩
        rw [← HE.out] at he
        rw [← HT.out] at he
        subst he
        have hC4 := hB4
        replace hx0 := hx0.below hC4
        replace ht0 := ht0.below hC4
        replace hv0 := hv0.below hC4
        replace hx2 := hx2.below hC4
        replace ht2 := ht2.below hC4
        replace hv2 := hv2.below hC4
        replace c00 := hx0.cells.1
        replace c01 := hx0.cells.2.1
        replace l0 := hx0.cells.2.2.2.2
        replace c20 := hx2.cells.1
        replace c21 := hx2.cells.2.1
        replace l2 := hx2.cells.2.2.2.2
        replace hBB := below2 hBB hC4
        obtain ⟨T2, hT2⟩ : ∃ c, c = readT bs (ws ++ [(i, s)]) j := ⟨_, rfl⟩
        go_wp2_with fail
        refine (read_calls _ _ _ _ j _ ht2 hv2).mono ?_
        rintro e w5 ⟨he, hB5⟩
        rw [E3.out.1] at he
        rw [← HE.out] at he
        rw [← hT2] at he
        subst he
        have hC5 := hB5
        replace hx0 := hx0.below hC5
        replace ht0 := ht0.below hC5
        replace hv0 := hv0.below hC5
        replace hx2 := hx2.below hC5
        replace ht2 := ht2.below hC5
        replace hv2 := hv2.below hC5
        replace c00 := hx0.cells.1
        replace c01 := hx0.cells.2.1
        replace l0 := hx0.cells.2.2.2.2
        replace c20 := hx2.cells.1
        replace c21 := hx2.cells.2.1
        replace l2 := hx2.cells.2.2.2.2
        replace hBB := below2 hBB hC5
        clear hT2
        go_wp2_with fail
        refine (spun_calls _).mono ?_
        rintro e w6 ⟨he, hB6⟩
        subst he
        have hC6 := hB6
        replace hx0 := hx0.below hC6
        replace ht0 := ht0.below hC6
        replace hv0 := hv0.below hC6
        replace hx2 := hx2.below hC6
        replace ht2 := ht2.below hC6
        replace hv2 := hv2.below hC6
        replace c00 := hx0.cells.1
        replace c01 := hx0.cells.2.1
        replace l0 := hx0.cells.2.2.2.2
        replace c20 := hx2.cells.1
        replace c21 := hx2.cells.2.1
        replace l2 := hx2.cells.2.2.2.2
        replace hBB := below2 hBB hC6
        go_wp2_with fail
        go_ret
        exact ⟨rfl, hBB⟩
      · have hb : (j == i) = false := by simp [hij]
        have HIJ := Lib.hid hij
        clear hij
        go_enter Try.func4, Try.ntmps4
        go_wp2_with fail
        refine (far_calls _ _ none 0 0 _ _ s _ (ht0.below (below_alloc _ _)) (hv0.below (below_alloc _ _))).mono ?_
        rintro e w1 ⟨he, hB1⟩
        rw [HF.out] at he
        subst he
        have hC1 := below2 (below_alloc _ _) hB1
        have hx0 := (Bx.new w0 _ _).below hB1
        replace ht0 := ht0.below hC1
        replace hv0 := hv0.below hC1
        have c00 := hx0.cells.1
        have c01 := hx0.cells.2.1
        have l0 := hx0.cells.2.2.2.2
        replace hBB := below2 hBB hC1
        go_wp2_with fail
        refine (write_calls _ _ _ _ i s _ ht0 hv0).mono ?_
        rintro e w2 ⟨vb2, vw2, he, ho2, hB2⟩
        rw [E1.out] at he
        subst he
        have hC2 := hB2
        replace hx0 := hx0.below hC2
        replace ht0 := ht0.below hC2
        replace hv0 := hv0.below hC2
        replace c00 := hx0.cells.1
        replace c01 := hx0.cells.2.1
        replace l0 := hx0.cells.2.2.2.2
        replace hBB := below2 hBB hC2
        obtain ⟨ab2, nb2, cb2, aw2, nw2, cw2, rfl, rfl, hnb2, hnw2⟩ := ho2.forms
        have ht2 := ho2.texts
        have hv2 := ho2.wrs
        have N2 := Lib.hid (And.intro hnb2 hnw2)
        clear hnb2 hnw2
        rw [B2.out] at ht2
        rw [W2.out] at hv2
        go_wp2_with fail
        refine (read_calls _ _ _ _ i _ (ht2.below (below_alloc _ _)) (hv2.below (below_alloc _ _))).mono ?_
        rintro e w3 ⟨he, hB3⟩
        rw [E2.out.1] at he
        rw [E2.out.2] at he
        subst he
        have hC3 := below2 (below_alloc _ _) hB3
        replace hx0 := hx0.below hC3
        replace ht0 := ht0.below hC3
        replace hv0 := hv0.below hC3
        have hx2 := (Bx.new w2 _ _).below hB3
        replace ht2 := ht2.below hC3
        replace hv2 := hv2.below hC3
        replace c00 := hx0.cells.1
        replace c01 := hx0.cells.2.1
        replace l0 := hx0.cells.2.2.2.2
        have c20 := hx2.cells.1
        have c21 := hx2.cells.2.1
        have l2 := hx2.cells.2.2.2.2
        replace hBB := below2 hBB hC3
        go_wp2_with fail
        refine (read_calls _ _ _ _ j _ ht0 hv0).mono ?_
        rintro e w4 ⟨he, hB4⟩
        rw [← HE.out] at he
        rw [← HT.out] at he
        subst he
        have hC4 := hB4
        replace hx0 := hx0.below hC4
        replace ht0 := ht0.below hC4
        replace hv0 := hv0.below hC4
        replace hx2 := hx2.below hC4
        replace ht2 := ht2.below hC4
        replace hv2 := hv2.below hC4
        replace c00 := hx0.cells.1
        replace c01 := hx0.cells.2.1
        replace l0 := hx0.cells.2.2.2.2
        replace c20 := hx2.cells.1
        replace c21 := hx2.cells.2.1
        replace l2 := hx2.cells.2.2.2.2
        replace hBB := below2 hBB hC4
        go_wp2_with fail
        refine (read_calls _ _ _ _ j _ ht2 hv2).mono ?_
        rintro e w5 ⟨he, hB5⟩
        rw [E3.out.1] at he
        rw [E3.out.2 HIJ.out] at he
        rw [← HE.out] at he
        rw [← HT.out] at he
        subst he
        have hC5 := hB5
        replace hx0 := hx0.below hC5
        replace ht0 := ht0.below hC5
        replace hv0 := hv0.below hC5
        replace hx2 := hx2.below hC5
        replace ht2 := ht2.below hC5
        replace hv2 := hv2.below hC5
        replace c00 := hx0.cells.1
        replace c01 := hx0.cells.2.1
        replace l0 := hx0.cells.2.2.2.2
        replace c20 := hx2.cells.1
        replace c21 := hx2.cells.2.1
        replace l2 := hx2.cells.2.2.2.2
        replace hBB := below2 hBB hC5
        go_wp2_with fail
        refine (spun_calls _).mono ?_
        rintro e w6 ⟨he, hB6⟩
        subst he
        have hC6 := hB6
        replace hx0 := hx0.below hC6
        replace ht0 := ht0.below hC6
        replace hv0 := hv0.below hC6
        replace hx2 := hx2.below hC6
        replace ht2 := ht2.below hC6
        replace hv2 := hv2.below hC6
        replace c00 := hx0.cells.1
        replace c01 := hx0.cells.2.1
        replace l0 := hx0.cells.2.2.2.2
        replace c20 := hx2.cells.1
        replace c21 := hx2.cells.2.1
        replace l2 := hx2.cells.2.2.2.2
        replace hBB := below2 hBB hC6
        go_wp2_with fail
        go_ret
        exact ⟨rfl, hBB⟩
    · have hcb : (c != 0) = true := by simpa using h0
      have B2 := Lib.hid (show writeBs bs ws i s = [] by simp [writeBs, ← hc, h0])
      have E1 := Lib.hid hc
      clear h0 hc
      go_enter Try.func4, Try.ntmps4
      go_wp2_with fail
      refine (far_calls _ _ none 0 0 _ _ s _ (ht0.below (below_alloc _ _)) (hv0.below (below_alloc _ _))).mono ?_
      rintro e w1 ⟨he, hB1⟩
      rw [HF.out] at he
      subst he
      have hC1 := below2 (below_alloc _ _) hB1
      have hx0 := (Bx.new w0 _ _).below hB1
      replace ht0 := ht0.below hC1
      replace hv0 := hv0.below hC1
      have c00 := hx0.cells.1
      have c01 := hx0.cells.2.1
      have l0 := hx0.cells.2.2.2.2
      replace hBB := below2 hBB hC1
      go_wp2_with fail
      refine (write_calls _ _ _ _ i s _ ht0 hv0).mono ?_
      rintro e w2 ⟨vb2, vw2, he, ho2, hB2⟩
      rw [← E1.out] at he
      subst he
      have hC2 := hB2
      replace hx0 := hx0.below hC2
      replace ht0 := ht0.below hC2
      replace hv0 := hv0.below hC2
      replace c00 := hx0.cells.1
      replace c01 := hx0.cells.2.1
      replace l0 := hx0.cells.2.2.2.2
      replace hBB := below2 hBB hC2
      obtain ⟨ab2, nb2, cb2, aw2, nw2, cw2, rfl, rfl, hnb2, hnw2⟩ := ho2.forms
      have ht2 := ho2.texts
      have hv2 := ho2.wrs
      have N2 := Lib.hid (And.intro hnb2 hnw2)
      clear hnb2 hnw2
      rw [B2.out] at N2
      obtain rfl : nb2 = 0 := N2.out.1
      go_wp2_with fail
      refine (spun_calls _).mono ?_
      rintro e w3 ⟨he, hB3⟩
      subst he
      have hC3 := below2 (below_alloc _ _) hB3
      replace hx0 := hx0.below hC3
      replace ht0 := ht0.below hC3
      replace hv0 := hv0.below hC3
      have hx2 := (Bx.new w2 _ _).below hB3
      replace ht2 := ht2.below hC3
      replace hv2 := hv2.below hC3
      replace c00 := hx0.cells.1
      replace c01 := hx0.cells.2.1
      replace l0 := hx0.cells.2.2.2.2
      have c20 := hx2.cells.1
      have c21 := hx2.cells.2.1
      have l2 := hx2.cells.2.2.2.2
      replace hBB := below2 hBB hC3
      go_wp2_with fail
      go_ret
      exact ⟨rfl, hBB⟩

end Go.Proofs.Ytcikgmgkaenpmaa
