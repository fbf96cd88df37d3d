/-
  StoreModel: the walk.
-/
import Derived.Test.YtbadbfmeoiclfaaGreatDoorZStoreStaysW
import Derived.Test.YtbadbfmeoiclfaaGreatDoorPks15b
namespace Go.Proofs.YtbadbfmeoiclfaaGreatDoor
set_option maxRecDepth 100000
open Go.RowKit

/-- What AsOf tells is what was laid last, if it is not gone. -/
theorem model_cases {K : List Lv} (h : TookK K) (p : List UInt8) (n : Int) (h0 : refE p n = 0) :
    (asL (pairsK K) p n = none ∧ lastB (lastK K p n) = false) ∨ (asL (pairsK K) p n = some (p, (lastD (lastK K p n)).1, (lastD (lastK K p n)).2.2.2) ∧ lastB (lastK K p n) = true ∧ (lastD (lastK K p n)).2.2.2.2.2.length ≤ 1000000) := by
  have h1 : asL (pairsK K) p n = told (asOf (pairsK K) p n) := by rw [asL, if_pos h0]
  have h2 : told (asOf (pairsK K) p n) = match lastK K p n with | none => none | some x => if x.2.2.1 then none else some (p, x.1, x.2.2.2) := told_last h p n
  have h3 := fun e => told_chunks h (p := p) (n := n) (e := e)
  rw [h1]
  rw [h2] at h3 ⊢
  cases hl : lastK K p n with
  | none => exact .inl ⟨rfl, rfl⟩
  | some x =>
    obtain ⟨when, q, g, z, d, cs⟩ := x
    rw [hl] at h3
    cases g with
    | true => exact .inl ⟨rfl, rfl⟩
    | false =>
      refine .inr ⟨rfl, rfl, ?_⟩
      have := h3 _ rfl
      dsimp only [lastD, Option.getD]
      dsimp only at this
      omega
theorem refE_cases {s : List UInt8} {n : Int} (h : refE s n ≠ 0) : refE s n = 20 ∨ refE s n = 1 ∧ n < 0 := by
  unfold refE at h ⊢
  by_cases hp : isP s = true
  · rw [if_pos hp] at h ⊢
    by_cases hn : n < 0
    · rw [if_pos hn]
      exact .inr ⟨rfl, hn⟩
    · rw [if_neg hn] at h
      exact absurd rfl h
  · rw [if_neg hp]
    exact .inl rfl

set_option maxHeartbeats 8000000 in
theorem storeModel_walk (v : Value) (S : List Lv) (p : List UInt8) (n : Int) (w : World) (h : Lds w v S) (hf : FitL S) (hp : p.length ≤ 9223372036854775807) (hml : Ml w) :
    Calls Tryz.prog 4 #[v, .string ⟨p.toArray⟩, .int .i64 n] w fun e w' => e = .returned (.bool true) ∧ Below w.heap.size w w' := by
  obtain ⟨av, cv, rfl⟩ := h.form
  have KB := Lib.hid (refL_calls _ S w h hf)
  cases hb : bigL S with
  | true =>
    rw [hb] at KB
    clear h hf hb
    go_enter Tryz.func4, Tryz.ntmps4
    go_wp2_with fail
    refine KB.out.mono ?_
    rintro e w1 ⟨rfl, rfl⟩
    go_wp2_with fail
    go_ret
    exact ⟨rfl, Below.refl _ _⟩
  | false =>
    obtain ⟨hS20, hSs⟩ := bigL_small hb
    rw [hb] at KB
    by_cases hd3 : 300 < p.length
    · have hdd : decide ((300 : Int) < (p.length : Int)) = true := by rw [decide_eq_true_eq]; omega
      clear h hf hb hSs
      go_enter Tryz.func4, Tryz.ntmps4
      go_wp2_with fail
      refine KB.out.mono ?_
      rintro e w1 ⟨rfl, rfl⟩
      go_wp2_with fail
      go_ret
      exact ⟨rfl, Below.refl _ _⟩
    · have hdd : decide ((300 : Int) < (p.length : Int)) = false := by rw [decide_eq_false_iff_not]; omega
      have KD := Lib.hid (soLaid_calls _ S w h hS20 hSs hml)
      have HK := Lib.hid (And.intro (took_all S) (fun x (hx : x ∈ tookS S) => (hSs x ((took_all S).2.2 x hx)).2))
      obtain ⟨K, hK⟩ : ∃ K, tookS S = K := ⟨_, rfl⟩
      rw [hK] at KD HK
      have hK20 : K.length ≤ 20 := by have := HK.out.1.2.1; omega
      have KA := Lib.hid (fun (W : World) tv (ht : TreeV W tv (pairsK K)) (hm : Ml W) => asOf_calls (pairsK_sto HK.out.1.1 (by omega) ht hm) (pairsK_st HK.out.1.1).2 p n (by omega))
      have KL := Lib.hid (fun (W : World) u (hu : Lds W u K) => last_calls u K p n W hu (by omega) (fun x hx => by have := HK.out.2 x hx; omega))
      have KS := Lib.hid (fun W hm => stored_calls W hm)
      have HQ := Lib.hid hml
      by_cases h0 : refE p n = 0
      · rw [h0] at KA
        rcases model_cases HK.out.1.1 p n h0 with ⟨hA, hB⟩ | ⟨hA, hB, hl⟩
        · rw [hA] at KA
          rw [hB] at KL
          obtain ⟨⟨when, q, g, z, d, cs⟩, hD⟩ : ∃ x, lastD (lastK K p n) = x := ⟨_, rfl⟩
          rw [hD] at KL
          dsimp only [enD, Option.getD, Option.isSome, EV] at KA KL
          clear h hf hb hSs hml hK hd3 h0 hA hB hD
          go_enter Tryz.func4, Tryz.ntmps4
          go_wp2_with fail
          refine KB.out.mono ?_
          rintro e w1 ⟨rfl, rfl⟩
          go_wp2_with fail
          refine KD.out.mono ?_
          rintro e w2 ⟨t, r, rfl, ht, hr, hB2⟩
          obtain ⟨tp, rfl⟩ := ht.val
          obtain ⟨ar, cr, rfl⟩ := hr.form
          have HT := Lib.hid (And.intro ht (And.intro hB2 hr.lds))
          clear ht hr hB2
          go_wp2_with fail
          refine (KA.out _ _ HT.out.1 (HQ.out.below HT.out.2.1)).mono ?_
          rintro e w3 ⟨v3, rfl, hI, hB3⟩
          obtain ⟨a3, c3, rfl⟩ := (ints_own hI).form
          have hBa := below_alloc w3 (.cells #[.string ⟨#[]⟩, .int .i64 0, .int .i64 0, .int .i64 0, .slice a3 0 c3] 41)
          have H3 := Lib.hid (And.intro ((ints_own hI).below hBa) (And.intro (below2 hB3 hBa) (Cx.new w3 41 [.string ⟨#[]⟩, .int .i64 0, .int .i64 0, .int .i64 0, .slice a3 0 c3])))
          clear hI hB3 hBa
          go_wp2_with fail
          refine (KL.out _ _ (HT.out.2.2.below H3.out.2.1)).mono ?_
          rintro e w4 ⟨u4, rfl, hI4, hB4⟩
          obtain ⟨a4, c4, rfl⟩ := hI4.form
          obtain ⟨n4, hn4⟩ : ∃ k, cs.length = k := ⟨_, rfl⟩
          rw [hn4]
          have hBa := below_alloc w4 (.cells #[.string ⟨q.toArray⟩, .bool g, .int .i64 z, .int .i64 d, .slice a4 n4 c4] 62)
          have H4 := Lib.hid (And.intro (H3.out.1.below (below2 hB4 hBa)) (And.intro (below2 H3.out.2.1 (below2 hB4 hBa)) (H3.out.2.2.below (below2 hB4 hBa))))
          clear hI4 hB4 hBa hn4
          go_wp2_with fail
          refine (KS.out _ (HQ.out.below (below2 HT.out.2.1 H4.out.2.1))).mono ?_
          rintro e w5 ⟨rfl, hB5⟩
          have H5 := Lib.hid (And.intro (H4.out.1.below hB5) (below2 H4.out.2.1 hB5))
          obtain ⟨⟨c0, c1, c2, c3, c4⟩, _, _⟩ := (H4.out.2.2.below hB5).five2
          have KE := Lib.hid (sameEntry_calls ([], 0, 0, 0, []) ([], 0, 0, 0, []) _ _ w5 H5.out.1 (Ints.nil w5) (by simp))
          rw [show sameE ([], 0, 0, 0, []) ([], 0, 0, 0, []) = true by rfl] at KE
          dsimp only [EV] at KE
          clear hB5
          go_wp2_with fail
          refine KE.out.mono ?_
          rintro e w6 ⟨rfl, hB6⟩
          go_wp2_with fail
          go_ret
          exact ⟨rfl, below2 HT.out.2.1 (below2 H5.out.2 hB6)⟩
        · rw [hA] at KA
          rw [hB] at KL
          obtain ⟨⟨when, q, g, z, d, cs⟩, hD⟩ : ∃ x, lastD (lastK K p n) = x := ⟨_, rfl⟩
          rw [hD] at KA KL hl
          dsimp only [enD, Option.getD, Option.isSome, EV] at KA KL hl
          have HL := Lib.hid hl
          have hpp : (p == p) = true := by simp
          have hww : (when == when) = true := by simp
          obtain ⟨n4, hn4⟩ : ∃ k, cs.length = k := ⟨_, rfl⟩
          have HN := Lib.hid hn4
          clear h hf hb hSs hml hK hd3 h0 hA hB hD hl hn4
          go_enter Tryz.func4, Tryz.ntmps4
          go_wp2_with fail
          refine KB.out.mono ?_
          rintro e w1 ⟨rfl, rfl⟩
          go_wp2_with fail
          refine KD.out.mono ?_
          rintro e w2 ⟨t, r, rfl, ht, hr, hB2⟩
          obtain ⟨tp, rfl⟩ := ht.val
          obtain ⟨ar, cr, rfl⟩ := hr.form
          have HT := Lib.hid (And.intro ht (And.intro hB2 hr.lds))
          clear ht hr hB2
          go_wp2_with fail
          refine (KA.out _ _ HT.out.1 (HQ.out.below HT.out.2.1)).mono ?_
          rintro e w3 ⟨v3, rfl, hI, hB3⟩
          obtain ⟨a3, c3, rfl⟩ := (ints_own hI).form
          rw [HN.out] at hI ⊢
          have hBa := below_alloc w3 (.cells #[.string ⟨p.toArray⟩, .int .i64 when, .int .i64 z, .int .i64 d, .slice a3 n4 c3] 41)
          have H3 := Lib.hid (And.intro ((ints_own hI).below hBa) (And.intro (below2 hB3 hBa) (Cx.new w3 41 [.string ⟨p.toArray⟩, .int .i64 when, .int .i64 z, .int .i64 d, .slice a3 n4 c3])))
          clear hI hB3 hBa
          go_wp2_with fail
          refine (KL.out _ _ (HT.out.2.2.below H3.out.2.1)).mono ?_
          rintro e w4 ⟨u4, rfl, hI4, hB4⟩
          obtain ⟨a4, c4, rfl⟩ := hI4.form
          rw [HN.out] at hI4 ⊢
          have hBa := below_alloc w4 (.cells #[.string ⟨q.toArray⟩, .bool g, .int .i64 z, .int .i64 d, .slice a4 n4 c4] 62)
          have H4 := Lib.hid (And.intro (H3.out.1.below (below2 hB4 hBa)) (And.intro (below2 H3.out.2.1 (below2 hB4 hBa)) (And.intro (H3.out.2.2.below (below2 hB4 hBa)) (And.intro (hI4.below hBa) (Cx.new w4 62 [.string ⟨q.toArray⟩, .bool g, .int .i64 z, .int .i64 d, .slice a4 n4 c4])))))
          clear hI4 hB4 hBa
          go_wp2_with fail
          refine (KS.out _ (HQ.out.below (below2 HT.out.2.1 H4.out.2.1))).mono ?_
          rintro e w5 ⟨rfl, hB5⟩
          have H5 := Lib.hid (And.intro (H4.out.1.below hB5) (below2 H4.out.2.1 hB5))
          obtain ⟨⟨c0, c1, c2, c3, c4⟩, _, _⟩ := (H4.out.2.2.1.below hB5).five2
          obtain ⟨⟨d0, d1, d2, d3, d4⟩, _, _⟩ := (H4.out.2.2.2.2.below hB5).five2
          have KE := Lib.hid (mSame_calls z d _ cs z d _ cs w5 H5.out.1 (H4.out.2.2.2.1.below hB5) HL.out)
          rw [show sameM z d cs z d cs = true by simp [sameM]] at KE
          dsimp only [MV] at KE
          clear hB5
          go_wp2_with fail
          refine KE.out.mono ?_
          rintro e w6 ⟨rfl, hB6⟩
          go_wp2_with fail
          go_ret
          exact ⟨rfl, below2 HT.out.2.1 (below2 H5.out.2 hB6)⟩
      · have hE := refE_cases h0
        have hA : asL (pairsK K) p n = none := by rw [asL, if_neg h0]
        obtain ⟨E, hE0⟩ : ∃ E, refE p n = E := ⟨_, rfl⟩
        rw [hE0] at hE KA
        rw [hA] at KA
        dsimp only [enD, Option.getD, Option.isSome, EV] at KA
        obtain ⟨b, hbn⟩ : ∃ b, decide (n < 0) = b := ⟨_, rfl⟩
        have hcase : (E = 20 ∧ b = true) ∨ (E = 20 ∧ b = false) ∨ (E = 1 ∧ b = true) := by
          rcases hE with rfl | ⟨rfl, hn⟩
          · cases b
            · exact .inr (.inl ⟨rfl, rfl⟩)
            · exact .inl ⟨rfl, rfl⟩
          · exact .inr (.inr ⟨rfl, by rw [← hbn]; exact decide_eq_true hn⟩)
        clear h hf hb hSs hml hK hd3 h0 hA hE0 hE KL
        rcases hcase with ⟨rfl, rfl⟩ | ⟨rfl, rfl⟩ | ⟨rfl, rfl⟩
        all_goals
          go_enter Tryz.func4, Tryz.ntmps4
          go_wp2_with fail
          refine KB.out.mono ?_
          rintro e w1 ⟨rfl, rfl⟩
          go_wp2_with fail
          refine KD.out.mono ?_
          rintro e w2 ⟨t, r, rfl, ht, hr, hB2⟩
          obtain ⟨tp, rfl⟩ := ht.val
          obtain ⟨ar, cr, rfl⟩ := hr.form
          have HT := Lib.hid (And.intro ht hB2)
          clear ht hr hB2
          go_wp2_with fail
          refine (KA.out _ _ HT.out.1 (HQ.out.below HT.out.2)).mono ?_
          rintro e w3 ⟨v3, rfl, hI, hB3⟩
          obtain ⟨a3, c3, rfl⟩ := (ints_own hI).form
          have hBa := below_alloc w3 (.cells #[.string ⟨#[]⟩, .int .i64 0, .int .i64 0, .int .i64 0, .slice a3 0 c3] 41)
          have H3 := Lib.hid (below2 HT.out.2 (below2 hB3 hBa))
          clear hI hB3 hBa
          go_wp2_with fail
          refine (KS.out _ (HQ.out.below H3.out)).mono ?_
          rintro e w4 ⟨rfl, hB4⟩
          go_wp2_with fail
          go_ret
          exact ⟨rfl, below2 H3.out hB4⟩

end Go.Proofs.YtbadbfmeoiclfaaGreatDoor
