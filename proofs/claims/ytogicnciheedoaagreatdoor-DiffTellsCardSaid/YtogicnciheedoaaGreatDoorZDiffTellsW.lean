/-
  DiffTells: the walk.
-/
import Derived.Test.YtogicnciheedoaaGreatDoorPks16a
import Derived.Test.YtogicnciheedoaaGreatDoorPks16b
import Derived.Test.YtogicnciheedoaaGreatDoorPks16c
import Derived.Test.YtogicnciheedoaaGreatDoorPks15c
namespace Go.Proofs.YtogicnciheedoaaGreatDoor
set_option maxRecDepth 100000
open Go.RowKit

set_option maxHeartbeats 32000000 in
theorem diffTells_walk (v : Value) (S : List Lv) (d : List UInt8) (m n : Int) (w : World) (h : Lds w v S) (hf : FitL S) (hdl : d.length ≤ 9223372036854775807) (hml : Ml w) (hki : KiOk w) :
    Calls Tryz.prog 6 #[v, .string ⟨d.toArray⟩, .int .i64 m, .int .i64 n] w fun e w' => e = .returned (.bool true) ∧ Below w.heap.size w w' := by
  obtain ⟨av, cv, rfl⟩ := h.form
  obtain ⟨nl, hnL⟩ : ∃ k, S.length = k := ⟨_, rfl⟩
  have KB := Lib.hid (refL_calls _ S w h hf)
  rw [hnL] at KB ⊢
  cases hb : bigL S with
  | true =>
    rw [hb] at KB
    clear h hf hb hnL
    go_enter Tryz.func6, Tryz.ntmps6
    go_wp2_with fail
    refine KB.out.mono ?_
    rintro e w1 ⟨rfl, rfl⟩
    go_wp2_with fail
    go_ret
    exact ⟨rfl, Below.refl _ _⟩
  | false =>
    obtain ⟨hl20, hls⟩ := bigL_small hb
    rw [hb] at KB
    by_cases hp3 : 300 < d.length
    · have hdd : decide ((300 : Int) < (d.length : Int)) = true := by rw [decide_eq_true_eq]; omega
      clear h hf hb hnL hls hp3
      go_enter Tryz.func6, Tryz.ntmps6
      go_wp2_with fail
      refine KB.out.mono ?_
      rintro e w1 ⟨rfl, rfl⟩
      go_wp2_with fail
      go_ret
      exact ⟨rfl, Below.refl _ _⟩
    · have hdd : decide ((300 : Int) < (d.length : Int)) = false := by rw [decide_eq_false_iff_not]; omega
      have KL := Lib.hid (diLaid_calls _ S w h hl20 hls hml)
      rw [hnL] at KL
      obtain ⟨hK1, hK2, _⟩ := took_all S
      obtain ⟨hUr, hUs⟩ := pairsK_st hK1
      have hUn := pairsK_len hK1
      have HST : Hid (∀ W tv, TreeV W tv (pairsK (tookS S)) → Ml W → Sto W tv (pairsK (tookS S))) := Lib.hid (fun W tv ht hm => pairsK_sto hK1 (by omega) ht hm)
      have hUn1 : (pairsK (tookS S)).length ≤ 1000 := by omega
      obtain ⟨U, hU⟩ : ∃ U, pairsK (tookS S) = U := ⟨_, rfl⟩
      rw [hU] at KL hUr hUs hUn1 HST
      have HU := Lib.hid (And.intro hUr hUn1)
      have HP := Lib.hid (show d.length ≤ 1000000 by omega)
      have HM := Lib.hid (And.intro hml hki)
      have HLEN := Lib.hid (fun (p : List UInt8) (m n : Int) => ofX_len (U := U) (d := p) (fun n => Nat.le_trans (listX_facts hUr p n).1 HU.out.2) m n)
      clear h hf hb hnL hls hUr hUs hUn hUn1 hU hml hki hp3 hK1 hK2 hl20
      go_enter Tryz.func6, Tryz.ntmps6
      go_wp2_with fail
      refine KB.out.mono ?_
      rintro e w1 ⟨rfl, rfl⟩
      go_wp2_with fail
      refine KL.out.mono ?_
      rintro e w2 ⟨t, rfl, ht, hB2⟩
      obtain ⟨tp, rfl⟩ := ht.val
      have HT := Lib.hid (And.intro (HST.out _ _ ht (HM.out.1.below hB2)) hB2)
      clear ht hB2
      go_wp2_with fail
      refine (of_calls HT.out.1 [] m n (by decide)).mono ?_
      rintro e w11 ⟨u, rfl, ho, hB⟩
      obtain ⟨_, _, rfl⟩ := ho.form
      have HB11 := Lib.hid (below2 HT.out.2 hB)
      have HS11 := Lib.hid (HT.out.1.below hB)
      have RA := Lib.hid (ho.row)
      clear hB ho
      obtain ⟨⟨p1, t1, z1, d1, cs1⟩, he1⟩ : ∃ x, enD (asX U d m) = x := ⟨_, rfl⟩
      have KA1 := Lib.hid (fun W (hW : Sto W (.pointer tp) U) => asOfX_calls hW d m HP.out)
      rw [he1] at KA1
      clear he1
      obtain ⟨⟨p2, t2, z2, d2, cs2⟩, he2⟩ : ∃ x, enD (asX U d n) = x := ⟨_, rfl⟩
      have KA2 := Lib.hid (fun W (hW : Sto W (.pointer tp) U) => asOfX_calls hW d n HP.out)
      rw [he2] at KA2
      clear he2
      have HTL := Lib.hid (ofX_tells HU.out.1 d m n)
      obtain ⟨was, hwas⟩ : ∃ x, (asX U d m).isSome = x := ⟨_, rfl⟩
      obtain ⟨is, his⟩ : ∃ x, (asX U d n).isSome = x := ⟨_, rfl⟩
      rw [hwas] at KA1 HTL
      rw [his] at KA2 HTL
      obtain ⟨F, hF⟩ : ∃ x, refX U d m = x := ⟨_, rfl⟩
      obtain ⟨G, hG⟩ : ∃ x, refX U d n = x := ⟨_, rfl⟩
      obtain ⟨E, hE⟩ : ∃ x, ofE U [] m n = x := ⟨_, rfl⟩
      rw [hF] at KA1 HTL
      rw [hG] at KA2 HTL
      rw [hE] at HTL ⊢
      clear hwas his hF hG hE
      go_wp2_with fail
      refine (KA1.out _ HS11.out).mono ?_
      rintro e w12 ⟨v1, rfl, ho, hB⟩
      obtain ⟨_, _, _, rfl⟩ := own_form ho
      clear ho
      have hBA := fun o => below2 hB (below_alloc w12 o)
      have HB12 := Lib.hid (fun o => below2 HB11.out (hBA o))
      have HS12 := Lib.hid (fun o => HS11.out.below (hBA o))
      have RA' := Lib.hid (fun o => RA.out.below (hBA o))
      clear hB hBA
      go_wp2_with fail
      refine (KA2.out _ (HS12.out _)).mono ?_
      rintro e w13 ⟨v2, rfl, ho, hB⟩
      obtain ⟨_, _, _, rfl⟩ := own_form ho
      clear ho
      have hBA := fun o => below2 hB (below_alloc w13 o)
      have HB13 := Lib.hid (fun o => below2 (HB12.out _) (hBA o))
      have RA'' := Lib.hid (fun o => (RA'.out _).below (hBA o))
      clear hB hBA
      by_cases h1 : E = 0
      · subst h1
        by_cases h2 : F = 0
        · subst h2
          by_cases h3 : G = 0
          · subst h3
            obtain ⟨q1, q2, q3⟩ := HTL.out rfl rfl rfl
            have HLZ := Lib.hid (HLEN.out [] m n)
            go_wp2_with fail
            refine (dfind_calls _ (ofX U [] m n) d _ (RA''.out _) (Nat.le_trans HLZ.out (by decide))).mono ?_
            rintro e w41 ⟨rfl, rfl⟩
            obtain ⟨z, hz⟩ : ∃ z, lookD (ofX U [] m n) d = z := ⟨_, rfl⟩
            rw [hz] at q1 q2 q3 ⊢
            clear hz
            go_wp2_with fail
            refine (diffs_calls _ (HM.out.2.below (HB13.out _))).mono ?_
            rintro e w42 ⟨rfl, hB⟩
            have R2 := Lib.hid (below2 (HB13.out _) hB)
            clear hB
            have HTL2 := HTL
            clear HTL2
            cases was with
            | false =>
              cases is with
              | false =>
                have g1 : (z == 1) = false := by rw [beq_eq_false_iff_ne]; intro e; rw [e] at q1; simp at q1
                have g3 : (z == 3) = false := by rw [beq_eq_false_iff_ne]; intro e; rw [e] at q2; simp at q2
                have n2 : ¬ z = 2 := fun e => absurd (q3 e) (by simp)
                have g2 : (z == 2) = false := by rw [beq_eq_false_iff_ne]; exact n2
                clear q1 q2 q3
                go_wp2_with fail
                go_ret
                exact ⟨rfl, R2.out⟩
              | true =>
                obtain rfl : z = 1 := by simpa using q1
                clear q1 q2 q3
                go_wp2_with fail
                go_ret
                exact ⟨rfl, R2.out⟩
            | true =>
              cases is with
              | false =>
                obtain rfl : z = 3 := by simpa using q2
                clear q1 q2 q3
                go_wp2_with fail
                go_ret
                exact ⟨rfl, R2.out⟩
              | true =>
                have g1 : (z == 1) = false := by rw [beq_eq_false_iff_ne]; intro e; rw [e] at q1; simp at q1
                have g3 : (z == 3) = false := by rw [beq_eq_false_iff_ne]; intro e; rw [e] at q2; simp at q2
                clear q1 q2 q3
                by_cases n2 : z = 2
                · subst n2
                  clear g1 g3
                  go_wp2_with fail
                  go_ret
                  exact ⟨rfl, R2.out⟩
                · have g2 : (z == 2) = false := by rw [beq_eq_false_iff_ne]; exact n2
                  go_wp2_with fail
                  go_ret
                  exact ⟨rfl, R2.out⟩
          · have e3 : (G == 0) = false := by rw [beq_eq_false_iff_ne]; exact h3
            go_wp2_with fail
            refine (diffs_calls _ (HM.out.2.below (HB13.out _))).mono ?_
            rintro e w41 ⟨rfl, hB⟩
            have R2 := Lib.hid (below2 (HB13.out _) hB)
            clear hB
            go_wp2_with fail
            go_ret
            exact ⟨rfl, R2.out⟩
        · have e2 : (F == 0) = false := by rw [beq_eq_false_iff_ne]; exact h2
          go_wp2_with fail
          refine (diffs_calls _ (HM.out.2.below (HB13.out _))).mono ?_
          rintro e w41 ⟨rfl, hB⟩
          have R2 := Lib.hid (below2 (HB13.out _) hB)
          clear hB
          go_wp2_with fail
          go_ret
          exact ⟨rfl, R2.out⟩
      · have e1 : (E == 0) = false := by rw [beq_eq_false_iff_ne]; exact h1
        go_wp2_with fail
        refine (diffs_calls _ (HM.out.2.below (HB13.out _))).mono ?_
        rintro e w41 ⟨rfl, hB⟩
        have R2 := Lib.hid (below2 (HB13.out _) hB)
        clear hB
        go_wp2_with fail
        go_ret
        exact ⟨rfl, R2.out⟩

end Go.Proofs.YtogicnciheedoaaGreatDoor
