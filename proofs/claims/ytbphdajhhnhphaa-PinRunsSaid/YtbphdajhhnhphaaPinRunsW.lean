/-
  The law PinRuns, walked.
-/
import Derived.Test.YtbphdajhhnhphaaPinOrderW
import Derived.Test.YtbphdajhhnhphaaPoRow
namespace Go.Proofs.Ytbphdajhhnhphaa
set_option maxRecDepth 100000
open Go.RowKit

theorem right_dropped {w : World} {base : Nat} {u : Value} {l : List Pn} {s : Int} (h : OwnPn w base u (if dropNE l s = 0 then dropN l s else [])) (he : dropNE l s = 0) : RightN w u (dropN l s) := by
  rw [if_pos he] at h
  exact ⟨h.row, (drop_facts he).1⟩

set_option maxHeartbeats 32000000 in
theorem pinRuns_small (v : Value) (l : List Po) (z : Int) (W : World) (h : Pos W v l) (hl : l.length ≤ 100) :
    Calls Try.prog 4 #[v, .int .i64 z] W fun e w' => e = .returned (.bool true) ∧ Below W.heap.size W w' := by
  have KA := Lib.hid (fun v' l' s a W' (h' : RightN W' v' l') => pnAdd_calls v' l' s a W' h'.1 (by have := h'.len; omega))
  have KD := Lib.hid (fun v' l' s W' (h' : RightN W' v' l') => pnDrop_calls v' l' s W' h'.1 (by have := h'.len; omega))
  have KO := Lib.hid (fun v' l' W' (h' : RightN W' v' l') => pnOf_calls v' l' z W' h'.1 (by have := h'.len; omega))
  have KI := Lib.hid (fun v' l' W' (h' : RightN W' v' l') => h'.2 ▸ pnIs_calls v' l' W' h'.1 (by have := h'.len; omega))
  have HP := Lib.hid (fun W' => pinned_calls W')
  obtain ⟨ao, cap, rfl⟩ := h.form
  have HH := Lib.hid h
  have HL := Lib.hid hl
  have d0 : decide ((100 : Int) < (l.length : Int)) = false := by rw [decide_eq_false_iff_not]; omega
  have d0' : decide (100 < l.length) = false := by rw [decide_eq_false_iff_not]; omega
  clear h hl
  go_enter Try.func4, Try.ntmps4
  go_wp2_with fail
  go_loopw [5, 6, 7, 8] (fun r t g i wr => ∃ k : Nat, i = .int .i64 k ∧ k ≤ l.length ∧ (∃ a1 n1 c1 L tt gg, r = .slice a1 n1 c1 ∧ t = .int .i64 tt ∧ g = .bool gg ∧ Hid (RightN wr (.slice a1 n1 c1) L) ∧ Hid (ofN L z = toldN gg tt)) ∧ Below W.heap.size W wr) (fun _ _ _ i _ => l.length - (intOf i).toNat)
  case atStart => exact ⟨0, rfl, Nat.zero_le _, ⟨none, 0, 0, [], 0, false, rfl, rfl, rfl, Lib.hid ⟨RowOf.nil _, by rfl⟩, Lib.hid rfl⟩, Below.refl _ _⟩
  case round =>
    obtain ⟨k, rfl, hk, ⟨a1, n1, c1, L, tt, gg, rfl, rfl, rfl, HA, HG⟩, hB⟩ := hrel
    have hl := HL.out
    by_cases hlt : k < l.length
    · have hd : decide ((k : Int) < (l.length : Int)) = true := by rw [decide_eq_true_eq]; omega
      obtain ⟨b, off, rfl, x0, x1, x2⟩ := pos_at (HH.out.below hB) hlt
      obtain ⟨⟨kd, s, a⟩, hx⟩ : ∃ x, l[k] = x := ⟨_, rfl⟩
      rw [hx] at x0 x1 x2
      dsimp only at x0 x1 x2
      have HC := Lib.hid (fun W' (hW : Below wr.heap.size wr W') => look_below hW x0)
      have HX : Hid (∀ W', Below (wr.heap.size + 1) (wr.alloc (.cells #[.int .i64 s, .int .i64 a] 24)) W' → W'.cell? ⟨wr.heap.size, 0, none⟩ = some (.int .i64 s) ∧ W'.cell? ⟨wr.heap.size, 1, none⟩ = some (.int .i64 a)) := by
        refine Lib.hid ?_
        intro W' hW
        have hW' : Below (wr.alloc (.cells #[.int .i64 s, .int .i64 a] 24)).heap.size (wr.alloc (.cells #[.int .i64 s, .int .i64 a] 24)) W' := by rw [World.size_alloc]; exact hW
        obtain ⟨b, off, e, x0, x1⟩ := pns_at (pin_lit wr s a) (i := 0) (by simp)
        cases e
        exact ⟨look_below hW' x0, look_below hW' x1⟩
      have HB := Lib.hid hB
      have hb0 := below_alloc wr (.cells #[.int .i64 s, .int .i64 a] 24)
      have HB0 := Lib.hid hb0
      have HA2 := Lib.hid (HA.out.below hb0)
      have KX := Lib.hid (KA.out _ _ s a _ HA2.out)
      have KY := Lib.hid (KD.out _ _ s _ HA2.out)
      have HAF := Lib.hid (fun (h0 : addNE L (s, a) = 0) => add_facts h0)
      have HDF := Lib.hid (fun (h0 : dropNE L s = 0) => drop_facts h0)
      have z1 := HC.out _ HB0.out
      have zz := HX.out (wr.alloc (.cells #[.int .i64 s, .int .i64 a] 24)) (by have h := Below.refl (wr.alloc (.cells #[.int .i64 s, .int .i64 a] 24)).heap.size (wr.alloc (.cells #[.int .i64 s, .int .i64 a] 24)); rw [World.size_alloc] at h; exact h)
      clear hx hb0
      by_cases hk1 : kd = 1
      · have e1 : (kd == 1) = true := by simpa using hk1
        subst hk1
        go_wp2_with fail
        refine KX.out.mono ?_
        rintro e w5 ⟨u, rfl, ho, hB5⟩
        obtain ⟨au, nu, cu, hu⟩ := own_any ho
        subst hu
        have HO := Lib.hid (fun he => right_added ho he rfl)
        obtain ⟨E, hE⟩ : ∃ E, addNE L (s, a) = E := ⟨_, rfl⟩
        rw [hE] at HO HAF ⊢
        have HB5 := Lib.hid hB5
        have HBW := Lib.hid (below3 HB.out HB0.out hB5)
        have HA3 := Lib.hid (HA2.out.below hB5)
        obtain ⟨y0, y1⟩ := HX.out _ (by rw [← World.size_alloc]; exact hB5)
        have z0 := HC.out _ (below2 HB0.out hB5)
        clear ho hE hB5
        by_cases h0 : E = 0
        · have HR := Lib.hid (HO.out h0)
          obtain ⟨_, f2, f3⟩ := HAF.out h0
          subst h0
          have KO2 := Lib.hid (fun W' h => KO.out _ _ W' (HR.out.below (h : Below w5.heap.size w5 W')))
          have KI2 := Lib.hid (fun W' h => KI.out _ _ W' (HR.out.below (h : Below w5.heap.size w5 W')))
          by_cases hz : s = z
          · have ez : (s == z) = true := by simpa using hz
            have f4 : ofN (addN L (s, a)) z = toldN true a := by rw [← hz]; exact f2
            rw [f4] at KO2
            have HF4 := Lib.hid f4
            have eaa : (a == a) = true := by simp
            clear hz f2 f3 f4
            simp only [toldN, if_true, Option.getD_some, Option.isSome_some] at KO2
            go_wp2_with fail
            refine (KO2.out _ (Below.refl _ _)).mono ?_
            rintro e w6 ⟨rfl, hB6⟩
            go_wp2_with fail
            refine (KI2.out _ hB6).mono ?_
            rintro e w7 ⟨rfl, hB7⟩
            have HB7 := Lib.hid (below2 hB6 hB7)
            go_wp2_with fail
            go_roundw
            case rel => exact ⟨k + 1, by go_num, by omega, ⟨_, _, _, _, a, true, rfl, rfl, rfl, Lib.hid (HR.out.below HB7.out), Lib.hid HF4.out⟩, below2 HBW.out HB7.out⟩
            case measure => simp [intOf]; omega
          · have ez : (s == z) = false := by simpa using hz
            have f4 := f3 z (fun e => hz e.symm)
            rw [HG.out] at f4
            rw [f4] at KO2
            have HF4 := Lib.hid f4
            have ett : (tt == tt) = true := by simp
            clear hz f2 f3 f4
            cases gg with
            | true =>
              simp only [toldN, if_true, Option.getD_some, Option.isSome_some] at KO2
              go_wp2_with fail
              refine (KO2.out _ (Below.refl _ _)).mono ?_
              rintro e w6 ⟨rfl, hB6⟩
              go_wp2_with fail
              refine (KI2.out _ hB6).mono ?_
              rintro e w7 ⟨rfl, hB7⟩
              have HB7 := Lib.hid (below2 hB6 hB7)
              go_wp2_with fail
              go_roundw
              case rel => exact ⟨k + 1, by go_num, by omega, ⟨_, _, _, _, tt, true, rfl, rfl, rfl, Lib.hid (HR.out.below HB7.out), Lib.hid HF4.out⟩, below2 HBW.out HB7.out⟩
              case measure => simp [intOf]; omega
            | false =>
              simp only [toldN, Bool.false_eq_true, if_false, Option.getD_none, Option.isSome_none] at KO2
              go_wp2_with fail
              refine (KO2.out _ (Below.refl _ _)).mono ?_
              rintro e w6 ⟨rfl, hB6⟩
              go_wp2_with fail
              refine (KI2.out _ hB6).mono ?_
              rintro e w7 ⟨rfl, hB7⟩
              have HB7 := Lib.hid (below2 hB6 hB7)
              go_wp2_with fail
              go_roundw
              case rel => exact ⟨k + 1, by go_num, by omega, ⟨_, _, _, _, tt, false, rfl, rfl, rfl, Lib.hid (HR.out.below HB7.out), Lib.hid HF4.out⟩, below2 HBW.out HB7.out⟩
              case measure => simp [intOf]; omega
        · have ee : (E == 0) = false := by rw [beq_eq_false_iff_ne]; exact h0
          clear h0
          go_wp2_with fail
          go_roundw
          case rel => exact ⟨k + 1, by go_num, by omega, ⟨_, _, _, L, tt, gg, rfl, rfl, rfl, Lib.hid HA3.out, HG⟩, HBW.out⟩
          case measure => simp [intOf]; omega
      · have e1 : (kd == 1) = false := by simpa using hk1
        by_cases hk2 : kd = 2
        · have e2 : (kd == 2) = true := by simpa using hk2
          subst hk2
          go_wp2_with fail
          refine KY.out.mono ?_
          rintro e w5 ⟨u, rfl, ho, hB5⟩
          obtain ⟨au, nu, cu, hu⟩ := own_any ho
          subst hu
          have HO := Lib.hid (fun he => right_dropped ho he)
          obtain ⟨E, hE⟩ : ∃ E, dropNE L s = E := ⟨_, rfl⟩
          rw [hE] at HO HDF ⊢
          have HB5 := Lib.hid hB5
          have HBW := Lib.hid (below3 HB.out HB0.out hB5)
          have HA3 := Lib.hid (HA2.out.below hB5)
          obtain ⟨y0, y1⟩ := HX.out _ (by rw [← World.size_alloc]; exact hB5)
          have z0 := HC.out _ (below2 HB0.out hB5)
          clear ho hE hB5
          by_cases h0 : E = 0
          · have HR := Lib.hid (HO.out h0)
            obtain ⟨_, f2, f3⟩ := HDF.out h0
            subst h0
            have KO2 := Lib.hid (fun W' h => KO.out _ _ W' (HR.out.below (h : Below w5.heap.size w5 W')))
            have KI2 := Lib.hid (fun W' h => KI.out _ _ W' (HR.out.below (h : Below w5.heap.size w5 W')))
            by_cases hz : s = z
            · have ez : (s == z) = true := by simpa using hz
              have f4 : ofN (dropN L s) z = toldN false a := by rw [← hz]; exact f2
              rw [f4] at KO2
              have HF4 := Lib.hid f4
              have eaa : (a == a) = true := by simp
              clear hz f2 f3 f4
              simp only [toldN, Bool.false_eq_true, if_false, Option.getD_none, Option.isSome_none] at KO2
              go_wp2_with fail
              refine (KO2.out _ (Below.refl _ _)).mono ?_
              rintro e w6 ⟨rfl, hB6⟩
              go_wp2_with fail
              refine (KI2.out _ hB6).mono ?_
              rintro e w7 ⟨rfl, hB7⟩
              have HB7 := Lib.hid (below2 hB6 hB7)
              go_wp2_with fail
              go_roundw
              case rel => exact ⟨k + 1, by go_num, by omega, ⟨_, _, _, _, a, false, rfl, rfl, rfl, Lib.hid (HR.out.below HB7.out), Lib.hid HF4.out⟩, below2 HBW.out HB7.out⟩
              case measure => simp [intOf]; omega
            · have ez : (s == z) = false := by simpa using hz
              have f4 := f3 z (fun e => hz e.symm)
              rw [HG.out] at f4
              rw [f4] at KO2
              have HF4 := Lib.hid f4
              have ett : (tt == tt) = true := by simp
              clear hz f2 f3 f4
              cases gg with
              | true =>
                simp only [toldN, if_true, Option.getD_some, Option.isSome_some] at KO2
                go_wp2_with fail
                refine (KO2.out _ (Below.refl _ _)).mono ?_
                rintro e w6 ⟨rfl, hB6⟩
                go_wp2_with fail
                refine (KI2.out _ hB6).mono ?_
                rintro e w7 ⟨rfl, hB7⟩
                have HB7 := Lib.hid (below2 hB6 hB7)
                go_wp2_with fail
                go_roundw
                case rel => exact ⟨k + 1, by go_num, by omega, ⟨_, _, _, _, tt, true, rfl, rfl, rfl, Lib.hid (HR.out.below HB7.out), Lib.hid HF4.out⟩, below2 HBW.out HB7.out⟩
                case measure => simp [intOf]; omega
              | false =>
                simp only [toldN, Bool.false_eq_true, if_false, Option.getD_none, Option.isSome_none] at KO2
                go_wp2_with fail
                refine (KO2.out _ (Below.refl _ _)).mono ?_
                rintro e w6 ⟨rfl, hB6⟩
                go_wp2_with fail
                refine (KI2.out _ hB6).mono ?_
                rintro e w7 ⟨rfl, hB7⟩
                have HB7 := Lib.hid (below2 hB6 hB7)
                go_wp2_with fail
                go_roundw
                case rel => exact ⟨k + 1, by go_num, by omega, ⟨_, _, _, _, tt, false, rfl, rfl, rfl, Lib.hid (HR.out.below HB7.out), Lib.hid HF4.out⟩, below2 HBW.out HB7.out⟩
                case measure => simp [intOf]; omega
          · have ee : (E == 0) = false := by rw [beq_eq_false_iff_ne]; exact h0
            clear h0
            go_wp2_with fail
            go_roundw
            case rel => exact ⟨k + 1, by go_num, by omega, ⟨_, _, _, L, tt, gg, rfl, rfl, rfl, Lib.hid HA3.out, HG⟩, HBW.out⟩
            case measure => simp [intOf]; omega
        · have e2 : (kd == 2) = false := by simpa using hk2
          clear hk1 hk2
          go_wp2_with fail
          go_roundw
          case rel => exact ⟨k + 1, by go_num, by omega, ⟨_, _, _, L, tt, gg, rfl, rfl, rfl, Lib.hid HA2.out, HG⟩, below2 HB.out HB0.out⟩
          case measure => simp [intOf]; omega
    · obtain rfl : k = l.length := by omega
      have hd : decide ((l.length : Int) < (l.length : Int)) = false := by simp
      go_wp2_with fail
      refine (HP.out _).mono ?_
      rintro e w1 ⟨rfl, hB1⟩
      go_wp2_with fail
      go_ret
      exact ⟨rfl, below2 hB hB1⟩

theorem pinRuns_walk (v : Value) (l : List Po) (z : Int) (W : World) (h : Pos W v l) (_ : l.length ≤ maxLen) (_ : ∀ y ∈ l, (Lit.int .i64 y.1).wf = true ∧ (Lit.int .i64 y.2.1).wf = true ∧ (Lit.int .i64 y.2.2).wf = true) (_ : (Lit.int .i64 z).wf = true) :
    Calls Try.prog 4 #[v, .int .i64 z] W fun e w' => e = .returned (.bool true) ∧ Below W.heap.size W w' := by
  by_cases hl : l.length ≤ 100
  · exact pinRuns_small v l z W h hl
  · have d0 : decide ((100 : Int) < (l.length : Int)) = true := by rw [decide_eq_true_eq]; omega
    have d0' : decide (100 < l.length) = true := by rw [decide_eq_true_eq]; omega
    obtain ⟨ao, cap, rfl⟩ := h.form
    clear hl h
    go_enter Try.func4, Try.ntmps4
    go_wp2_with fail
    go_ret
    exact ⟨rfl, Below.refl _ _⟩

end Go.Proofs.Ytbphdajhhnhphaa
