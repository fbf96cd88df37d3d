/-
  The law PinOrder, walked.
-/
import Derived.Test.YtbphdajhhnhphaaPinRaiseW
import Derived.Test.YtbphdajhhnhphaaPnSame
namespace Go.Proofs.Ytbphdajhhnhphaa
set_option maxRecDepth 100000
open Go.RowKit

theorem adds_next {l : List Pn} {k : Nat} (hk : k < l.length) {s a : Int} (hx : l[k] = (s, a)) : addsN (l.take (k + 1)) = addN (addsN (l.take k)) (s, a) := by
  rw [List.take_succ_eq_append_getElem hk, adds_snoc, hx]
/-- The row v reads as pins that are right. -/
def RightN (w : World) (v : Value) (l : List Pn) : Prop := Pns w v l ∧ isN l = true
theorem RightN.below {w w' : World} {v : Value} {l : List Pn} (h : RightN w v l) (hb : Below w.heap.size w w') : RightN w' v l := ⟨h.1.below hb, h.2⟩
theorem RightN.len {w : World} {v : Value} {l : List Pn} (h : RightN w v l) : l.length ≤ 50 := (isN_iff.1 h.2).1
theorem RightN.rise {w : World} {v : Value} {l : List Pn} (h : RightN w v l) : RiseN l := (isN_iff.1 h.2).2.2

/-- What an Add of a pin leaves, if it is let in. -/
theorem right_added {w : World} {base : Nat} {u : Value} {l m : List Pn} {p : Pn} (h : OwnPn w base u (if addNE l p = 0 then addN l p else [])) (he : addNE l p = 0) (hm : m = addN l p) : RightN w u m := by
  rw [if_pos he] at h
  subst hm
  exact ⟨h.row, (add_facts he).1⟩
theorem own_any {w : World} {base : Nat} {u : Value} {l : List Pn} (h : OwnPn w base u l) : ∃ a n c, u = .slice a n c := by
  obtain ⟨a, c, e⟩ := h.form
  exact ⟨a, _, c, e⟩

set_option maxHeartbeats 16000000 in
theorem pinOrder_small (v : Value) (l : List Pn) (W : World) (h : Pns W v l) (hl : l.length ≤ 60) :
    Calls Try.prog 7 #[v] W fun e w' => e = .returned (.bool true) ∧ Below W.heap.size W w' := by
  have KA := Lib.hid (fun v' l' s a W' (h' : RightN W' v' l') => pnAdd_calls v' l' s a W' h'.1 (by have := h'.len; omega))
  have KL := Lib.hid (fun v' l' W' (h' : Pns W' v' l') (hl' : l'.length ≤ 1000) => pnLeast_calls v' l' W' h' hl')
  have KS := Lib.hid (fun va vb a W' (h1 : Pns W' va a) (h2 : Pns W' vb a) (h3 : a.length ≤ 1000000) => refPnsame_self va vb a W' h1 h2 h3)
  have HP := Lib.hid (fun W' => pinned_calls W')
  obtain ⟨ao, cap, rfl⟩ := h.form
  have HH := Lib.hid h
  have HL := Lib.hid hl
  have HN := Lib.hid (fun k (hk : k < l.length) s a (hx : l[k] = (s, a)) => adds_next hk hx)
  have HR := Lib.hid (fun k (hk : k < l.reverse.length) s a (hx : l.reverse[k] = (s, a)) => adds_next hk hx)
  have HE := Lib.hid (fun (ha : RiseN (addsN l)) (hb : RiseN (addsN l.reverse)) => adds_any ha hb (fun x => List.mem_reverse.symm))
  have HM := Lib.hid (least_adds l)
  have d0 : decide ((60 : Int) < (l.length : Int)) = false := by rw [decide_eq_false_iff_not]; omega
  have d0' : decide (60 < l.length) = false := by rw [decide_eq_false_iff_not]; omega
  clear h hl
  go_enter Try.func7, Try.ntmps7
  go_wp2_with fail
  go_loopw [3, 4, 5] (fun a b i wr => ∃ k : Nat, i = .int .i64 k ∧ k ≤ l.length ∧ (∃ a1 n1 c1 a2 n2 c2, a = .slice a1 n1 c1 ∧ b = .slice a2 n2 c2 ∧ Hid (RightN wr (.slice a1 n1 c1) (addsN (l.take k))) ∧ Hid (RightN wr (.slice a2 n2 c2) (addsN (l.reverse.take k)))) ∧ Below W.heap.size W wr) (fun _ _ i _ => l.length - (intOf i).toNat)
  case atStart => exact ⟨0, rfl, Nat.zero_le _, ⟨none, 0, 0, none, 0, 0, rfl, rfl, Lib.hid ⟨RowOf.nil _, by rfl⟩, Lib.hid ⟨RowOf.nil _, by rfl⟩⟩, Below.refl _ _⟩
  case round =>
    obtain ⟨k, rfl, hk, ⟨a1, n1, c1, a2, n2, c2, rfl, rfl, HA, HB⟩, hB⟩ := hrel
    have hl := HL.out
    by_cases hlt : k < l.length
    · have hd : decide ((k : Int) < (l.length : Int)) = true := by rw [decide_eq_true_eq]; omega
      obtain ⟨b, off, rfl, x0, x1⟩ := pns_at (HH.out.below hB) hlt
      obtain ⟨⟨s, a⟩, hx⟩ : ∃ x, l[k] = x := ⟨_, rfl⟩
      rw [hx] at x0 x1
      dsimp only at x0 x1
      have HX := Lib.hid hx
      have HC := Lib.hid (fun W' (hW : Below wr.heap.size wr W') => And.intro (look_below hW x0) (look_below hW x1))
      have HB0 := Lib.hid hB
      clear hx
      go_wp2_with fail
      go_loopw [6] (fun i wi => ∃ j : Nat, i = .int .i64 j ∧ j ≤ k ∧ Below wr.heap.size wr wi) (fun i _ => k - (intOf i).toNat)
      case atStart => exact ⟨0, rfl, Nat.zero_le _, Below.refl _ _⟩
      case round =>
        obtain ⟨j, rfl, hj, hBi⟩ := hrel
        by_cases hjt : j < k
        · have hdj : decide ((j : Int) < (k : Int)) = true := by rw [decide_eq_true_eq]; omega
          have hjl : j < l.length := by omega
          obtain ⟨b', off', hbe, y0, y1⟩ := pns_at (HH.out.below (below2 HB0.out hBi)) hjl
          cases hbe
          obtain ⟨z0, z1⟩ := HC.out _ hBi
          generalize l[j].1 = q at *
          generalize l[j].2 = q2 at *
          clear y1
          by_cases hq : q = s
          · have e1 : (q == s) = true := by simpa using hq
            clear hq
            go_wp2_with fail
            go_region
            all_goals
              go_wp2_with fail
              refine (HP.out _).mono ?_
              rintro e w4 ⟨rfl, hB4⟩
              go_wp2_with fail
              go_ret
              exact ⟨rfl, below2 (below3 HB0.out hBi (drew_below _)) hB4⟩
          · have e1 : (q == s) = false := by simpa using hq
            clear hq
            go_wp2_with fail
            go_region
            all_goals
              go_wp2_with fail
              go_roundw
              case rel => exact ⟨j + 1, by go_num, by omega, below2 hBi (drew_below _)⟩
              case measure => simp [intOf]; omega
        · obtain rfl : j = k := by omega
          have hdj : decide ((j : Int) < (j : Int)) = false := by simp
          have hBB := below2 HB0.out hBi
          obtain ⟨z0, z1⟩ := HC.out _ hBi
          have HA2 := Lib.hid (HA.out.below hBi)
          have HB2 := Lib.hid (HB.out.below hBi)
          have KX := Lib.hid (KA.out _ _ s a _ HA2.out)
          obtain ⟨m, hm⟩ : ∃ m, l.length = j + m + 1 := ⟨l.length - j - 1, by omega⟩
          have hmt : m < l.length := by omega
          obtain ⟨⟨s2, a3⟩, hx2⟩ : ∃ x, l[m] = x := ⟨_, rfl⟩
          have hjr : j < l.reverse.length := by rw [List.length_reverse]; exact hlt
          have hr2 : l.reverse[j] = (s2, a3) := by
            rw [List.getElem_reverse, ← hx2]
            simp only [show l.length - 1 - j = m by omega]
          have HR2 := Lib.hid (HR.out j hjr s2 a3 hr2)
          have HN2 := Lib.hid (HN.out j hlt s a HX.out)
          have HC2 : Hid (∀ W', Below W.heap.size W W' → W'.cell? ⟨b, off + m * 2, none⟩ = some (.int .i64 s2) ∧ W'.cell? ⟨b, off + m * 2 + 1, none⟩ = some (.int .i64 a3)) := Lib.hid (fun W' hW => by
            obtain ⟨b', off', hbe, y0, y1⟩ := pns_at (HH.out.below hW) hmt
            cases hbe
            rw [hx2] at y0 y1
            exact ⟨y0, y1⟩)
          have hw1 : IntKind.i64.wrap ((l.length : Int) - 1) = (l.length : Int) - 1 := IntWalk.i64_in _ (by omega)
          have hw2 : IntKind.i64.wrap ((l.length : Int) - 1 - (j : Int)) = (m : Int) := by rw [IntWalk.i64_in _ (by omega)]; omega
          have hw3 : (l.length : Int) - 1 - (j : Int) = (m : Int) := by omega
          have hm4 : (0 : Int) ≤ (m : Int) := by omega
          have hm5 : (m : Int) < (l.length : Int) := by omega
          have HBB := Lib.hid hBB
          have HHM := Lib.hid hm
          obtain ⟨L1, hL1⟩ : ∃ L, addsN (l.take j) = L := ⟨_, rfl⟩
          obtain ⟨L2, hL2⟩ : ∃ L, addsN (l.reverse.take j) = L := ⟨_, rfl⟩
          rw [hL1] at KX HN2
          rw [hL2] at HB2 HR2
          clear hm hx2 hr2 hjr hL1 hL2 hBB hBi HC HN HR x0 x1 hB
          go_wp2_with fail
          refine KX.out.mono ?_
          rintro e w5 ⟨u, rfl, ho, hB5⟩
          have HB5 := Lib.hid (below2 HBB.out hB5)
          obtain ⟨y0, y1⟩ := HC2.out _ HB5.out
          have KY := Lib.hid (KA.out _ _ s2 a3 _ (HB2.out.below hB5))
          obtain ⟨au, nu, cu, hu⟩ := own_any ho
          subst hu
          have HO := Lib.hid (fun he => right_added ho he HN2.out)
          obtain ⟨E1, hE1⟩ : ∃ E, addNE L1 (s, a) = E := ⟨_, rfl⟩
          rw [hE1] at HO ⊢
          clear ho hE1 hB5
          go_wp2_with fail
          refine KY.out.mono ?_
          rintro e w6 ⟨u2, rfl, ho2, hB6⟩
          have HB6 := Lib.hid (below2 HB5.out hB6)
          obtain ⟨av, nv, cv, hv⟩ := own_any ho2
          subst hv
          have HO2 := Lib.hid (fun he => right_added ho2 he HR2.out)
          have HO3 := Lib.hid (fun he => (HO.out he).below hB6)
          obtain ⟨E2, hE2⟩ : ∃ E, addNE L2 (s2, a3) = E := ⟨_, rfl⟩
          rw [hE2] at HO2 ⊢
          clear ho2 hE2 hB6 y0 y1
          by_cases h1 : E1 = 0
          · by_cases h2 : E2 = 0
            · have HF := Lib.hid (And.intro (HO3.out h1) (HO2.out h2))
              subst h1 h2
              go_wp2_with fail
              go_roundw
              case rel => exact ⟨j + 1, by go_num, by omega, ⟨_, _, _, _, _, _, rfl, rfl, Lib.hid HF.out.1, Lib.hid HF.out.2⟩, HB6.out⟩
              case measure => simp [intOf]; omega
            · have e1 : (E2 == 0) = false := by rw [beq_eq_false_iff_ne]; exact h2
              subst h1
              clear h2
              go_wp2_with fail
              refine (HP.out _).mono ?_
              rintro e w7 ⟨rfl, hB7⟩
              go_wp2_with fail
              go_ret
              exact ⟨rfl, below2 HB6.out hB7⟩
          · have e1 : (E1 == 0) = false := by rw [beq_eq_false_iff_ne]; exact h1
            clear h1
            go_wp2_with fail
            refine (HP.out _).mono ?_
            rintro e w7 ⟨rfl, hB7⟩
            go_wp2_with fail
            go_ret
            exact ⟨rfl, below2 HB6.out hB7⟩
    · obtain rfl : k = l.length := by omega
      have hd : decide ((l.length : Int) < (l.length : Int)) = false := by simp
      have hAA := HA.out
      have hBB := HB.out
      rw [List.take_length] at hAA
      rw [List.take_of_length_le (by simp)] at hBB
      have he := HE.out hAA.rise hBB.rise
      rw [← he] at hBB
      have K1 := Lib.hid (KL.out _ _ _ hAA.1 (by have := hAA.len; omega))
      rw [HM.out] at K1
      have K2 := Lib.hid (fun W' (hW : Below W.heap.size W W') => KL.out _ _ W' (HH.out.below hW) (by omega))
      have K3 := Lib.hid (fun W' (hW : Below wr.heap.size wr W') => KS.out _ _ _ W' (hAA.1.below hW) (hBB.1.below hW) (by have := hAA.len; omega))
      have e1 : ((leastN l).getD 0 == (leastN l).getD 0) = true := by simp
      have e2 : ((leastN l).isSome == (leastN l).isSome) = true := by simp
      generalize (leastN l).getD 0 = m at *
      generalize (leastN l).isSome = g at *
      clear hAA hBB he
      go_wp2_with fail
      refine K1.out.mono ?_
      rintro e w1 ⟨rfl, hB1⟩
      go_wp2_with fail
      refine (K2.out _ (below2 hB hB1)).mono ?_
      rintro e w2 ⟨rfl, hB2⟩
      go_wp2_with fail
      refine (HP.out _).mono ?_
      rintro e w3 ⟨rfl, hB3⟩
      go_wp2_with fail
      refine (K3.out _ (below3 hB1 hB2 hB3)).mono ?_
      rintro e w4 ⟨rfl, hB4⟩
      go_wp2_with fail
      go_ret
      exact ⟨rfl, below2 hB (below2 (below3 hB1 hB2 hB3) hB4)⟩

theorem pinOrder_walk (v : Value) (l : List Pn) (W : World) (h : Pns W v l) (_ : l.length ≤ maxLen) (_ : ∀ y ∈ l, (Lit.int .i64 y.1).wf = true ∧ (Lit.int .i64 y.2).wf = true) :
    Calls Try.prog 7 #[v] W fun e w' => e = .returned (.bool true) ∧ Below W.heap.size W w' := by
  by_cases hl : l.length ≤ 60
  · exact pinOrder_small v l W h hl
  · have d0 : decide ((60 : Int) < (l.length : Int)) = true := by rw [decide_eq_true_eq]; omega
    have d0' : decide (60 < l.length) = true := by rw [decide_eq_true_eq]; omega
    obtain ⟨ao, cap, rfl⟩ := h.form
    clear hl h
    go_enter Try.func7, Try.ntmps7
    go_wp2_with fail
    go_ret
    exact ⟨rfl, Below.refl _ _⟩

end Go.Proofs.Ytbphdajhhnhphaa
