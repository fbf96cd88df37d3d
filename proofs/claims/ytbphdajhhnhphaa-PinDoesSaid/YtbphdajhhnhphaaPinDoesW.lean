/-
  The law PinDoes, walked.
-/
import Derived.Test.YtbphdajhhnhphaaPinOrderW
import Derived.Test.YtbphdajhhnhphaaPnRefA
import Derived.Test.YtbphdajhhnhphaaPnRefD
import Derived.Test.YtbphdajhhnhphaaPnRefL
namespace Go.Proofs.Ytbphdajhhnhphaa
set_option maxRecDepth 100000
open Go.RowKit

/-- A row of pins of the call's own: its times may be written. -/
theorem ownPn_cells {w : World} {base n g cap : Nat} {cs : List Value} (h : w.ownsRow base 24 2 (.slice (some ⟨g, 0, none⟩) n cap) n cs) {k : Nat} (hk : k < n) :
    (∃ u, w.cell? ⟨g, k * 2 + 1, none⟩ = some u) ∧ w.frozen? ⟨g, k * 2 + 1, none⟩ = false := by
  refine ⟨?_, h.frozenAt _⟩
  have hj : k * 2 + 1 < n * 2 := by omega
  rw [h.cellAt _ hj]
  have := h.1
  exact ⟨_, List.getElem?_eq_getElem (by omega)⟩
theorem ownPn_spot {w : World} {base n cap : Nat} {ao : Option Addr} {cs : List Value} (h : w.ownsRow base 24 2 (.slice ao n cap) n cs) (hn : 0 < n) : ∃ g, ao = some ⟨g, 0, none⟩ ∧ base ≤ g := by
  rcases h.2 with ⟨e, _⟩ | ⟨g, c, cur, e, hg, _⟩
  · cases e
    omega
  · cases e
    exact ⟨g, rfl, hg⟩
/-- What lies below a row's block stays, whatever is written there. -/
theorem below_wrote {w w1 w' : World} {base g : Nat} (hB : Below base w w1) (hg : w1.grownBy w' (some g)) (hb : base ≤ w1.heap.size) (h : base ≤ g) : Below base w w' :=
  hB.grown hg hb fun j e => by cases e; exact h

/-- A row of one's own that lies in another block stays. -/
theorem own_beside {w w' : World} {base g : Nat} {v : Value} {l : List Pn} (h : OwnPn w base v l) (hg : w.grownBy w' (some g)) (hb : g < base) : OwnPn w' base v l := by
  refine World.ownsRow.kept h hg ?_
  cases hv : v.ownBlock with
  | none => exact .inl rfl
  | some b =>
    have := (World.ownsRow.lt h b hv).1
    exact .inr fun e => by cases e; omega

set_option maxHeartbeats 64000000 in
theorem pinDoes_small (v : Value) (l : List Pn) (s a z wm bm tm : Int) (W : World) (h : Pns W v l) (hl : l.length ≤ 100) :
    Calls Try.prog 3 #[v, .agg #[.int .i64 s, .int .i64 a], .int .i64 z, .int .i64 wm, .int .i64 bm, .int .i64 tm] W fun e w' => e = .returned (.bool true) ∧ Below W.heap.size W w' := by
  have hB0 := below_alloc W (.cells #[.int .i64 s, .int .i64 a] 24)
  have KN := Lib.hid (refPnown_calls v l _ (h.below hB0) (by omega))
  have KA := Lib.hid (fun v' W' (h' : Pns W' v' l) => pnAdd_calls v' l s a W' h' (by omega))
  have RA := Lib.hid (fun v' W' (h' : Pns W' v' l) => refPnAdd_calls v' l s a W' h' (by omega))
  have KD := Lib.hid (fun v' W' (h' : Pns W' v' l) => pnDrop_calls v' l z W' h' (by omega))
  have RD := Lib.hid (fun v' W' (h' : Pns W' v' l) => refPnDrop_calls v' l z W' h' (by omega))
  have KO := Lib.hid (fun v' W' (h' : Pns W' v' l) => pnOf_calls v' l z W' h' (by omega))
  have RO := Lib.hid (fun v' W' (h' : Pns W' v' l) => refPnOf_calls v' l z W' h' (by omega))
  have KL := Lib.hid (fun v' W' (h' : Pns W' v' l) => pnLeast_calls v' l W' h' (by omega))
  have RL := Lib.hid (fun v' W' (h' : Pns W' v' l) => refPnLeast_calls v' l W' h' (by omega))
  have KR := Lib.hid (fun v' W' (h' : Pns W' v' l) => raise_calls wm bm tm v' l W' h' (by omega))
  have RR := Lib.hid (fun v' W' (h' : Pns W' v' l) => refPnRaise_calls wm bm tm v' l W' h' (by omega))
  have KI := Lib.hid (fun v' W' (h' : Pns W' v' l) => pnIs_calls v' l W' h' (by omega))
  have RI := Lib.hid (fun v' W' (h' : Pns W' v' l) => refPnIs_calls v' l W' h' (by omega))
  have KS := Lib.hid (fun va vb q W' (h1 : Pns W' va q) (h2 : Pns W' vb q) (h3 : q.length ≤ 1000000) => refPnsame_self va vb q W' h1 h2 h3)
  have HP := Lib.hid (fun W' => pinned_calls W')
  have hz1 : (if addNE l (s, a) = 0 then addN l (s, a) else []).length ≤ 1000 := by
    split
    · rw [addN_length]; omega
    · simp
  have hz2 : (if dropNE l z = 0 then dropN l z else []).length ≤ 1000 := by
    split
    · have := dropN_len l z; omega
    · simp
  obtain ⟨Z1, hZ1⟩ : ∃ Z, (if addNE l (s, a) = 0 then addN l (s, a) else []) = Z := ⟨_, rfl⟩
  obtain ⟨Z2, hZ2⟩ : ∃ Z, (if dropNE l z = 0 then dropN l z else []) = Z := ⟨_, rfl⟩
  obtain ⟨E1, hE1⟩ : ∃ E, addNE l (s, a) = E := ⟨_, rfl⟩
  obtain ⟨E2, hE2⟩ : ∃ E, dropNE l z = E := ⟨_, rfl⟩
  obtain ⟨n1, hn1⟩ : ∃ n, (ofN l z).getD 0 = n := ⟨_, rfl⟩
  obtain ⟨g1, hg1⟩ : ∃ n, (ofN l z).isSome = n := ⟨_, rfl⟩
  obtain ⟨n2, hn2⟩ : ∃ n, (leastN l).getD 0 = n := ⟨_, rfl⟩
  obtain ⟨g2, hg2⟩ : ∃ n, (leastN l).isSome = n := ⟨_, rfl⟩
  obtain ⟨r, hr⟩ : ∃ n, raiseN wm bm tm l = n := ⟨_, rfl⟩
  obtain ⟨i, hi⟩ : ∃ n, isN l = n := ⟨_, rfl⟩
  simp only [hZ1, hZ2] at KA RA KD RD hz1 hz2
  simp only [hE1, hE2, hn1, hg1, hn2, hg2, hr, hi] at KA RA KD RD KO RO KL RL KR RR KI RI
  obtain ⟨q1, hq1⟩ : ∃ q, Z1.length = q := ⟨_, rfl⟩
  obtain ⟨q2, hq2⟩ : ∃ q, Z2.length = q := ⟨_, rfl⟩
  have HQ := Lib.hid (And.intro hq1 (And.intro hq2 (And.intro hz1 hz2)))
  have hz1' : q1 ≤ 1000 := by omega
  have hz2' : q2 ≤ 1000 := by omega
  have HX : Hid (∀ W', Below (W.heap.size + 1) (W.alloc (.cells #[.int .i64 s, .int .i64 a] 24)) W' → W'.cell? ⟨W.heap.size, 0, none⟩ = some (.int .i64 s) ∧ W'.cell? ⟨W.heap.size, 1, none⟩ = some (.int .i64 a)) := by
    refine Lib.hid ?_
    intro W' hW
    have hW' : Below (W.alloc (.cells #[.int .i64 s, .int .i64 a] 24)).heap.size (W.alloc (.cells #[.int .i64 s, .int .i64 a] 24)) W' := by rw [World.size_alloc]; exact hW
    obtain ⟨b, off, e, x0, x1⟩ := pns_at (pin_lit W s a) (i := 0) (by simp)
    cases e
    exact ⟨look_below hW' x0, look_below hW' x1⟩
  obtain ⟨ao, cap, rfl⟩ := h.form
  have HH := Lib.hid h
  have HL := Lib.hid hl
  have HB0 := Lib.hid hB0
  have d0 : decide ((100 : Int) < (l.length : Int)) = false := by rw [decide_eq_false_iff_not]; omega
  have d0' : decide (100 < l.length) = false := by rw [decide_eq_false_iff_not]; omega
  have t1 : (E1 == E1) = true := by simp
  have t2 : (E2 == E2) = true := by simp
  have t3 : (n1 == n1) = true := by simp
  have t4 : (g1 == g1) = true := by simp
  have t5 : (n2 == n2) = true := by simp
  have t6 : (g2 == g2) = true := by simp
  have t7 : (r == r) = true := by simp
  have t8 : (i == i) = true := by simp
  clear h hl hB0 hZ1 hZ2 hE1 hE2 hn1 hg1 hn2 hg2 hr hi hq1 hq2 hz1 hz2
  go_enter Try.func3, Try.ntmps3
  go_wp2_with fail
  refine KN.out.mono ?_
  rintro e w1 ⟨u, rfl, hu, hB1⟩
  obtain ⟨x0, x1⟩ := HX.out _ (below_up hB1)
  have hBB1 := below2 HB0.out hB1
  have H1 := Lib.hid (And.intro (HH.out.below hBB1) hu.row)
  obtain ⟨uo, uc, rfl⟩ := hu.form
  have HB1 := Lib.hid (And.intro hBB1 hB1)
  clear hu hBB1
  go_wp2_with fail
  refine (KA.out _ _ H1.out.1).mono ?_
  rintro e w2 ⟨va, rfl, ho, hB2⟩
  obtain ⟨y0, y1⟩ := HX.out _ (below_up (below2 hB1 hB2))
  obtain ⟨aa, ca, rfl⟩ := ho.form
  rw [HQ.out.1] at ho ⊢
  have HA := Lib.hid ho
  clear ho x0 x1
  go_wp2_with fail
  refine (RA.out _ _ (H1.out.2.below hB2)).mono ?_
  rintro e w3 ⟨vc, rfl, ho, hB3⟩
  have hB13 := below2 hB2 hB3
  obtain ⟨ac, cc, rfl⟩ := ho.form
  rw [HQ.out.1] at ho ⊢
  have HC := Lib.hid ho.row
  clear ho y0 y1
  go_wp2_with fail
  refine (KD.out _ _ (H1.out.1.below hB13)).mono ?_
  rintro e w4 ⟨vd, rfl, ho, hB4⟩
  have hB14 := below2 hB13 hB4
  obtain ⟨ad, cd, rfl⟩ := ho.form
  rw [HQ.out.2.1] at ho ⊢
  have HD := Lib.hid ho
  clear ho
  go_wp2_with fail
  refine (RD.out _ _ (H1.out.2.below hB14)).mono ?_
  rintro e w5 ⟨vx, rfl, ho, hB5⟩
  have hB15 := below2 hB14 hB5
  obtain ⟨ax, cx, rfl⟩ := ho.form
  rw [HQ.out.2.1] at ho ⊢
  have HY := Lib.hid ho.row
  clear ho
  go_wp2_with fail
  refine (KO.out _ _ (H1.out.1.below hB15)).mono ?_
  rintro e w6 ⟨rfl, hB6⟩
  have hB16 := below2 hB15 hB6
  go_wp2_with fail
  refine (RO.out _ _ (H1.out.2.below hB16)).mono ?_
  rintro e w6' ⟨rfl, rfl⟩
  go_wp2_with fail
  refine (KL.out _ _ (H1.out.1.below hB16)).mono ?_
  rintro e w7 ⟨rfl, hB7⟩
  have hB17 := below2 hB16 hB7
  go_wp2_with fail
  refine (RL.out _ _ (H1.out.2.below hB17)).mono ?_
  rintro e w7' ⟨rfl, rfl⟩
  have hA7 := below3 (below3 hB3 hB4 hB5) hB6 hB7
  have hC7 := below2 (below3 hB4 hB5 hB6) hB7
  have hD7 := below3 hB5 hB6 hB7
  have hY7 := below2 hB6 hB7
  go_wp2_with fail
  refine (KS.out _ _ Z1 _ (HA.out.row.below hA7) (HC.out.below hC7) (by have := HQ.out; omega)).mono ?_
  rintro e w8 ⟨rfl, hB8⟩
  go_wp2_with fail
  refine (KS.out _ _ Z2 _ (HD.out.row.below (below2 hD7 hB8)) (HY.out.below (below2 hY7 hB8)) (by have := HQ.out; omega)).mono ?_
  rintro e w9 ⟨rfl, hB9⟩
  have hB19 := below3 hB17 hB8 hB9
  go_wp2_with fail
  refine (KR.out _ _ (H1.out.1.below hB19)).mono ?_
  rintro e w10 ⟨rfl, hB10⟩
  have hB1a := below2 hB19 hB10
  go_wp2_with fail
  refine (RR.out _ _ (H1.out.2.below hB1a)).mono ?_
  rintro e w10' ⟨rfl, rfl⟩
  have HA2 := Lib.hid (OwnOf.stays HA.out (below2 hA7 (below3 hB8 hB9 hB10)))
  have HD2 := Lib.hid (OwnOf.stays HD.out (below2 hD7 (below3 hB8 hB9 hB10)))
  have HW1 := Lib.hid (And.intro hB1a hB13)
  have HW3 := Lib.hid hB3.size
  clear hB1a hB19 hA7 hC7 hD7 hY7 hB8 hB9 hB10 hB17 hB16 hB15 hB14 hB13 hB2 hB3 hB4 hB5 hB6 hB7
  go_wp2_with fail
  go_loopw [31] (fun j wr => ∃ k : Nat, j = .int .i64 k ∧ k ≤ q1 ∧ Hid (∃ cs, wr.ownsRow w1.heap.size 24 2 (.slice aa q1 ca) q1 cs) ∧ Hid (OwnPn wr w3.heap.size (.slice ad q2 cd) Z2) ∧ Hid (Below w1.heap.size w1 wr)) (fun j _ => q1 - (intOf j).toNat)
  case atStart => exact ⟨0, rfl, Nat.zero_le _, Lib.hid ⟨_, by have := HA2.out; unfold OwnOf at this; rw [HQ.out.1] at this; exact this⟩, Lib.hid HD2.out, Lib.hid HW1.out.1⟩
  case round =>
    obtain ⟨k, rfl, hk, hA, hD, hB⟩ := hrel
    by_cases hlt : k < q1
    · have hd : decide ((k : Int) < (q1 : Int)) = true := by rw [decide_eq_true_eq]; omega
      obtain ⟨cs, hrow⟩ := hA.out
      obtain ⟨g, rfl, hg⟩ := ownPn_spot hrow (by omega)
      obtain ⟨⟨uu, huu⟩, hfz⟩ := ownPn_cells hrow hlt
      have HR := Lib.hid hrow
      have HG := Lib.hid (And.intro hg (World.ownsRow.lt HA.out g rfl).2)
      clear hrow hg
      go_wp2_with fail
      go_roundw
      case rel =>
        obtain ⟨s1, s2⟩ := HR.out.stored (k * 2 + 1) (.int .i64 (-7))
        exact ⟨k + 1, by go_num, by omega, Lib.hid ⟨_, s1⟩, Lib.hid (own_beside hD.out s2 (Nat.lt_of_lt_of_le HG.out.2 HW3.out)), Lib.hid (below_wrote hB.out s2 hB.out.size HG.out.1)⟩
      case measure => simp [intOf]; omega
    · obtain rfl : k = q1 := by omega
      have hd : decide ((k : Int) < (k : Int)) = false := by simp
      have HB4 := Lib.hid hB.out
      have HD4 := Lib.hid hD.out
      clear hA
      go_wp2_with fail
      go_loopw [32] (fun j wi => ∃ m : Nat, j = .int .i64 m ∧ m ≤ q2 ∧ Hid (∃ cs, wi.ownsRow w3.heap.size 24 2 (.slice ad q2 cd) q2 cs) ∧ Hid (Below w1.heap.size w1 wi)) (fun j _ => q2 - (intOf j).toNat)
      case atStart => exact ⟨0, rfl, Nat.zero_le _, Lib.hid ⟨_, by have := HD4.out; unfold OwnPn OwnOf at this; rw [HQ.out.2.1] at this; exact this⟩, HB4⟩
      case round =>
        obtain ⟨m, rfl, hm, hE, hB5⟩ := hrel
        by_cases hmt : m < q2
        · have hdm : decide ((m : Int) < (q2 : Int)) = true := by rw [decide_eq_true_eq]; omega
          obtain ⟨cs, hrow⟩ := hE.out
          obtain ⟨g, rfl, hg⟩ := ownPn_spot hrow (by omega)
          obtain ⟨⟨uu, huu⟩, hfz⟩ := ownPn_cells hrow hmt
          have HR := Lib.hid hrow
          have HG := Lib.hid (Nat.le_trans HW1.out.2.size hg)
          clear hrow hg
          go_wp2_with fail
          go_roundw
          case rel =>
            obtain ⟨s1, s2⟩ := HR.out.stored (m * 2 + 1) (.int .i64 (-7))
            exact ⟨m + 1, by go_num, by omega, Lib.hid ⟨_, s1⟩, Lib.hid (below_wrote hB5.out s2 hB5.out.size HG.out)⟩
          case measure => simp [intOf]; omega
        · obtain rfl : m = q2 := by omega
          have hdm : decide ((m : Int) < (m : Int)) = false := by simp
          have HS1 := Lib.hid (fun W' (hW : Below wr.heap.size wr W') => And.intro (H1.out.1.below (below2 hB5.out hW)) (H1.out.2.below (below2 hB5.out hW)))
          have HB6 := Lib.hid (below2 HB1.out.1 hB5.out)
          clear hE
          go_wp2_with fail
          refine (HP.out _).mono ?_
          rintro e v1 ⟨rfl, hC1⟩
          go_wp2_with fail
          refine (KI.out _ _ (HS1.out _ hC1).1).mono ?_
          rintro e v2 ⟨rfl, hC2⟩
          have hC12 := below2 hC1 hC2
          go_wp2_with fail
          refine (RI.out _ _ (HS1.out _ hC12).2).mono ?_
          rintro e v3 ⟨rfl, hC3⟩
          have hC13 := below2 hC12 hC3
          go_wp2_with fail
          refine (KS.out _ _ l _ (HS1.out _ hC13).1 (HS1.out _ hC13).2 (by have := HL.out; omega)).mono ?_
          rintro e v4 ⟨rfl, hC4⟩
          go_wp2_with fail
          go_ret
          exact ⟨rfl, below3 HB6.out hC13 hC4⟩

theorem pinDoes_walk (v : Value) (l : List Pn) (s a z wm bm tm : Int) (W : World) (h : Pns W v l) (_ : l.length ≤ maxLen) (_ : ∀ y ∈ l, (Lit.int .i64 y.1).wf = true ∧ (Lit.int .i64 y.2).wf = true) (_ : (Lit.int .i64 z).wf = true) (_ : (Lit.int .i64 wm).wf = true) (_ : (Lit.int .i64 bm).wf = true) (_ : (Lit.int .i64 tm).wf = true) :
    Calls Try.prog 3 #[v, .agg #[.int .i64 s, .int .i64 a], .int .i64 z, .int .i64 wm, .int .i64 bm, .int .i64 tm] W fun e w' => e = .returned (.bool true) ∧ Below W.heap.size W w' := by
  by_cases hl : l.length ≤ 100
  · exact pinDoes_small v l s a z wm bm tm W h hl
  · have d0 : decide ((100 : Int) < (l.length : Int)) = true := by rw [decide_eq_true_eq]; omega
    have d0' : decide (100 < l.length) = true := by rw [decide_eq_true_eq]; omega
    obtain ⟨ao, cap, rfl⟩ := h.form
    clear hl h
    go_enter Try.func3, Try.ntmps3
    go_wp2_with fail
    go_ret
    exact ⟨rfl, below_alloc _ _⟩

end Go.Proofs.Ytbphdajhhnhphaa
