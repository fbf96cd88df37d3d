/-
  The walk of TreeFrom.
-/
import Derived.Test.YtgbicdbmmjleoaaTrGrown
import Derived.Test.YtgbicdbmmjleoaaTrTime
import Derived.Test.YtgbicdbmmjleoaaTrDo
namespace Go.Proofs.Ytgbicdbmmjleoaa
open Go.RowKit

theorem from_more (L : List Pr) (k : Ky) (a b : Nat) : (fromL L k a).length ≤ a ∧ (fromL L k a).length ≤ (fromL L k ((a : Int) + (b : Int))).length ∧ (fromL L k ((a : Int) + (b : Int))).take (fromL L k a).length = fromL L k a ∧ ((fromL L k a).length < a → (fromL L k ((a : Int) + (b : Int))).length = (fromL L k a).length) := by
  unfold fromL
  rw [show ((a : Int) + (b : Int)).toNat = a + b by omega, show ((a : Int)).toNat = a by omega]
  simp only [List.length_take]
  refine ⟨by omega, by omega, ?_, fun h => by omega⟩
  rw [List.take_take, show min (min a (tailL L k).length) (a + b) = min a (tailL L k).length by omega]
  rcases Nat.le_total a (tailL L k).length with h | h
  · rw [Nat.min_eq_left h]
  · rw [Nat.min_eq_right h, List.take_of_length_le (Nat.le_refl _), List.take_of_length_le h]
theorem from_next {L : List Pr} (hr : Rises L) (k : Ky) (a b : Nat) (h : (fromL L k ((a + 1 : Nat) : Int)).length = a + 1) : ∃ x, (fromL L k ((a + 1 : Nat) : Int))[a]? = some x ∧ fromL L x.1 ((b : Int) + 1) = (fromL L k (((a + 1 : Nat) : Int) + (b : Int))).drop a := by
  refine ⟨_, List.getElem?_eq_getElem (by omega), ?_⟩
  have hl : a + 1 ≤ (tailL L k).length := by
    unfold fromL at h
    rw [List.length_take] at h
    omega
  have hl2 : placeN L k + a < L.length := by
    unfold tailL at hl
    rw [List.length_drop] at hl
    omega
  have e : (fromL L k ((a + 1 : Nat) : Int))[a]'(by omega) = L[placeN L k + a] := by
    unfold fromL tailL
    rw [List.getElem_take, List.getElem_drop]
  rw [e]
  unfold fromL
  rw [show (((a + 1 : Nat) : Int) + (b : Int)).toNat = a + (b + 1) by omega, show ((b : Int) + 1).toNat = b + 1 by omega, List.drop_take, Nat.add_sub_cancel_left]
  congr 1
  unfold tailL
  rw [(rises_place hr hl2).1, List.drop_drop]

set_option maxRecDepth 100000 in
set_option maxHeartbeats 32000000 in
theorem treeFrom_walk (v : Value) (l : List Stp) (q : List UInt8) (y : Int) (n m : Int) (w : World) (hs : Stps w v l) (hk : l.length ≤ maxLen) (_ : Timed (l.map (·.2))) (_ : (Lit.int .i64 y).wf = true) (_ : (Lit.int .i64 n).wf = true) (_ : (Lit.int .i64 m).wf = true) :
    Calls Try.prog 7 #[v, .agg #[.string ⟨q.toArray⟩, .int .i64 y], .int .i64 n, .int .i64 m] w fun e w' => e = .returned (.bool true) ∧ Below w.heap.size w w' := by
  obtain ⟨ao, cap, rfl⟩ := hs.form
  have hk' : l.length ≤ 9223372036854775807 := by unfold maxLen at hk; exact hk
  obtain ⟨W0, hW0, hX0, hB0⟩ : ∃ W0, w.alloc (.cells #[.string ⟨q.toArray⟩, .int .i64 y] 24) = W0 ∧ KBox W0 w.heap.size (q, y) ∧ Below w.heap.size w W0 := ⟨_, rfl, kbox_new w q y, below_alloc _ _⟩
  have CB := bigO_calls _ l W0 (hs.below hB0) hk'
  have HS := Lib.hid (hs.below hB0)
  have HX : Hid (∀ W, Below W0.heap.size W0 W → W.cell? ⟨w.heap.size, 0, none⟩ = some (.string ⟨q.toArray⟩) ∧ W.cell? ⟨w.heap.size, 1, none⟩ = some (.int .i64 y)) :=
    Lib.hid (fun W hB => by
      obtain ⟨x0, x1, _⟩ := (hX0.below hB).two
      exact ⟨x0, x1⟩)
  obtain ⟨x0, x1⟩ := HX.out W0 (Below.refl _ _)
  have HB0 := Lib.hid hB0
  have KN := Lib.hid new_calls
  have KG := Lib.hid grown_calls
  clear hs hk hk' hX0 hB0
  cases hb : bigO l with
  | true =>
    rw [hb] at CB
    have K := Lib.hid CB
    clear CB hb
    go_enter Try.func7, Try.ntmps7
    go_wp2_with fail
    refine K.out.mono ?_
    rintro e w1 ⟨rfl, rfl⟩
    go_wp2_with fail
    go_ret
    exact ⟨rfl, HB0.out⟩
  | false =>
    rw [hb] at CB
    have K := Lib.hid CB
    have hl := smallO hb
    clear CB hb
    by_cases h0 : 300 < q.length
    · go_enter Try.func7, Try.ntmps7
      go_wp2_with fail
      refine K.out.mono ?_
      rintro e w1 ⟨rfl, rfl⟩
      go_wp2_with fail
      go_ret
      exact ⟨rfl, HB0.out⟩
    · have h0' : q.length ≤ 300 := by omega
      by_cases h1 : n < 1
      · have hd1 : decide (n < 1) = true := by rw [decide_eq_true_eq]; exact h1
        go_enter Try.func7, Try.ntmps7
        go_wp2_with fail
        refine K.out.mono ?_
        rintro e w1 ⟨rfl, rfl⟩
        go_wp2_with fail
        go_ret
        exact ⟨rfl, HB0.out⟩
      · have hd1 : decide (n < 1) = false := by rw [decide_eq_false_iff_not]; exact h1
        by_cases h2 : m < 1
        · have hd2 : decide (m < 1) = true := by rw [decide_eq_true_eq]; exact h2
          go_enter Try.func7, Try.ntmps7
          go_wp2_with fail
          refine K.out.mono ?_
          rintro e w1 ⟨rfl, rfl⟩
          go_wp2_with fail
          go_ret
          exact ⟨rfl, HB0.out⟩
        · have hd2 : decide (m < 1) = false := by rw [decide_eq_false_iff_not]; exact h2
          by_cases h3 : 200 < n
          · have hd3 : decide (200 < n) = true := by rw [decide_eq_true_eq]; exact h3
            go_enter Try.func7, Try.ntmps7
            go_wp2_with fail
            refine K.out.mono ?_
            rintro e w1 ⟨rfl, rfl⟩
            go_wp2_with fail
            go_ret
            exact ⟨rfl, HB0.out⟩
          · have hd3 : decide (200 < n) = false := by rw [decide_eq_false_iff_not]; exact h3
            by_cases h4 : 200 < m
            · have hd4 : decide (200 < m) = true := by rw [decide_eq_true_eq]; exact h4
              go_enter Try.func7, Try.ntmps7
              go_wp2_with fail
              refine K.out.mono ?_
              rintro e w1 ⟨rfl, rfl⟩
              go_wp2_with fail
              go_ret
              exact ⟨rfl, HB0.out⟩
            · have hd4 : decide (200 < m) = false := by rw [decide_eq_false_iff_not]; exact h4
              go_enter Try.func7, Try.ntmps7
              go_wp2_with fail
              refine K.out.mono ?_
              rintro e w1 ⟨rfl, rfl⟩
              go_wp2_with fail
              clear x0 x1 hW0 hd1 hd2 hd3 hd4
              obtain ⟨a, rfl⟩ : ∃ a : Nat, n = (a : Int) + 1 := ⟨n.toNat - 1, by omega⟩
              obtain ⟨b, rfl⟩ : ∃ b : Nat, m = (b : Int) := ⟨m.toNat, by omega⟩
              have ha200 : a + 1 ≤ 200 := by omega
              have hb200 : b ≤ 200 ∧ 1 ≤ b := by omega
              clear h1 h2 h3 h4
              refine (KN.out _).mono ?_
              rintro e w2 ⟨ta, rfl, hta, hB2⟩
              have HA0 := Lib.hid (And.intro hta hB2)
              clear hta hB2
              go_wp2_with fail
              go_loopw [9, 10] (fun t i wr => ∃ k : Nat, k ≤ l.length ∧ i = .int .i64 k ∧ TreeV wr t (doesL (l.take k)) ∧ Below W0.heap.size W0 wr) (fun _ i _ => l.length - (intOf i).toNat)
              case atStart => exact ⟨0, Nat.zero_le _, rfl, by simpa [doesL] using HA0.out.1, HA0.out.2⟩
              case round =>
                obtain ⟨k, hk, rfl, ha, hB⟩ := hrel
                have HA := Lib.hid ha
                clear ha
                by_cases hlt : k < l.length
                · have e1 := doesL_succ hlt
                  obtain ⟨bb, off, rfl, c0, c1, c2, c3⟩ := (HS.out.below hB).at hlt
                  obtain ⟨⟨z', ⟨p', n'⟩, s'⟩, hx⟩ : ∃ x, l[k] = x := ⟨_, rfl⟩
                  rw [hx] at c0 c1 c2 c3 e1
                  dsimp only at c0 c1 c2 c3
                  have E1 := Lib.hid e1
                  have KP := Lib.hid (do_calls _ _ z' p' n' s' _ HA.out (by have := doesL_le (l.take k); rw [List.length_take] at this; omega))
                  clear e1 hx
                  go_wp2_with fail
                  refine KP.out.mono ?_
                  rintro e w4 ⟨u, rfl, hu, hB4⟩
                  rw [E1.out] at hu
                  have HV := Lib.hid hu
                  clear hu
                  go_wp2_with fail
                  go_roundw
                  case rel => exact ⟨k + 1, by omega, by go_num, HV.out, below2 hB hB4⟩
                  case measure => simp [intOf]; omega
                · obtain rfl : k = l.length := by omega
                  rw [List.take_length] at HA
                  have hLl := doesL_le l
                  obtain ⟨L, hL⟩ : ∃ L, doesL l = L := ⟨_, rfl⟩
                  have HR := Lib.hid (show Rises L by rw [← hL]; exact doesL_rises l)
                  rw [hL] at HA hLl
                  have HBr := Lib.hid hB
                  obtain ⟨x0, x1⟩ := HX.out _ hB
                  obtain ⟨f1, f2, f3, f4⟩ := from_more L (q, y) (a + 1) b
                  have f5 := from_next HR.out (q, y) a b
                  have g1 := fromL_le L (q, y) ((a + 1 : Nat) : Int)
                  have g2 := fromL_le L (q, y) (((a + 1 : Nat) : Int) + (b : Int))
                  have KF1 := from_calls _ L q y ((a + 1 : Nat) : Int) _ HA.out (by omega)
                  have KF2 := fun W v (h : TreeV W v L) => from_calls v L q y (((a + 1 : Nat) : Int) + (b : Int)) W h (by omega)
                  have KF3 := Lib.hid (fun W v p' m' (h : TreeV W v L) => from_calls v L p' m' ((b : Int) + 1) W h (by omega))
                  obtain ⟨A, hA⟩ : ∃ A, fromL L (q, y) ((a + 1 : Nat) : Int) = A := ⟨_, rfl⟩
                  obtain ⟨B, hB'⟩ : ∃ B, fromL L (q, y) (((a + 1 : Nat) : Int) + (b : Int)) = B := ⟨_, rfl⟩
                  rw [hA] at KF1 f1 f2 f3 f4 g1
                  rw [hB'] at KF2 f2 f3 f4 g2
                  rw [hA, hB'] at f5
                  have hb400 : (((a + 1 : Nat) : Int) + (b : Int)) ≤ 400 := by omega
                  rw [show (((a + 1 : Nat)) : Int) = (a : Int) + 1 by omega] at KF1 KF2 hb400
                  have KF1' := Lib.hid KF1
                  have KF2' := Lib.hid KF2
                  obtain ⟨na, hna⟩ : ∃ n, A.length = n := ⟨_, rfl⟩
                  obtain ⟨nb, hnb⟩ : ∃ n, B.length = n := ⟨_, rfl⟩
                  have F := Lib.hid (And.intro hna (And.intro hnb (And.intro f3 f5)))
                  rw [hna] at f1 f2 f4 g1
                  rw [hnb] at f2 f4 g2
                  have hLl' : L.length ≤ 100 := by omega
                  clear KF1 KF2 f3 f5 hA hB' hna hnb hL hLl
                  go_wp2_with fail
                  refine KF1'.out.mono ?_
                  rintro e w4 ⟨u4, rfl, hu4, hB4⟩
                  have HA4 := Lib.hid (HA.out.below hB4)
                  have HU := Lib.hid hu4.prs
                  have HB4 := Lib.hid (below2 HBr.out hB4)
                  clear hu4 x0 x1
                  obtain ⟨a4, c4, rfl⟩ := HU.out.form
                  rw [F.out.1] at HU ⊢
                  obtain ⟨x0, x1⟩ := HX.out _ HB4.out
                  go_wp2_with fail
                  refine (KF2'.out _ _ HA4.out).mono ?_
                  rintro e w5 ⟨u5, rfl, hu5, hB5⟩
                  have HA5 := Lib.hid (HA4.out.below hB5)
                  have HU5 := Lib.hid (HU.out.below hB5)
                  have hv := hu5.prs
                  have HB5 := Lib.hid (below2 HB4.out hB5)
                  clear hu5 x0 x1
                  obtain ⟨a5, c5, rfl⟩ := hv.form
                  rw [F.out.2.1] at hv ⊢
                  obtain ⟨hr5, hp5⟩ := slice_to hv na (by omega)
                  have hp5' := hp5
                  rw [← F.out.1, F.out.2.2.1, F.out.1] at hp5'
                  have HV := Lib.hid hv
                  have HP := Lib.hid hp5'
                  have KS := Lib.hid (gSame HU5.out HP.out (by have := F.out.1; omega))
                  have hd1 : decide (((a : Int) + 1) < (na : Int)) = false := by rw [decide_eq_false_iff_not]; omega
                  have hd2 : decide ((nb : Int) < (na : Int)) = false := by rw [decide_eq_false_iff_not]; omega
                  have hd2' : decide (nb < na) = false := by rw [decide_eq_false_iff_not]; omega
                  clear hv hp5 hp5'
                  go_wp2_with fail
                  refine KS.out.mono ?_
                  rintro e w6 ⟨rfl, hB6⟩
                  have HB6 := Lib.hid (below2 HB5.out hB6)
                  have HU6 := Lib.hid (HU5.out.below hB6)
                  by_cases hla : na < a + 1
                  · have hd3 : decide ((na : Int) < (a : Int) + 1) = true := by rw [decide_eq_true_eq]; omega
                    have hee := f4 hla
                    go_wp2_with fail
                    refine (KG.out _).mono ?_
                    rintro e w7 ⟨rfl, hB7⟩
                    subst hee
                    go_wp2_with fail
                    go_ret
                    exact ⟨rfl, below2 HB0.out (below2 HB6.out hB7)⟩
                  · obtain rfl : na = a + 1 := by omega
                    have hd3 : decide (((a + 1 : Nat) : Int) < (a : Int) + 1) = false := by rw [decide_eq_false_iff_not]; omega
                    have f5 := F.out.2.2.2 F.out.1
                    obtain ⟨⟨⟨p5, n5⟩, s5⟩, hx5', e5⟩ := f5
                    obtain ⟨hlt5, hx5⟩ := List.getElem?_eq_some_iff.1 hx5'
                    obtain ⟨b4, o4, rfl, d0, d1, d2⟩ := HU6.out.at hlt5
                    rw [hx5] at d0 d1 d2
                    dsimp only at d0 d1 d2 e5
                    obtain ⟨r, hr⟩ : ∃ r, a + r = nb := ⟨nb - a, by omega⟩
                    obtain ⟨a6, c6, hr6, hp6⟩ := slice_from (HV.out.below hB6) a r (by omega) hr
                    have HP6 := Lib.hid hp6
                    have E5 := Lib.hid e5
                    have HA6 := Lib.hid (HA5.out.below hB6)
                    clear hx5 hx5' e5 hp6
                    have hsub : ((a : Int) + 1 - 1) = (a : Int) := by omega
                    go_wp2_with fail
                    refine (KF3.out _ _ p5 n5 HA6.out).mono ?_
                    rintro e w7 ⟨u7, rfl, hu7, hB7⟩
                    have hu7' := hu7.prs
                    rw [E5.out] at hu7'
                    have HU7 := Lib.hid hu7'
                    have HP7 := Lib.hid (HP6.out.below hB7)
                    clear hu7 hu7'
                    obtain ⟨a7, n7, c7, rfl⟩ := HU7.out.any
                    go_wp2_with fail
                    refine (KG.out _).mono ?_
                    rintro e w8 ⟨rfl, hB8⟩
                    have KS2 := Lib.hid (gSame (HU7.out.below hB8) (HP7.out.below hB8) (by
                      have := F.out.2.1
                      rw [List.length_drop]
                      omega))
                    go_wp2_with fail
                    refine KS2.out.mono ?_
                    rintro e w9 ⟨rfl, hB9⟩
                    go_wp2_with fail
                    go_ret
                    exact ⟨rfl, below2 HB0.out (below2 HB6.out (below3 hB7 hB8 hB9))⟩

end Go.Proofs.Ytgbicdbmmjleoaa
