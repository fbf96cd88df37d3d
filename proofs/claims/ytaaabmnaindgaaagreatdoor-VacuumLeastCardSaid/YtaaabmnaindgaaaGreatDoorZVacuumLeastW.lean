/-
  VacuumLeast: the walk.
-/
import Derived.Test.YtaaabmnaindgaaaGreatDoorPks18
import Derived.Test.YtaaabmnaindgaaaGreatDoorPks15
import Derived.Test.YtaaabmnaindgaaaGreatDoorPks10
import Derived.Test.YtaaabmnaindgaaaGreatDoorPkbase
import Derived.Deep.RegionHeld3
namespace Go.Proofs.YtaaabmnaindgaaaGreatDoor
set_option maxRecDepth 100000
open Go.RowKit

set_option maxHeartbeats 32000000 in
theorem vacuumLeast_walk (v : Value) (S : List Lv) (n : Int) (w : World) (h : Lds w v S) (hf : FitL S) (hml : Ml w) :
    Calls Tryz.prog 6 #[v, .int .i64 n] w fun e w' => e = .returned (.bool true) ∧ Below w.heap.size w w' := by
  obtain ⟨av, cv, rfl⟩ := h.form
  obtain ⟨nl, hnL⟩ : ∃ k, S.length = k := ⟨_, rfl⟩
  have KB := Lib.hid (refL_calls _ S w h hf)
  rw [hnL] at KB ⊢
  cases hb : bigL S with
  | true =>
    rw [hb] at KB
    clear h hf hb hnL
    go_enter Tryz.func6, Tryz.ntmps6
    go_wp2_with fail
    refine KB.out.mono ?_
    rintro e w1 ⟨rfl, rfl⟩
    go_wp2_with fail
    go_ret
    exact ⟨rfl, Below.refl _ _⟩
  | false =>
    obtain ⟨hl20, hls⟩ := bigL_small hb
    rw [hb] at KB
    have KM := Lib.hid (vaLaid_calls _ S w h hl20 hls hml)
    rw [hnL] at KM
    obtain ⟨hK1, hK2, _⟩ := took_all S
    obtain ⟨hUr, hUs⟩ := pairsK_st hK1
    have hUn := pairsK_len hK1
    have hST : ∀ W tv, TreeV W tv (pairsK (tookS S)) → Ml W → Sto W tv (pairsK (tookS S)) := fun W tv ht hm => pairsK_sto hK1 (by omega) ht hm
    have hul : (pairsK (tookS S)).length ≤ 1000 := by omega
    obtain ⟨U, hU⟩ : ∃ U, pairsK (tookS S) = U := ⟨_, rfl⟩
    have hUF : TimesK (pairsK (tookS S)) ∧ (∀ x ∈ pairsK (tookS S), x.1.1.length ≤ 1000) ∧ (∀ x ∈ pairsK (tookS S), x.2.length ≤ 4611686018427387904) := took_small hK1 (by omega)
    rw [hU] at KM hUr hUs hul hST hUF
    have HST := Lib.hid hST
    have HUF := Lib.hid (And.intro hUF.1 (And.intro hul hUF.2))
    have HUT := Lib.hid (fun x hx => (hUF.1 x hx).2 : Timed U)
    have HUR := Lib.hid hUr
    have HIS := Lib.hid hUs
    have HM := Lib.hid hml
    clear h hf hb hnL hls hUr hUs hUn hU hml hK1 hK2 hl20 hST hUF
    by_cases hz : vaE U n = 0
    · have hsT : isSt (liveL U n) = true := live_isSt HIS.out n
      have KR := Lib.hid (fun tv W (h : Sto W tv U) => vaRun_calls h n)
      have HSL := Lib.hid (sto_less (T := liveL U n) (fun x hx => live_mem hx) (live_le U n) HUF.out)
      unfold vaM at KR
      rw [hz, show vaT U n = liveL U n from if_pos hz, show vaK U n = deadK U n from if_pos hz] at KR
      have hnum := live_nums U n
      have hlate := late_le U n
      have ht1 : Timed (liveL U n) := fun x hx => HUT.out x (live_mem hx)
      have hread : ∀ x ∈ liveL U n, redE x.2 = 0 ∧ x.2.length ≤ 4611686018427387904 ∧ (x.1.2 ≤ n → redG x.2 = false) := fun x hx => ⟨(st_times hsT x hx).2.2.2.2, HUF.out.2.2.2 x (live_mem hx), fun h => live_gone hx h⟩
      have hhere : ∀ x ∈ U, n < x.1.2 → hereB (liveL U n) x.1 = true := fun x hx h => live_here HUR.out hx h
      obtain ⟨nA, hnA⟩ : ∃ k, (deadK U n).length = k := ⟨_, rfl⟩
      rw [hnA] at KR hnum
      obtain ⟨T, hT⟩ : ∃ x, liveL U n = x := ⟨_, rfl⟩
      rw [hT] at KR HSL hnum hlate ht1 hread hhere
      have hbes : ∀ (i : Nat) (h : i + 1 < T.length), T[i].1.2 ≤ n → T[i + 1].1.2 ≤ n → T[i].1.1 ≠ T[i + 1].1.1 := by subst hT; exact fun i h h1 h2 => live_beside HUR.out h h1 h2
      obtain ⟨nT, hnT⟩ : ∃ k, T.length = k := ⟨_, rfl⟩
      obtain ⟨nU, hnU⟩ : ∃ k, U.length = k := ⟨_, rfl⟩
      rw [hnT] at hnum hlate
      rw [hnU] at hnum hul
      have e1 : ((nT : Int) + (nA : Int) == (nU : Int)) = true := by rw [beq_iff_eq]; omega
      have b1 : nT ≤ 1000 := by omega
      have b2 : nA ≤ 1000 := by omega
      have HTV := Lib.hid (And.intro (show T.length ≤ 100000 by omega) (And.intro ht1 (show U.length ≤ 100000 by omega)))
      have HTF := Lib.hid (And.intro hread (And.intro hbes hhere))
      have HNN := Lib.hid (And.intro hnT (And.intro hnU hlate))
      clear hz hsT hnum hlate ht1 hread hbes hhere hT hnA hnT hnU
      go_enter Tryz.func6, Tryz.ntmps6
      go_wp2_with fail
      refine KB.out.mono ?_
      rintro e w1 ⟨rfl, rfl⟩
      go_wp2_with fail
      refine KM.out.mono ?_
      rintro e w2 ⟨t, rfl, ht, hB2⟩
      obtain ⟨tp, rfl⟩ := ht.val
      have HT := Lib.hid (HST.out _ _ ht (HM.out.below hB2))
      have HB2 := Lib.hid hB2
      clear ht hB2
      go_wp2_with fail
      refine (KR.out _ _ HT.out).mono ?_
      rintro e w11 ⟨up, rfl, hv, hB⟩
      have HB11 := Lib.hid (below2 HB2.out hB)
      replace HT := Lib.hid (HT.out.below hB)
      have HV := Lib.hid (HSL.out _ _ hv (HM.out.below (below2 HB2.out hB)))
      clear hB
      clear hv
      go_wp2_with fail
      refine (all_calls _ T _ HV.out.1 HTV.out.1 HTV.out.2.1).mono ?_
      rintro e w12 ⟨u, rfl, ho, hB⟩
      obtain ⟨aA, cA, rfl⟩ := ho.form
      rw [HNN.out.1] at ho ⊢
      have HB12 := Lib.hid (below2 HB11.out hB)
      replace HT := Lib.hid (HT.out.below hB)
      replace HV := Lib.hid (HV.out.below hB)
      have RA := Lib.hid (ho.prs)
      clear hB
      clear ho
      go_wp2_with fail
      go_loopw [10] (fun i wr => ∃ k : Nat, i = .int .i64 k ∧ k ≤ nT ∧ Hid (Below w12.heap.size w12 wr)) (fun i _ => nT - (intOf i).toNat)
      case atStart => exact ⟨0, rfl, Nat.zero_le _, Lib.hid (Below.refl _ _)⟩
      case round =>
        obtain ⟨k, rfl, hk, hB⟩ := hrel
        by_cases hlt : k < nT
        · have hd : decide ((k : Int) < (nT : Int)) = true := by rw [decide_eq_true_eq]; omega
          have hkT : k < T.length := by rw [HNN.out.1]; exact hlt
          have hrow := RA.out.below hB.out
          obtain ⟨b, off, rfl, c0, c1, c2⟩ := hrow.at hkT
          obtain ⟨r1, r2, r3⟩ := HTF.out.1 _ (List.getElem_mem hkT)
          have hprev : ∀ (h1 : 1 ≤ k), ∃ q t', wr.cell? ⟨b, off + (k - 1) * 3, none⟩ = some (.string ⟨q.toArray⟩) ∧ wr.cell? ⟨b, off + (k - 1) * 3 + 1, none⟩ = some (.int .i64 t') ∧ (T[k].1.2 ≤ n → q = T[k].1.1 → ¬ t' ≤ n) := fun h1 => by
            obtain ⟨b', off', hbb, y0, y1, _⟩ := hrow.at (k := k - 1) (by omega)
            cases hbb
            refine ⟨_, _, y0, y1, fun h2 h3 h4 => ?_⟩
            have h5 := HTF.out.2.1 (k - 1) (by omega) h4
            have e : k - 1 + 1 = k := by omega
            have h6 : T[k - 1 + 1]'(by omega) = T[k] := by congr 1
            rw [h6] at h5
            exact h5 h2 h3
          obtain ⟨⟨⟨p, t⟩, s⟩, hx⟩ : ∃ x, T[k] = x := ⟨_, rfl⟩
          rw [hx] at c0 c1 c2 r1 r2 r3 hprev
          dsimp only at c0 c1 c2 r1 r2 r3 hprev
          have K1 := Lib.hid (fun W => mRead_calls s r2 W)
          rw [r1] at K1
          obtain ⟨⟨z, d, cs⟩, hM⟩ : ∃ x, redM s = x := ⟨_, rfl⟩
          rw [hM] at K1
          dsimp only at K1
          obtain ⟨gg, hgg⟩ : ∃ g, redG s = g := ⟨_, rfl⟩
          rw [hgg] at K1 r3
          have hk0 : (0 : Int) ≤ (k : Int) := by omega
          have hk5 : (k : Int) < (nT : Int) := by omega
          clear hrow hx r1 r2 hM hgg
          go_wp2_with fail
          refine (K1.out _).mono ?_
          rintro e w30 ⟨u, rfl, hI, hB3⟩
          obtain ⟨am, cm, rfl⟩ := (ints_own hI).form
          have hB4 := below2 hB3 (below_alloc w30 (.cells #[.int .i64 z, .int .i64 d, .slice am cs.length cm] 51))
          have d1 := look_below hB4 c1
          have d0 := look_below hB4 c0
          replace hprev := fun h1 => (hprev h1).imp fun q h => h.imp fun t' h => (⟨look_below hB4 h.1, look_below hB4 h.2.1, h.2.2⟩ : _ ∧ _ ∧ _)
          obtain ⟨w31, hw31⟩ : ∃ x, x = w30.alloc (.cells #[.int .i64 z, .int .i64 d, .slice am cs.length cm] 51) := ⟨_, rfl⟩
          rw [← hw31] at d0 hprev hB4
          have HBM := Lib.hid (below2 hB.out hB4)
          clear c0 c1 c2 hI hB3 hB4 hB
          have HW := Lib.hid hw31
          clear hw31
          by_cases ho : t ≤ n
          · have e2 : decide (t ≤ n) = true := decide_eq_true ho
            obtain rfl : gg = false := r3 ho
            by_cases hp : 1 ≤ k
            · have e3 : decide (0 < k) = true := by rw [decide_eq_true_eq]; omega
              obtain ⟨q, t', y0, y1, hno⟩ := hprev hp
              have hk1 : (1 : Int) ≤ (k : Int) := by omega
              have hk2 : (k : Int) - 1 < (nT : Int) := by omega
              have hkw : IntKind.i64.wrap ((k : Int) - 1) = (k : Int) - 1 := by rw [IntKind.wrap_i64]; omega
              have HC := Lib.hid (fun W (hW : Below w31.heap.size w31 W) => (⟨look_below hW y0, look_below hW y1, look_below hW d0⟩ : (fun W => W.cell? ⟨b, off + (k - 1) * 3, none⟩ = some (.string ⟨q.toArray⟩) ∧ W.cell? ⟨b, off + (k - 1) * 3 + 1, none⟩ = some (.int .i64 t') ∧ W.cell? ⟨b, off + k * 3, none⟩ = some (.string ⟨p.toArray⟩)) W))
              by_cases hq : q = p
              · have e4 : (q == p) = true := by simpa using hq
                have e5 : decide (t' ≤ n) = false := decide_eq_false (by have := hno ho hq; omega)
                clear hprev hno hq ho hp r3 y0 y1 d0
                go_wp2_with fail
                rw [← HW.out]
                have hbr : Below w31.heap.size w31 w31.drew := drew_below _
                refine held0 (S := (fun W => W.cell? ⟨b, off + (k - 1) * 3, none⟩ = some (.string ⟨q.toArray⟩) ∧ W.cell? ⟨b, off + (k - 1) * 3 + 1, none⟩ = some (.int .i64 t') ∧ W.cell? ⟨b, off + k * 3, none⟩ = some (.string ⟨p.toArray⟩))) (by kernel_rfl) (HC.out _ hbr) (fun hHeld => ?_)
                iterate 42 (refine heldT (oi := ⟨_, _, _, _, _, _⟩) (v := ?_) hHeld rfl rfl (by kernel_rfl) (by kernel_rfl) (by kernel_rfl) (fun _ _ _ h => h) ?_ ?_; rotate_left; (intro w hSw; (try dsimp only at hSw); go_simp; try with_reducible rfl); try simp only [Act.put, List.setIfInBounds_toArray, List.set_cons_zero, List.set_cons_succ])
                refine wpAnyH_done (by kernel_rfl) ?_ _
                have HB5 := Lib.hid (below2 HBM.out hbr)
                clear hbr
                go_wp2_with fail
                go_roundw
                case rel => exact ⟨k + 1, by go_num, by omega, HB5⟩
                case measure => simp [intOf]; omega
              · have e4 : (q == p) = false := by simpa using hq
                clear hprev hno hq ho hp r3 y0 y1 d0
                go_wp2_with fail
                rw [← HW.out]
                have hbr : Below w31.heap.size w31 w31.drew := drew_below _
                refine held0 (S := (fun W => W.cell? ⟨b, off + (k - 1) * 3, none⟩ = some (.string ⟨q.toArray⟩) ∧ W.cell? ⟨b, off + (k - 1) * 3 + 1, none⟩ = some (.int .i64 t') ∧ W.cell? ⟨b, off + k * 3, none⟩ = some (.string ⟨p.toArray⟩))) (by kernel_rfl) (HC.out _ hbr) (fun hHeld => ?_)
                iterate 31 (refine heldT (oi := ⟨_, _, _, _, _, _⟩) (v := ?_) hHeld rfl rfl (by kernel_rfl) (by kernel_rfl) (by kernel_rfl) (fun _ _ _ h => h) ?_ ?_; rotate_left; (intro w hSw; (try dsimp only at hSw); go_simp; try with_reducible rfl); try simp only [Act.put, List.setIfInBounds_toArray, List.set_cons_zero, List.set_cons_succ])
                iterate 9 (refine heldU (oi := ⟨_, _, _, _, _, _⟩) hHeld rfl rfl (by kernel_rfl) (by kernel_rfl) (by kernel_rfl) (fun _ _ _ h => h) ?_; try simp only [Act.put, List.setIfInBounds_toArray, List.set_cons_zero, List.set_cons_succ])
                iterate 2 (refine heldT (oi := ⟨_, _, _, _, _, _⟩) (v := ?_) hHeld rfl rfl (by kernel_rfl) (by kernel_rfl) (by kernel_rfl) (fun _ _ _ h => h) ?_ ?_; rotate_left; (intro w hSw; (try dsimp only at hSw); go_simp; try with_reducible rfl); try simp only [Act.put, List.setIfInBounds_toArray, List.set_cons_zero, List.set_cons_succ])
                refine wpAnyH_done (by kernel_rfl) ?_ _
                have HB5 := Lib.hid (below2 HBM.out hbr)
                clear hbr
                go_wp2_with fail
                go_roundw
                case rel => exact ⟨k + 1, by go_num, by omega, HB5⟩
                case measure => simp [intOf]; omega
            · have e3 : decide (0 < k) = false := by rw [decide_eq_false_iff_not]; omega
              clear hprev ho hp r3 d0
              go_wp2_with fail
              rw [← HW.out]
              have hbr : Below w31.heap.size w31 w31.drew := drew_below _
              refine held0 (S := (fun _ => True)) (by kernel_rfl) (trivial) (fun hHeld => ?_)
              iterate 12 (refine heldT (oi := ⟨_, _, _, _, _, _⟩) (v := ?_) hHeld rfl rfl (by kernel_rfl) (by kernel_rfl) (by kernel_rfl) (fun _ _ _ h => h) ?_ ?_; rotate_left; (intro w hSw; (try dsimp only at hSw); go_simp; try with_reducible rfl); try simp only [Act.put, List.setIfInBounds_toArray, List.set_cons_zero, List.set_cons_succ])
              iterate 1 (refine heldU (oi := ⟨_, _, _, _, _, _⟩) hHeld rfl rfl (by kernel_rfl) (by kernel_rfl) (by kernel_rfl) (fun _ _ _ h => h) ?_; try simp only [Act.put, List.setIfInBounds_toArray, List.set_cons_zero, List.set_cons_succ])
              iterate 2 (refine heldT (oi := ⟨_, _, _, _, _, _⟩) (v := ?_) hHeld rfl rfl (by kernel_rfl) (by kernel_rfl) (by kernel_rfl) (fun _ _ _ h => h) ?_ ?_; rotate_left; (intro w hSw; (try dsimp only at hSw); go_simp; try with_reducible rfl); try simp only [Act.put, List.setIfInBounds_toArray, List.set_cons_zero, List.set_cons_succ])
              iterate 14 (refine heldU (oi := ⟨_, _, _, _, _, _⟩) hHeld rfl rfl (by kernel_rfl) (by kernel_rfl) (by kernel_rfl) (fun _ _ _ h => h) ?_; try simp only [Act.put, List.setIfInBounds_toArray, List.set_cons_zero, List.set_cons_succ])
              iterate 2 (refine heldT (oi := ⟨_, _, _, _, _, _⟩) (v := ?_) hHeld rfl rfl (by kernel_rfl) (by kernel_rfl) (by kernel_rfl) (fun _ _ _ h => h) ?_ ?_; rotate_left; (intro w hSw; (try dsimp only at hSw); go_simp; try with_reducible rfl); try simp only [Act.put, List.setIfInBounds_toArray, List.set_cons_zero, List.set_cons_succ])
              iterate 9 (refine heldU (oi := ⟨_, _, _, _, _, _⟩) hHeld rfl rfl (by kernel_rfl) (by kernel_rfl) (by kernel_rfl) (fun _ _ _ h => h) ?_; try simp only [Act.put, List.setIfInBounds_toArray, List.set_cons_zero, List.set_cons_succ])
              iterate 2 (refine heldT (oi := ⟨_, _, _, _, _, _⟩) (v := ?_) hHeld rfl rfl (by kernel_rfl) (by kernel_rfl) (by kernel_rfl) (fun _ _ _ h => h) ?_ ?_; rotate_left; (intro w hSw; (try dsimp only at hSw); go_simp; try with_reducible rfl); try simp only [Act.put, List.setIfInBounds_toArray, List.set_cons_zero, List.set_cons_succ])
              refine wpAnyH_done (by kernel_rfl) ?_ _
              have HB5 := Lib.hid (below2 HBM.out hbr)
              clear hbr
              go_wp2_with fail
              go_roundw
              case rel => exact ⟨k + 1, by go_num, by omega, HB5⟩
              case measure => simp [intOf]; omega
          · have e2 : decide (t ≤ n) = false := decide_eq_false ho
            by_cases hp : 1 ≤ k
            · have e3 : decide (0 < k) = true := by rw [decide_eq_true_eq]; omega
              clear hprev ho hp r3 d0
              go_wp2_with fail
              rw [← HW.out]
              have hbr : Below w31.heap.size w31 w31.drew := drew_below _
              refine held0 (S := (fun _ => True)) (by kernel_rfl) (trivial) (fun hHeld => ?_)
              iterate 5 (refine heldT (oi := ⟨_, _, _, _, _, _⟩) (v := ?_) hHeld rfl rfl (by kernel_rfl) (by kernel_rfl) (by kernel_rfl) (fun _ _ _ h => h) ?_ ?_; rotate_left; (intro w hSw; (try dsimp only at hSw); go_simp; try with_reducible rfl); try simp only [Act.put, List.setIfInBounds_toArray, List.set_cons_zero, List.set_cons_succ])
              iterate 1 (refine heldU (oi := ⟨_, _, _, _, _, _⟩) hHeld rfl rfl (by kernel_rfl) (by kernel_rfl) (by kernel_rfl) (fun _ _ _ h => h) ?_; try simp only [Act.put, List.setIfInBounds_toArray, List.set_cons_zero, List.set_cons_succ])
              iterate 9 (refine heldT (oi := ⟨_, _, _, _, _, _⟩) (v := ?_) hHeld rfl rfl (by kernel_rfl) (by kernel_rfl) (by kernel_rfl) (fun _ _ _ h => h) ?_ ?_; rotate_left; (intro w hSw; (try dsimp only at hSw); go_simp; try with_reducible rfl); try simp only [Act.put, List.setIfInBounds_toArray, List.set_cons_zero, List.set_cons_succ])
              iterate 14 (refine heldU (oi := ⟨_, _, _, _, _, _⟩) hHeld rfl rfl (by kernel_rfl) (by kernel_rfl) (by kernel_rfl) (fun _ _ _ h => h) ?_; try simp only [Act.put, List.setIfInBounds_toArray, List.set_cons_zero, List.set_cons_succ])
              iterate 2 (refine heldT (oi := ⟨_, _, _, _, _, _⟩) (v := ?_) hHeld rfl rfl (by kernel_rfl) (by kernel_rfl) (by kernel_rfl) (fun _ _ _ h => h) ?_ ?_; rotate_left; (intro w hSw; (try dsimp only at hSw); go_simp; try with_reducible rfl); try simp only [Act.put, List.setIfInBounds_toArray, List.set_cons_zero, List.set_cons_succ])
              iterate 9 (refine heldU (oi := ⟨_, _, _, _, _, _⟩) hHeld rfl rfl (by kernel_rfl) (by kernel_rfl) (by kernel_rfl) (fun _ _ _ h => h) ?_; try simp only [Act.put, List.setIfInBounds_toArray, List.set_cons_zero, List.set_cons_succ])
              iterate 2 (refine heldT (oi := ⟨_, _, _, _, _, _⟩) (v := ?_) hHeld rfl rfl (by kernel_rfl) (by kernel_rfl) (by kernel_rfl) (fun _ _ _ h => h) ?_ ?_; rotate_left; (intro w hSw; (try dsimp only at hSw); go_simp; try with_reducible rfl); try simp only [Act.put, List.setIfInBounds_toArray, List.set_cons_zero, List.set_cons_succ])
              refine wpAnyH_done (by kernel_rfl) ?_ _
              have HB5 := Lib.hid (below2 HBM.out hbr)
              clear hbr
              go_wp2_with fail
              go_roundw
              case rel => exact ⟨k + 1, by go_num, by omega, HB5⟩
              case measure => simp [intOf]; omega
            · have e3 : decide (0 < k) = false := by rw [decide_eq_false_iff_not]; omega
              clear hprev ho hp r3 d0
              go_wp2_with fail
              rw [← HW.out]
              have hbr : Below w31.heap.size w31 w31.drew := drew_below _
              refine held0 (S := (fun _ => True)) (by kernel_rfl) (trivial) (fun hHeld => ?_)
              iterate 5 (refine heldT (oi := ⟨_, _, _, _, _, _⟩) (v := ?_) hHeld rfl rfl (by kernel_rfl) (by kernel_rfl) (by kernel_rfl) (fun _ _ _ h => h) ?_ ?_; rotate_left; (intro w hSw; (try dsimp only at hSw); go_simp; try with_reducible rfl); try simp only [Act.put, List.setIfInBounds_toArray, List.set_cons_zero, List.set_cons_succ])
              iterate 1 (refine heldU (oi := ⟨_, _, _, _, _, _⟩) hHeld rfl rfl (by kernel_rfl) (by kernel_rfl) (by kernel_rfl) (fun _ _ _ h => h) ?_; try simp only [Act.put, List.setIfInBounds_toArray, List.set_cons_zero, List.set_cons_succ])
              iterate 6 (refine heldT (oi := ⟨_, _, _, _, _, _⟩) (v := ?_) hHeld rfl rfl (by kernel_rfl) (by kernel_rfl) (by kernel_rfl) (fun _ _ _ h => h) ?_ ?_; rotate_left; (intro w hSw; (try dsimp only at hSw); go_simp; try with_reducible rfl); try simp only [Act.put, List.setIfInBounds_toArray, List.set_cons_zero, List.set_cons_succ])
              iterate 1 (refine heldU (oi := ⟨_, _, _, _, _, _⟩) hHeld rfl rfl (by kernel_rfl) (by kernel_rfl) (by kernel_rfl) (fun _ _ _ h => h) ?_; try simp only [Act.put, List.setIfInBounds_toArray, List.set_cons_zero, List.set_cons_succ])
              iterate 2 (refine heldT (oi := ⟨_, _, _, _, _, _⟩) (v := ?_) hHeld rfl rfl (by kernel_rfl) (by kernel_rfl) (by kernel_rfl) (fun _ _ _ h => h) ?_ ?_; rotate_left; (intro w hSw; (try dsimp only at hSw); go_simp; try with_reducible rfl); try simp only [Act.put, List.setIfInBounds_toArray, List.set_cons_zero, List.set_cons_succ])
              iterate 14 (refine heldU (oi := ⟨_, _, _, _, _, _⟩) hHeld rfl rfl (by kernel_rfl) (by kernel_rfl) (by kernel_rfl) (fun _ _ _ h => h) ?_; try simp only [Act.put, List.setIfInBounds_toArray, List.set_cons_zero, List.set_cons_succ])
              iterate 2 (refine heldT (oi := ⟨_, _, _, _, _, _⟩) (v := ?_) hHeld rfl rfl (by kernel_rfl) (by kernel_rfl) (by kernel_rfl) (fun _ _ _ h => h) ?_ ?_; rotate_left; (intro w hSw; (try dsimp only at hSw); go_simp; try with_reducible rfl); try simp only [Act.put, List.setIfInBounds_toArray, List.set_cons_zero, List.set_cons_succ])
              iterate 9 (refine heldU (oi := ⟨_, _, _, _, _, _⟩) hHeld rfl rfl (by kernel_rfl) (by kernel_rfl) (by kernel_rfl) (fun _ _ _ h => h) ?_; try simp only [Act.put, List.setIfInBounds_toArray, List.set_cons_zero, List.set_cons_succ])
              iterate 2 (refine heldT (oi := ⟨_, _, _, _, _, _⟩) (v := ?_) hHeld rfl rfl (by kernel_rfl) (by kernel_rfl) (by kernel_rfl) (fun _ _ _ h => h) ?_ ?_; rotate_left; (intro w hSw; (try dsimp only at hSw); go_simp; try with_reducible rfl); try simp only [Act.put, List.setIfInBounds_toArray, List.set_cons_zero, List.set_cons_succ])
              refine wpAnyH_done (by kernel_rfl) ?_ _
              have HB5 := Lib.hid (below2 HBM.out hbr)
              clear hbr
              go_wp2_with fail
              go_roundw
              case rel => exact ⟨k + 1, by go_num, by omega, HB5⟩
              case measure => simp [intOf]; omega
        · obtain rfl : k = nT := by omega
          have hd : decide ((k : Int) < (k : Int)) = false := by simp
          have HB39 := Lib.hid (below2 HB12.out hB.out)
          replace HT := Lib.hid (HT.out.below hB.out)
          replace HV := Lib.hid (HV.out.below hB.out)
          replace RA := Lib.hid (RA.out.below hB.out)
          clear hB
          go_wp2_with fail
          refine (all_calls _ U _ HT.out.1 HTV.out.2.2 HUT.out).mono ?_
          rintro e w41 ⟨u, rfl, ho, hB⟩
          obtain ⟨aU, cU, rfl⟩ := ho.form
          rw [HNN.out.2.1] at ho ⊢
          have HB41 := Lib.hid (below2 HB39.out hB)
          replace HT := Lib.hid (HT.out.below hB)
          replace HV := Lib.hid (HV.out.below hB)
          replace RA := Lib.hid (RA.out.below hB)
          have RU := Lib.hid (ho.prs)
          clear hB
          clear ho
          go_wp2_with fail
          go_loopw [16, 17] (fun m i ws => ∃ j : Nat, i = .int .i64 j ∧ j ≤ nU ∧ m = .int .i64 (lateN (U.take j) n : Int) ∧ Hid (Below w41.heap.size w41 ws)) (fun _ i _ => nU - (intOf i).toNat)
          case atStart => exact ⟨0, rfl, Nat.zero_le _, rfl, Lib.hid (Below.refl _ _)⟩
          case round =>
            obtain ⟨j, rfl, hj, rfl, hB⟩ := hrel
            by_cases hjl : j < nU
            · have hd2 : decide ((j : Int) < (nU : Int)) = true := by rw [decide_eq_true_eq]; omega
              have hjU : j < U.length := by rw [HNN.out.2.1]; exact hjl
              obtain ⟨b, off, rfl, c0, c1, _⟩ := (RU.out.below hB.out).at hjU
              have hin := HTF.out.2.2 _ (List.getElem_mem hjU)
              have hsn := late_snoc n hjU
              have hll : lateN (U.take j) n ≤ j := Nat.le_trans (List.length_filter_le _ _) (by rw [List.length_take]; omega)
              obtain ⟨⟨⟨p, t⟩, s⟩, hx⟩ : ∃ x, U[j] = x := ⟨_, rfl⟩
              rw [hx] at c0 c1 hin hsn
              dsimp only at c0 c1 hin hsn
              obtain ⟨m, hm⟩ : ∃ m, lateN (U.take j) n = m := ⟨_, rfl⟩
              rw [hm] at hsn hll ⊢
              have KG := Lib.hid (tget_calls _ T p t wr (HV.out.1.below hB.out) HTV.out.1)
              have hj0 : (0 : Int) ≤ (j : Int) := by omega
              have hj5 : (j : Int) < (nU : Int) := by omega
              clear hx hm
              by_cases ht : n < t
              · have e6 : decide (n < t) = true := decide_eq_true ht
                rw [hin ht] at KG
                rw [if_pos ht] at hsn
                have HS := Lib.hid hsn
                clear hin hsn ht
                go_wp2_with fail
                refine KG.out.mono ?_
                rintro e w60 ⟨rfl, hB6⟩
                have d1 := look_below hB6 c1
                have HB6 := Lib.hid (below2 hB.out hB6)
                clear hB6 c0 c1 hB
                go_wp2_with fail
                go_roundw
                case rel => exact ⟨j + 1, by go_num, by omega, by rw [HS.out]; go_num, HB6⟩
                case measure => simp [intOf]; omega
              · have e6 : decide (n < t) = false := decide_eq_false ht
                rw [if_neg ht] at hsn
                have HS := Lib.hid hsn
                obtain ⟨gin, hgin⟩ : ∃ g, hereB T (p, t) = g := ⟨_, rfl⟩
                rw [hgin] at KG
                clear hin hsn ht hgin
                go_wp2_with fail
                refine KG.out.mono ?_
                rintro e w60 ⟨rfl, hB6⟩
                have d1 := look_below hB6 c1
                have HB6 := Lib.hid (below2 hB.out hB6)
                clear hB6 c0 c1 hB
                go_wp2_with fail
                go_roundw
                case rel => exact ⟨j + 1, by go_num, by omega, by rw [HS.out], HB6⟩
                case measure => simp [intOf]; omega
            · obtain rfl : j = nU := by omega
              have hd2 : decide ((j : Int) < (j : Int)) = false := by simp
              have hlt2 := HNN.out.2.2
              have htk : U.take j = U := List.take_of_length_le (Nat.le_of_eq HNN.out.2.1)
              rw [htk]
              obtain ⟨m, hm⟩ : ∃ m, lateN U n = m := ⟨_, rfl⟩
              rw [hm] at hlt2 ⊢
              have e7 : decide (m ≤ k) = true := decide_eq_true hlt2
              have HB7 := Lib.hid (below2 HB41.out hB.out)
              clear hB hm htk hlt2
              go_wp2_with fail
              refine (swept_calls _ (HM.out.below HB7.out)).mono ?_
              rintro e w61 ⟨rfl, hB8⟩
              have HB8 := Lib.hid (below2 HB7.out hB8)
              clear hB8
              go_wp2_with fail
              go_ret
              exact ⟨rfl, HB8.out⟩
    · have hn0 : decide (n < 0) = true := decide_eq_true (by have h3 : ¬ (isSt U = true ∧ 0 ≤ n) := fun h2 => hz (vaE_zero.2 h2); by_cases h0 : n < 0; exact h0; exact absurd ⟨HIS.out, by omega⟩ h3)
      have KR := Lib.hid (fun tv W (h : Sto W tv U) => vaRun_calls h n)
      rw [vaE_one hz] at KR
      obtain ⟨M, hM⟩ : ∃ x, vaM U n = x := ⟨_, rfl⟩
      rw [hM] at KR
      clear hz hM hul
      go_enter Tryz.func6, Tryz.ntmps6
      go_wp2_with fail
      refine KB.out.mono ?_
      rintro e w1 ⟨rfl, rfl⟩
      go_wp2_with fail
      refine KM.out.mono ?_
      rintro e w2 ⟨t, rfl, ht, hB2⟩
      obtain ⟨tp, rfl⟩ := ht.val
      have HT := Lib.hid (HST.out _ _ ht (HM.out.below hB2))
      have HB2 := Lib.hid hB2
      clear ht hB2
      go_wp2_with fail
      refine (KR.out _ _ HT.out).mono ?_
      rintro e w11 ⟨up, rfl, hv, hB⟩
      have HB11 := Lib.hid (below2 HB2.out hB)
      replace HT := Lib.hid (HT.out.below hB)
      clear hB
      clear hv
      go_wp2_with fail
      refine (swept_calls _ (HM.out.below HB11.out)).mono ?_
      rintro e w12 ⟨rfl, hB⟩
      have HB12 := Lib.hid (below2 HB11.out hB)
      replace HT := Lib.hid (HT.out.below hB)
      clear hB
      go_wp2_with fail
      go_ret
      exact ⟨rfl, HB12.out⟩

end Go.Proofs.YtaaabmnaindgaaaGreatDoor
