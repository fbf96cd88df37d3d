/-
  The document's own Is of pins.
-/
import Derived.Test.YtbphdajhhnhphaaPnRow
import Derived.Test.YtbphdajhhnhphaaPnMore
import Derived.Test.YtbphdajhhnhphaaCell
import Derived.Test.YtbphdajhhnhphaaHeld
import Derived.Deep.RegionHeld3
namespace Go.Proofs.Ytbphdajhhnhphaa
set_option maxRecDepth 100000
open Go.RowKit


set_option maxHeartbeats 16000000 in
theorem refPnIs_calls (v : Value) (l : List Pn) (w : World) (h : Pns w v l) (hl : l.length ≤ 1000000) :
    Calls Try.prog 22 #[v] w fun e w' => e = .returned (.bool (isN l)) ∧ Below w.heap.size w w' := by
  obtain ⟨ao, cap, rfl⟩ := h.form
  have HH := Lib.hid h
  have HL := Lib.hid hl
  obtain ⟨R, hR⟩ : ∃ R, isN l = R := ⟨_, rfl⟩
  have HR := Lib.hid hR
  rw [hR]
  clear h hl hR
  go_enter Try.func22, Try.ntmps22
  go_wp2_with fail
  go_loopw [3] (fun i wr => ∃ k : Nat, i = .int .i64 k ∧ k ≤ l.length ∧ Hid (PinTo l k) ∧ Hid (Below w.heap.size w wr)) (fun i _ => l.length - (intOf i).toNat)
  case atStart => exact ⟨0, rfl, Nat.zero_le _, Lib.hid (fun _ _ h => by omega), Lib.hid (Below.refl _ _)⟩
  case round =>
    obtain ⟨k, rfl, hk, hf, hB⟩ := hrel
    have hl := HL.out
    by_cases hlt : k < l.length
    · have hd : decide ((k : Int) < (l.length : Int)) = true := by rw [decide_eq_true_eq]; omega
      have hk4 : (0 : Int) ≤ (k : Int) := by omega
      have hk5 : (k : Int) < (l.length : Int) := by omega
      have hbr : Below wr.heap.size wr wr.drew := drew_below _
      obtain ⟨b, off, rfl, x0, x1⟩ := pns_at (HH.out.below hB.out) hlt
      have HNOT := Lib.hid (fun h => pin_not hlt h)
      have HNEXT := Lib.hid (fun h1 h2 => pinTo_next hf.out hlt h1 h2)
      have HLESS := Lib.hid (fun j (hj : j < l.length) e h => pin_less hj hlt e h)
      obtain ⟨⟨s, a⟩, hx⟩ : ∃ x, l[k] = x := ⟨_, rfl⟩
      rw [hx] at x0 x1 HNOT HNEXT HLESS
      dsimp only at x0 x1 HLESS
      have HX := Lib.hid hx
      have HC := Lib.hid (fun W (hW : Below wr.heap.size wr W) => And.intro (look_below hW x0) (look_below hW x1))
      clear hx x0 x1
      by_cases q0 : s < 0
      · have d0 : decide (s < 0) = true := by rw [decide_eq_true_eq]; exact q0
        have HX2 := Lib.hid (HNOT.out (by rw [← Bool.not_eq_true, oneP_iff]; intro h; dsimp only at h; omega))
        clear q0
        go_wp2_with fail
        refine held0 (S := (fun W => W.cell? ⟨b, off + k * 2, none⟩ = some (.int .i64 s) ∧ W.cell? ⟨b, off + k * 2 + 1, none⟩ = some (.int .i64 a))) (by kernel_rfl) (HC.out _ hbr) (fun hHeld => ?_)
        iterate 7 (refine heldT (oi := ⟨_, _, _, _, _, _⟩) (v := ?_) hHeld rfl rfl (by kernel_rfl) (by kernel_rfl) (by kernel_rfl) (fun _ _ _ h => h) ?_ ?_; rotate_left; (intro w hSw; (try dsimp only at hSw); go_simp; try with_reducible rfl); try simp only [Act.put, List.setIfInBounds_toArray, List.set_cons_zero, List.set_cons_succ])
        iterate 6 (refine heldU (oi := ⟨_, _, _, _, _, _⟩) hHeld rfl rfl (by kernel_rfl) (by kernel_rfl) (by kernel_rfl) (fun _ _ _ h => h) ?_; try simp only [Act.put, List.setIfInBounds_toArray, List.set_cons_zero, List.set_cons_succ])
        iterate 2 (refine heldT (oi := ⟨_, _, _, _, _, _⟩) (v := ?_) hHeld rfl rfl (by kernel_rfl) (by kernel_rfl) (by kernel_rfl) (fun _ _ _ h => h) ?_ ?_; rotate_left; (intro w hSw; (try dsimp only at hSw); go_simp; try with_reducible rfl); try simp only [Act.put, List.setIfInBounds_toArray, List.set_cons_zero, List.set_cons_succ])
        iterate 6 (refine heldU (oi := ⟨_, _, _, _, _, _⟩) hHeld rfl rfl (by kernel_rfl) (by kernel_rfl) (by kernel_rfl) (fun _ _ _ h => h) ?_; try simp only [Act.put, List.setIfInBounds_toArray, List.set_cons_zero, List.set_cons_succ])
        iterate 2 (refine heldT (oi := ⟨_, _, _, _, _, _⟩) (v := ?_) hHeld rfl rfl (by kernel_rfl) (by kernel_rfl) (by kernel_rfl) (fun _ _ _ h => h) ?_ ?_; rotate_left; (intro w hSw; (try dsimp only at hSw); go_simp; try with_reducible rfl); try simp only [Act.put, List.setIfInBounds_toArray, List.set_cons_zero, List.set_cons_succ])
        iterate 6 (refine heldU (oi := ⟨_, _, _, _, _, _⟩) hHeld rfl rfl (by kernel_rfl) (by kernel_rfl) (by kernel_rfl) (fun _ _ _ h => h) ?_; try simp only [Act.put, List.setIfInBounds_toArray, List.set_cons_zero, List.set_cons_succ])
        iterate 2 (refine heldT (oi := ⟨_, _, _, _, _, _⟩) (v := ?_) hHeld rfl rfl (by kernel_rfl) (by kernel_rfl) (by kernel_rfl) (fun _ _ _ h => h) ?_ ?_; rotate_left; (intro w hSw; (try dsimp only at hSw); go_simp; try with_reducible rfl); try simp only [Act.put, List.setIfInBounds_toArray, List.set_cons_zero, List.set_cons_succ])
        iterate 16 (refine heldU (oi := ⟨_, _, _, _, _, _⟩) hHeld rfl rfl (by kernel_rfl) (by kernel_rfl) (by kernel_rfl) (fun _ _ _ h => h) ?_; try simp only [Act.put, List.setIfInBounds_toArray, List.set_cons_zero, List.set_cons_succ])
        iterate 1 (refine heldT (oi := ⟨_, _, _, _, _, _⟩) (v := ?_) hHeld rfl rfl (by kernel_rfl) (by kernel_rfl) (by kernel_rfl) (fun _ _ _ h => h) ?_ ?_; rotate_left; (intro w hSw; (try dsimp only at hSw); go_simp; try with_reducible rfl); try simp only [Act.put, List.setIfInBounds_toArray, List.set_cons_zero, List.set_cons_succ])
        refine wpAnyH_done (by kernel_rfl) ?_ _
        go_wp2_with fail
        go_ret
        exact ⟨by rw [← HR.out, HX2.out]; rfl, below2 hB.out hbr⟩
      · have d0 : decide (s < 0) = false := by rw [decide_eq_false_iff_not]; exact q0
        by_cases q1 : 1000000 < s
        · have d1 : decide (1000000 < s) = true := by rw [decide_eq_true_eq]; exact q1
          have HX2 := Lib.hid (HNOT.out (by rw [← Bool.not_eq_true, oneP_iff]; intro h; dsimp only at h; omega))
          clear q0 q1
          go_wp2_with fail
          refine held0 (S := (fun W => W.cell? ⟨b, off + k * 2, none⟩ = some (.int .i64 s) ∧ W.cell? ⟨b, off + k * 2 + 1, none⟩ = some (.int .i64 a))) (by kernel_rfl) (HC.out _ hbr) (fun hHeld => ?_)
          iterate 15 (refine heldT (oi := ⟨_, _, _, _, _, _⟩) (v := ?_) hHeld rfl rfl (by kernel_rfl) (by kernel_rfl) (by kernel_rfl) (fun _ _ _ h => h) ?_ ?_; rotate_left; (intro w hSw; (try dsimp only at hSw); go_simp; try with_reducible rfl); try simp only [Act.put, List.setIfInBounds_toArray, List.set_cons_zero, List.set_cons_succ])
          iterate 6 (refine heldU (oi := ⟨_, _, _, _, _, _⟩) hHeld rfl rfl (by kernel_rfl) (by kernel_rfl) (by kernel_rfl) (fun _ _ _ h => h) ?_; try simp only [Act.put, List.setIfInBounds_toArray, List.set_cons_zero, List.set_cons_succ])
          iterate 2 (refine heldT (oi := ⟨_, _, _, _, _, _⟩) (v := ?_) hHeld rfl rfl (by kernel_rfl) (by kernel_rfl) (by kernel_rfl) (fun _ _ _ h => h) ?_ ?_; rotate_left; (intro w hSw; (try dsimp only at hSw); go_simp; try with_reducible rfl); try simp only [Act.put, List.setIfInBounds_toArray, List.set_cons_zero, List.set_cons_succ])
          iterate 6 (refine heldU (oi := ⟨_, _, _, _, _, _⟩) hHeld rfl rfl (by kernel_rfl) (by kernel_rfl) (by kernel_rfl) (fun _ _ _ h => h) ?_; try simp only [Act.put, List.setIfInBounds_toArray, List.set_cons_zero, List.set_cons_succ])
          iterate 2 (refine heldT (oi := ⟨_, _, _, _, _, _⟩) (v := ?_) hHeld rfl rfl (by kernel_rfl) (by kernel_rfl) (by kernel_rfl) (fun _ _ _ h => h) ?_ ?_; rotate_left; (intro w hSw; (try dsimp only at hSw); go_simp; try with_reducible rfl); try simp only [Act.put, List.setIfInBounds_toArray, List.set_cons_zero, List.set_cons_succ])
          iterate 16 (refine heldU (oi := ⟨_, _, _, _, _, _⟩) hHeld rfl rfl (by kernel_rfl) (by kernel_rfl) (by kernel_rfl) (fun _ _ _ h => h) ?_; try simp only [Act.put, List.setIfInBounds_toArray, List.set_cons_zero, List.set_cons_succ])
          iterate 1 (refine heldT (oi := ⟨_, _, _, _, _, _⟩) (v := ?_) hHeld rfl rfl (by kernel_rfl) (by kernel_rfl) (by kernel_rfl) (fun _ _ _ h => h) ?_ ?_; rotate_left; (intro w hSw; (try dsimp only at hSw); go_simp; try with_reducible rfl); try simp only [Act.put, List.setIfInBounds_toArray, List.set_cons_zero, List.set_cons_succ])
          refine wpAnyH_done (by kernel_rfl) ?_ _
          go_wp2_with fail
          go_ret
          exact ⟨by rw [← HR.out, HX2.out]; rfl, below2 hB.out hbr⟩
        · have d1 : decide (1000000 < s) = false := by rw [decide_eq_false_iff_not]; exact q1
          by_cases q2 : a < 0
          · have d2 : decide (a < 0) = true := by rw [decide_eq_true_eq]; exact q2
            have HX2 := Lib.hid (HNOT.out (by rw [← Bool.not_eq_true, oneP_iff]; intro h; dsimp only at h; omega))
            clear q0 q1 q2
            go_wp2_with fail
            refine held0 (S := (fun W => W.cell? ⟨b, off + k * 2, none⟩ = some (.int .i64 s) ∧ W.cell? ⟨b, off + k * 2 + 1, none⟩ = some (.int .i64 a))) (by kernel_rfl) (HC.out _ hbr) (fun hHeld => ?_)
            iterate 23 (refine heldT (oi := ⟨_, _, _, _, _, _⟩) (v := ?_) hHeld rfl rfl (by kernel_rfl) (by kernel_rfl) (by kernel_rfl) (fun _ _ _ h => h) ?_ ?_; rotate_left; (intro w hSw; (try dsimp only at hSw); go_simp; try with_reducible rfl); try simp only [Act.put, List.setIfInBounds_toArray, List.set_cons_zero, List.set_cons_succ])
            iterate 6 (refine heldU (oi := ⟨_, _, _, _, _, _⟩) hHeld rfl rfl (by kernel_rfl) (by kernel_rfl) (by kernel_rfl) (fun _ _ _ h => h) ?_; try simp only [Act.put, List.setIfInBounds_toArray, List.set_cons_zero, List.set_cons_succ])
            iterate 2 (refine heldT (oi := ⟨_, _, _, _, _, _⟩) (v := ?_) hHeld rfl rfl (by kernel_rfl) (by kernel_rfl) (by kernel_rfl) (fun _ _ _ h => h) ?_ ?_; rotate_left; (intro w hSw; (try dsimp only at hSw); go_simp; try with_reducible rfl); try simp only [Act.put, List.setIfInBounds_toArray, List.set_cons_zero, List.set_cons_succ])
            iterate 16 (refine heldU (oi := ⟨_, _, _, _, _, _⟩) hHeld rfl rfl (by kernel_rfl) (by kernel_rfl) (by kernel_rfl) (fun _ _ _ h => h) ?_; try simp only [Act.put, List.setIfInBounds_toArray, List.set_cons_zero, List.set_cons_succ])
            iterate 1 (refine heldT (oi := ⟨_, _, _, _, _, _⟩) (v := ?_) hHeld rfl rfl (by kernel_rfl) (by kernel_rfl) (by kernel_rfl) (fun _ _ _ h => h) ?_ ?_; rotate_left; (intro w hSw; (try dsimp only at hSw); go_simp; try with_reducible rfl); try simp only [Act.put, List.setIfInBounds_toArray, List.set_cons_zero, List.set_cons_succ])
            refine wpAnyH_done (by kernel_rfl) ?_ _
            go_wp2_with fail
            go_ret
            exact ⟨by rw [← HR.out, HX2.out]; rfl, below2 hB.out hbr⟩
          · have d2 : decide (a < 0) = false := by rw [decide_eq_false_iff_not]; exact q2
            by_cases q3 : 1000000000 < a
            · have d3 : decide (1000000000 < a) = true := by rw [decide_eq_true_eq]; exact q3
              have HX2 := Lib.hid (HNOT.out (by rw [← Bool.not_eq_true, oneP_iff]; intro h; dsimp only at h; omega))
              clear q0 q1 q2 q3
              go_wp2_with fail
              refine held0 (S := (fun W => W.cell? ⟨b, off + k * 2, none⟩ = some (.int .i64 s) ∧ W.cell? ⟨b, off + k * 2 + 1, none⟩ = some (.int .i64 a))) (by kernel_rfl) (HC.out _ hbr) (fun hHeld => ?_)
              iterate 31 (refine heldT (oi := ⟨_, _, _, _, _, _⟩) (v := ?_) hHeld rfl rfl (by kernel_rfl) (by kernel_rfl) (by kernel_rfl) (fun _ _ _ h => h) ?_ ?_; rotate_left; (intro w hSw; (try dsimp only at hSw); go_simp; try with_reducible rfl); try simp only [Act.put, List.setIfInBounds_toArray, List.set_cons_zero, List.set_cons_succ])
              iterate 16 (refine heldU (oi := ⟨_, _, _, _, _, _⟩) hHeld rfl rfl (by kernel_rfl) (by kernel_rfl) (by kernel_rfl) (fun _ _ _ h => h) ?_; try simp only [Act.put, List.setIfInBounds_toArray, List.set_cons_zero, List.set_cons_succ])
              iterate 1 (refine heldT (oi := ⟨_, _, _, _, _, _⟩) (v := ?_) hHeld rfl rfl (by kernel_rfl) (by kernel_rfl) (by kernel_rfl) (fun _ _ _ h => h) ?_ ?_; rotate_left; (intro w hSw; (try dsimp only at hSw); go_simp; try with_reducible rfl); try simp only [Act.put, List.setIfInBounds_toArray, List.set_cons_zero, List.set_cons_succ])
              refine wpAnyH_done (by kernel_rfl) ?_ _
              go_wp2_with fail
              go_ret
              exact ⟨by rw [← HR.out, HX2.out]; rfl, below2 hB.out hbr⟩
            · have d3 : decide (1000000000 < a) = false := by rw [decide_eq_false_iff_not]; exact q3
              have HONE := Lib.hid (HNEXT.out (oneP_iff.2 ⟨by dsimp only; omega, by dsimp only; omega, by dsimp only; omega, by dsimp only; omega⟩))
              clear q0 q1 q2 q3
              by_cases hz : k = 0
              · have d4 : decide (0 < k) = false := by rw [decide_eq_false_iff_not]; omega
                have d4' : decide ((0 : Int) < (k : Int)) = false := by rw [decide_eq_false_iff_not]; omega
                have HN := Lib.hid (HONE.out (fun j hj e => by omega))
                clear hz
                go_wp2_with fail
                refine held0 (S := (fun W => W.cell? ⟨b, off + k * 2, none⟩ = some (.int .i64 s) ∧ W.cell? ⟨b, off + k * 2 + 1, none⟩ = some (.int .i64 a))) (by kernel_rfl) (HC.out _ hbr) (fun hHeld => ?_)
                iterate 34 (refine heldT (oi := ⟨_, _, _, _, _, _⟩) (v := ?_) hHeld rfl rfl (by kernel_rfl) (by kernel_rfl) (by kernel_rfl) (fun _ _ _ h => h) ?_ ?_; rotate_left; (intro w hSw; (try dsimp only at hSw); go_simp; try with_reducible rfl); try simp only [Act.put, List.setIfInBounds_toArray, List.set_cons_zero, List.set_cons_succ])
                iterate 12 (refine heldU (oi := ⟨_, _, _, _, _, _⟩) hHeld rfl rfl (by kernel_rfl) (by kernel_rfl) (by kernel_rfl) (fun _ _ _ h => h) ?_; try simp only [Act.put, List.setIfInBounds_toArray, List.set_cons_zero, List.set_cons_succ])
                iterate 2 (refine heldT (oi := ⟨_, _, _, _, _, _⟩) (v := ?_) hHeld rfl rfl (by kernel_rfl) (by kernel_rfl) (by kernel_rfl) (fun _ _ _ h => h) ?_ ?_; rotate_left; (intro w hSw; (try dsimp only at hSw); go_simp; try with_reducible rfl); try simp only [Act.put, List.setIfInBounds_toArray, List.set_cons_zero, List.set_cons_succ])
                refine wpAnyH_done (by kernel_rfl) ?_ _
                have HBW := Lib.hid (below2 hB.out hbr)
                clear hbr
                go_wp2_with fail
                go_roundw
                case rel => exact ⟨k + 1, by go_num, by omega, Lib.hid (HN.out), HBW⟩
                case measure => simp [intOf]; omega
              · have d4 : decide (0 < k) = true := by rw [decide_eq_true_eq]; omega
                have d4' : decide ((0 : Int) < (k : Int)) = true := by rw [decide_eq_true_eq]; omega
                obtain ⟨j, hj⟩ : ∃ j, k = j + 1 := ⟨k - 1, by omega⟩
                have hjl : j < l.length := by omega
                have HLJ := Lib.hid (HLESS.out j hjl hj)
                have HNJ := Lib.hid (fun (hx : l[j].1 < s) => HONE.out (fun j' hj' e => by (have e' : j' = j := by omega); subst e'; exact hx))
                obtain ⟨b2, off2, he2, y0, _⟩ := pns_at (HH.out.below hB.out) hjl
                cases he2
                generalize l[j].1 = sp at *
                have hw1 : IntKind.i64.wrap ((k : Int) - 1) = (j : Int) := by rw [IntWalk.i64_in _ (by omega)]; omega
                have hw2 : IntKind.i64.wrap (j : Int) = (j : Int) := IntWalk.i64_in _ (by omega)
                have hj4 : (0 : Int) ≤ (j : Int) := by omega
                have hj5 : (j : Int) < (l.length : Int) := by omega
                have HC3 := Lib.hid (fun W (hW : Below wr.heap.size wr W) => And.intro (HC.out W hW) (look_below hW y0))
                clear hj hz y0
                by_cases hs : s ≤ sp
                · have d5 : decide (s ≤ sp) = true := by rw [decide_eq_true_eq]; exact hs
                  have HX2 := Lib.hid (HLJ.out hs)
                  clear hs
                  go_wp2_with fail
                  refine held0 (S := (fun W => (W.cell? ⟨b, off + k * 2, none⟩ = some (.int .i64 s) ∧ W.cell? ⟨b, off + k * 2 + 1, none⟩ = some (.int .i64 a)) ∧ W.cell? ⟨b, off + j * 2, none⟩ = some (.int .i64 sp))) (by kernel_rfl) (HC3.out _ hbr) (fun hHeld => ?_)
                  iterate 48 (refine heldT (oi := ⟨_, _, _, _, _, _⟩) (v := ?_) hHeld rfl rfl (by kernel_rfl) (by kernel_rfl) (by kernel_rfl) (fun _ _ _ h => h) ?_ ?_; rotate_left; (intro w hSw; (try dsimp only at hSw); go_simp; try with_reducible rfl); try simp only [Act.put, List.setIfInBounds_toArray, List.set_cons_zero, List.set_cons_succ])
                  refine wpAnyH_done (by kernel_rfl) ?_ _
                  go_wp2_with fail
                  go_ret
                  exact ⟨by rw [← HR.out, HX2.out]; rfl, below2 hB.out hbr⟩
                · have d5 : decide (s ≤ sp) = false := by rw [decide_eq_false_iff_not]; exact hs
                  have HX2 := Lib.hid (HNJ.out (by omega))
                  clear hs
                  go_wp2_with fail
                  refine held0 (S := (fun W => (W.cell? ⟨b, off + k * 2, none⟩ = some (.int .i64 s) ∧ W.cell? ⟨b, off + k * 2 + 1, none⟩ = some (.int .i64 a)) ∧ W.cell? ⟨b, off + j * 2, none⟩ = some (.int .i64 sp))) (by kernel_rfl) (HC3.out _ hbr) (fun hHeld => ?_)
                  iterate 48 (refine heldT (oi := ⟨_, _, _, _, _, _⟩) (v := ?_) hHeld rfl rfl (by kernel_rfl) (by kernel_rfl) (by kernel_rfl) (fun _ _ _ h => h) ?_ ?_; rotate_left; (intro w hSw; (try dsimp only at hSw); go_simp; try with_reducible rfl); try simp only [Act.put, List.setIfInBounds_toArray, List.set_cons_zero, List.set_cons_succ])
                  refine wpAnyH_done (by kernel_rfl) ?_ _
                  have HBW := Lib.hid (below2 hB.out hbr)
                  clear hbr
                  go_wp2_with fail
                  go_roundw
                  case rel => exact ⟨k + 1, by go_num, by omega, Lib.hid (HX2.out), HBW⟩
                  case measure => simp [intOf]; omega
    · obtain rfl : k = l.length := by omega
      have hd : decide ((l.length : Int) < (l.length : Int)) = false := by simp
      have HS := Lib.hid (pin_all hf.out)
      by_cases h50 : l.length ≤ 50
      · have d : decide (l.length ≤ 50) = true := decide_eq_true h50
        have d' : decide ((l.length : Int) ≤ 50) = true := by rw [decide_eq_true_eq]; omega
        have HT := Lib.hid (HR.out.symm.trans (HS.out.trans d))
        clear h50
        go_wp2_with fail
        go_ret
        exact ⟨by rw [HT.out]; rfl, hB.out⟩
      · have d : decide (l.length ≤ 50) = false := decide_eq_false h50
        have d' : decide ((l.length : Int) ≤ 50) = false := by rw [decide_eq_false_iff_not]; omega
        have HT := Lib.hid (HR.out.symm.trans (HS.out.trans d))
        clear h50
        go_wp2_with fail
        go_ret
        exact ⟨by rw [HT.out]; rfl, hB.out⟩

end Go.Proofs.Ytbphdajhhnhphaa
