/-
  The walk of TreeOld.
-/
import Derived.Test.YtgbicdbmmjleoaaTrGrown
import Derived.Test.YtgbicdbmmjleoaaTrTime
import Derived.Test.YtgbicdbmmjleoaaTrDo
import Derived.Test.YtgbicdbmmjleoaaTrBoth
namespace Go.Proofs.Ytgbicdbmmjleoaa
open Go.RowKit

set_option maxRecDepth 100000 in
set_option maxHeartbeats 32000000 in
theorem treeOld_walk (v : Value) (l : List Stp) (w : World) (hs : Stps w v l) (hk : l.length ≤ maxLen) (hti : Timed (l.map (·.2))) :
    Calls Try.prog 4 #[v] w fun e w' => e = .returned (.bool true) ∧ Below w.heap.size w w' := by
  obtain ⟨ao, cap, rfl⟩ := hs.form
  have hk' : l.length ≤ 9223372036854775807 := by unfold maxLen at hk; exact hk
  have CB := bigO_calls _ l w hs hk'
  have HS := Lib.hid hs
  have HTI := Lib.hid hti
  have KN := Lib.hid new_calls
  have KG := Lib.hid grown_calls
  clear hs hk hk' hti
  cases hb : bigO l with
  | true =>
    rw [hb] at CB
    have K := Lib.hid CB
    clear CB hb
    go_enter Try.func4, Try.ntmps4
    go_wp2_with fail
    refine K.out.mono ?_
    rintro e w1 ⟨rfl, rfl⟩
    go_wp2_with fail
    go_ret
    exact ⟨rfl, Below.refl _ _⟩
  | false =>
    rw [hb] at CB
    have K := Lib.hid CB
    have hl := smallO hb
    clear CB hb
    by_cases h60 : 60 < l.length
    · go_enter Try.func4, Try.ntmps4
      go_wp2_with fail
      refine K.out.mono ?_
      rintro e w1 ⟨rfl, rfl⟩
      go_wp2_with fail
      go_ret
      exact ⟨rfl, Below.refl _ _⟩
    · have hl60 : l.length ≤ 60 := by omega
      have hd60 : decide ((60 : Int) < (l.length : Int)) = false := by rw [decide_eq_false_iff_not]; omega
      go_enter Try.func4, Try.ntmps4
      go_wp2_with fail
      refine K.out.mono ?_
      rintro e w1 ⟨rfl, rfl⟩
      go_wp2_with fail
      refine (KN.out _).mono ?_
      rintro e w2 ⟨ta, rfl, hta, hB2⟩
      have HA0 := Lib.hid (both_one hta w.heap.size hB2.size)
      have hptr := hta.ptr.2
      obtain ⟨pa, rfl⟩ : ∃ p, ta = .pointer p := by
        obtain ⟨_, ⟨rfl, _⟩ | ⟨g, u, rfl, _⟩⟩ := hta <;> exact ⟨_, rfl⟩
      have HB2 := Lib.hid (below2 hB2 (below_alloc2 w2 (.cells #[.pointer pa] 26) (.cells #[.slice none 0 0] 28)))
      clear hta hB2 hptr
      go_wp2_with fail
      go_loopw [3, 4, 5] (fun tv rv i wr => ∃ (k : Nat) (P : List Tri), k ≤ l.length ∧ i = .int .i64 k ∧ Both wr w.heap.size tv rv P k ∧ Below w.heap.size w wr) (fun _ _ i _ => l.length - (intOf i).toNat)
      case atStart => exact ⟨0, _, Nat.zero_le _, rfl, HA0.out, HB2.out⟩
      case round =>
        obtain ⟨k, P, hk, rfl, hb, hB⟩ := hrel
        obtain ⟨gt, ct, rfl, hct⟩ := hb.trees
        obtain ⟨gr, cr, rfl, hcr⟩ := hb.rows
        have HBo := Lib.hid hb
        have hPl := hb.2.2.1
        by_cases hlt : k < l.length
        · obtain ⟨bb, off, rfl, c0, c1, c2, c3⟩ := (HS.out.below hB).at hlt
          obtain ⟨⟨z', ⟨p', n'⟩, s'⟩, hx⟩ : ∃ x, l[k] = x := ⟨_, rfl⟩
          rw [hx] at c0 c1 c2 c3
          dsimp only at c0 c1 c2 c3
          have htx : n' ≤ 9223372036854775807 := HTI.out (((p', n'), s')) (List.mem_map.2 ⟨l[k], List.getElem_mem hlt, by rw [hx]⟩)
          have hkP : k < P.length := by omega
          have ct0 := hct k hkP
          obtain ⟨f1, _, f3, f4⟩ := hb.2.2.2 _ (List.getElem_mem hkP)
          obtain ⟨⟨tx, rx, Lx⟩, hy⟩ : ∃ x, P[k] = x := ⟨_, rfl⟩
          rw [hy] at ct0 f1 f3 f4
          dsimp only at ct0 f1 f3 f4
          have HD := Lib.hid (fun W (hB : Below wr.heap.size wr W) => do_calls tx Lx z' p' n' s' W (f1.below hB) (by omega))
          have hdt := timed_do f3 (o := (z', (p', n'), s')) htx
          have hdl := doL_le Lx (z', (p', n'), s')
          obtain ⟨L', hL'⟩ : ∃ L, doL Lx (z', (p', n'), s') = L := ⟨_, rfl⟩
          rw [hL'] at HD hdt hdl
          have HL := Lib.hid (And.intro hdt (show L'.length ≤ k + 1 by omega))
          have HSx : Hid (∀ W, Below wr.heap.size wr W → W.cell? ⟨gt, k, none⟩ = some tx ∧ W.cell? ⟨bb, off + k * 4, none⟩ = some (.int .i64 z') ∧ W.cell? ⟨bb, off + k * 4 + 1, none⟩ = some (.string ⟨p'.toArray⟩) ∧ W.cell? ⟨bb, off + k * 4 + 2, none⟩ = some (.int .i64 n') ∧ W.cell? ⟨bb, off + k * 4 + 3, none⟩ = some (.string ⟨s'.toArray⟩)) :=
            Lib.hid (fun W hB => ⟨look_below hB ct0, look_below hB c0, look_below hB c1, look_below hB c2, look_below hB c3⟩)
          have hbr := drew_below wr
          have HB := Lib.hid hB
          have hk1 : (k : Int) < (k : Int) + 1 := by omega
          clear hx hy hct hcr hb f1 f3 f4 hdt hdl hL' c0 c1 c2 c3 ct0 hPl hB htx
          go_wp2_with fail
          go_region_held3 (fun W => W.cell? ⟨gt, k, none⟩ = some tx ∧ W.cell? ⟨bb, off + k * 4, none⟩ = some (.int .i64 z') ∧ W.cell? ⟨bb, off + k * 4 + 1, none⟩ = some (.string ⟨p'.toArray⟩) ∧ W.cell? ⟨bb, off + k * 4 + 2, none⟩ = some (.int .i64 n') ∧ W.cell? ⟨bb, off + k * 4 + 3, none⟩ = some (.string ⟨s'.toArray⟩)) (first | exact HSx.out _ hbr) (first
            | ((with_reducible refine (HD.out _ hbr).mono ?_); rintro e w4 ⟨u, rfl, hu, hB4⟩; have hbr := below2 hbr hB4; have HU := Lib.hid hu; clear hu))
          obtain ⟨pu, hpu⟩ : ∃ p, u = .pointer p := by
            obtain ⟨_, ⟨rfl, _⟩ | ⟨g, x, rfl, _⟩⟩ := HU.out <;> exact ⟨_, rfl⟩
          subst hpu
          have hBw := below2 HB.out hbr
          have HT := Lib.hid (grow_trees (u := .pointer pu) (L := L') ((HBo.out.below hbr).below (below_alloc w4 (.cells #[.pointer pu] 26))) (HU.out.below (below_alloc w4 _)) (h := w4.heap.size) (by rw [World.cell?_alloc_new]; rfl) (by omega) (hBw.alloc hBw.size _) (Nat.le_refl _))
          obtain ⟨g5, cap5, w5, hr5, hh5, hB5⟩ := HT.out
          have HH := Lib.hid hh5
          clear hh5
          go_wp2_with (at_builtin; refine Lib.wpList_append_run _ rfl _ _ _ _ rfl _ _ rfl rfl _ _ (hr5 _) ?_)
          refine (all_calls _ L' _ HH.out.2.2.2.2 (by have := HL.out.2; omega) HL.out.1).mono ?_
          rintro e w6 ⟨u6, rfl, hu6, hB6⟩
          have HU6 := Lib.hid hu6.prs
          have HH6 := Lib.hid (HH.out.below hB6)
          have HB6 := Lib.hid (below2 hB5 hB6)
          clear hu6 hr5
          obtain ⟨a6, n6, c6, rfl⟩ := HU6.out.any
          have HT7 := Lib.hid (grow_rows (r := .slice a6 n6 c6) (HH6.out.below (below_alloc w6 (.cells #[.slice a6 n6 c6] 28))) (HU6.out.below (below_alloc w6 _)) HL.out.1 HL.out.2 (h := w6.heap.size) (by rw [World.cell?_alloc_new]; rfl) (by omega) (HB6.out.alloc HB6.out.size _) (Nat.le_refl _))
          obtain ⟨g7, cap7, w7, hr7, hh7, hB7⟩ := HT7.out
          have HH7 := Lib.hid hh7
          clear hh7
          go_wp2_with (at_builtin; refine Lib.wpList_append_run _ rfl _ _ _ _ rfl _ _ rfl rfl _ _ (hr7 _) ?_)
          go_roundw
          case rel => exact ⟨k + 1, _, by omega, by go_num, HH7.out, hB7⟩
          case measure => simp [intOf]; omega
        · obtain rfl : k = l.length := by omega
          have HB := Lib.hid hB
          clear hct hcr hb hB
          rename World => wA
          go_wp2_with fail
          go_loopw [7] (fun i wr' => ∃ j : Nat, j ≤ l.length ∧ i = .int .i64 j ∧ Below wA.heap.size wA wr') (fun i _ => l.length - (intOf i).toNat)
          case atStart => exact ⟨0, Nat.zero_le _, rfl, Below.refl _ _⟩
          case round =>
            obtain ⟨j, hj, rfl, hB2⟩ := hrel
            by_cases hjl : j < l.length
            · have h0l : 0 < l.length := by omega
              have hb := HBo.out.below hB2
              obtain ⟨gt', ct', he, hct⟩ := hb.trees
              cases he
              obtain ⟨bb, off, rfl, c0, c1, c2, c3⟩ := (HS.out.below (below2 HB.out hB2)).at hjl
              obtain ⟨b', o', he, d0, d1, d2, d3⟩ := (HS.out.below (below2 HB.out hB2)).at h0l
              cases he
              obtain ⟨⟨z', ⟨p', n'⟩, s'⟩, hx⟩ : ∃ x, l[j] = x := ⟨_, rfl⟩
              obtain ⟨⟨z0, ⟨p0, n0⟩, s0⟩, hx0⟩ : ∃ x, l[0] = x := ⟨_, rfl⟩
              rw [hx] at c1 c2
              rw [hx0] at d1 d2 d3
              rw [Nat.zero_mul, Nat.add_zero] at d1 d2 d3
              dsimp only at c1 c2 d1 d2 d3
              have hjP : j < P.length := by omega
              have ct0 := hct j hjP
              obtain ⟨f1, _, f3, f4⟩ := hb.2.2.2 _ (List.getElem_mem hjP)
              obtain ⟨⟨tx, rx, Lx⟩, hy⟩ : ∃ x, P[j] = x := ⟨_, rfl⟩
              rw [hy] at ct0 f1 f4
              dsimp only at ct0 f1 f4
              have HD1 := Lib.hid (fun W (hB : Below wr.heap.size wr W) => do_calls tx Lx 1 p' n' [115, 109, 117, 100, 103, 101] W (f1.below hB) (by omega))
              have HD2 := Lib.hid (fun W (hB : Below wr.heap.size wr W) => do_calls tx Lx 2 p0 n0 s0 W (f1.below hB) (by omega))
              have HSx : Hid (∀ W, Below wr.heap.size wr W → W.cell? ⟨gt, j, none⟩ = some tx ∧ W.cell? ⟨bb, off + j * 4 + 1, none⟩ = some (.string ⟨p'.toArray⟩) ∧ W.cell? ⟨bb, off + j * 4 + 2, none⟩ = some (.int .i64 n') ∧ W.cell? ⟨bb, off + 1, none⟩ = some (.string ⟨p0.toArray⟩) ∧ W.cell? ⟨bb, off + 2, none⟩ = some (.int .i64 n0) ∧ W.cell? ⟨bb, off + 3, none⟩ = some (.string ⟨s0.toArray⟩)) :=
                Lib.hid (fun W hB => ⟨look_below hB ct0, look_below hB c1, look_below hB c2, look_below hB d1, look_below hB d2, look_below hB d3⟩)
              have hbr := drew_below wr
              have hj1 : (j : Int) < (l.length : Int) + 1 := by omega
              have hj2 : j < l.length + 1 := by omega
              have h0i : (0 : Int) < (l.length : Int) := by omega
              clear hx hx0 hy hct hb f1 f3 f4 c0 c1 c2 c3 d0 d1 d2 d3 ct0
              go_wp2_with fail
              go_region_held3 (fun W => W.cell? ⟨gt, j, none⟩ = some tx ∧ W.cell? ⟨bb, off + j * 4 + 1, none⟩ = some (.string ⟨p'.toArray⟩) ∧ W.cell? ⟨bb, off + j * 4 + 2, none⟩ = some (.int .i64 n') ∧ W.cell? ⟨bb, off + 1, none⟩ = some (.string ⟨p0.toArray⟩) ∧ W.cell? ⟨bb, off + 2, none⟩ = some (.int .i64 n0) ∧ W.cell? ⟨bb, off + 3, none⟩ = some (.string ⟨s0.toArray⟩)) (first | exact HSx.out _ hbr) (first
                | ((with_reducible refine (HD1.out _ hbr).mono ?_); rintro e w4 ⟨u, rfl, hu, hB4⟩; have hbr := below2 hbr hB4; clear hu))
              have hbr := hbr.drew
              go_wp2_with fail
              go_region_held3 (fun W => W.cell? ⟨gt, j, none⟩ = some tx ∧ W.cell? ⟨bb, off + j * 4 + 1, none⟩ = some (.string ⟨p'.toArray⟩) ∧ W.cell? ⟨bb, off + j * 4 + 2, none⟩ = some (.int .i64 n') ∧ W.cell? ⟨bb, off + 1, none⟩ = some (.string ⟨p0.toArray⟩) ∧ W.cell? ⟨bb, off + 2, none⟩ = some (.int .i64 n0) ∧ W.cell? ⟨bb, off + 3, none⟩ = some (.string ⟨s0.toArray⟩)) (first | exact HSx.out _ hbr) (first
                | ((with_reducible refine (HD2.out _ hbr).mono ?_); rintro e w5 ⟨u5, rfl, hu5, hB5⟩; have hbr := below2 hbr hB5; clear hu5))
              go_wp2_with fail
              go_roundw
              case rel => exact ⟨j + 1, by omega, by go_num, below2 hB2 hbr⟩
              case measure => simp [intOf]; omega
            · obtain rfl : j = l.length := by omega
              have HB2 := Lib.hid hB2
              go_wp2_with fail
              go_loopw [8] (fun i wr2 => ∃ j : Nat, j ≤ l.length + 1 ∧ i = .int .i64 j ∧ Below wA.heap.size wA wr2) (fun i _ => l.length + 1 - (intOf i).toNat)
              case atStart => exact ⟨0, Nat.zero_le _, rfl, HB2.out⟩
              case round =>
                obtain ⟨j, hj, rfl, hB3⟩ := hrel
                by_cases hjl : j < l.length + 1
                · have hb := HBo.out.below hB3
                  obtain ⟨gt', ct', he, hct⟩ := hb.trees
                  cases he
                  obtain ⟨gr', cr', he, hcr⟩ := hb.rows
                  cases he
                  have hjP : j < P.length := by omega
                  have ct0 := hct j hjP
                  have cr0 := hcr j hjP
                  obtain ⟨f1, f2, f3, f4⟩ := hb.2.2.2 _ (List.getElem_mem hjP)
                  obtain ⟨⟨tx, rx, Lx⟩, hy⟩ : ∃ x, P[j] = x := ⟨_, rfl⟩
                  rw [hy] at ct0 cr0 f1 f2 f3 f4
                  dsimp only at ct0 cr0 f1 f2 f3 f4
                  obtain ⟨ax, nx, cx, rfl⟩ := f2.any
                  have hri := rises_iff.2 f1.1
                  have HL := Lib.hid (show Lx.length ≤ 100 by omega)
                  have HF2 := Lib.hid f2
                  have KA := Lib.hid (all_calls tx Lx _ f1 (by omega) f3)
                  have KI := fun W v (h : Prs W v Lx) => refIs_calls v Lx W h (by omega)
                  rw [hri] at KI
                  have KI' := Lib.hid KI
                  have hj1 : (j : Int) < (l.length : Int) + 1 := by omega
                  clear hy hct hcr hb f1 f2 f3 f4 KI hri
                  go_wp2_with fail
                  refine KA.out.mono ?_
                  rintro e w4 ⟨u4, rfl, hu4, hB4⟩
                  have HU4 := Lib.hid hu4.prs
                  have HF4 := Lib.hid (HF2.out.below hB4)
                  have cr1 := look_below hB4 cr0
                  clear hu4 cr0 ct0
                  obtain ⟨a4, n4, c4, rfl⟩ := HU4.out.any
                  go_wp2_with fail
                  refine (gSame HU4.out HF4.out (by have := HL.out; omega)).mono ?_
                  rintro e w5 ⟨rfl, hB5⟩
                  go_wp2_with fail
                  refine (KI'.out _ _ (HU4.out.below hB5)).mono ?_
                  rintro e w6 ⟨rfl, hB6⟩
                  go_wp2_with fail
                  go_roundw
                  case rel => exact ⟨j + 1, by omega, by go_num, below2 hB3 (below3 hB4 hB5 hB6)⟩
                  case measure => simp [intOf]; omega
                · obtain rfl : j = l.length + 1 := by omega
                  have hjn : decide (((l.length + 1 : Nat) : Int) < (l.length : Int) + 1) = false := by rw [decide_eq_false_iff_not]; omega
                  go_wp2_with fail
                  refine (KG.out _).mono ?_
                  rintro e w4 ⟨rfl, hB4⟩
                  go_wp2_with fail
                  go_ret
                  exact ⟨rfl, below2 HB.out (below2 hB3 hB4)⟩

end Go.Proofs.Ytgbicdbmmjleoaa
