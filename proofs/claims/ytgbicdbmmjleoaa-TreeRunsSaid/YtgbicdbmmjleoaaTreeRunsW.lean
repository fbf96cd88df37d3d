/-
  The walk of TreeRuns.
-/
import Derived.Test.YtgbicdbmmjleoaaTrGrown
import Derived.Test.YtgbicdbmmjleoaaTrTime
import Derived.Test.YtgbicdbmmjleoaaTrDo
import Derived.Test.YtgbicdbmmjleoaaTrRefF
namespace Go.Proofs.Ytgbicdbmmjleoaa
open Go.RowKit

set_option maxRecDepth 100000 in
set_option maxHeartbeats 32000000 in
theorem treeRuns_walk (v : Value) (l : List Stp) (q : List UInt8) (y : Int) (n : Int) (w : World) (hs : Stps w v l) (hk : l.length ≤ maxLen) (hti : Timed (l.map (·.2))) (_ : (Lit.int .i64 y).wf = true) (_ : (Lit.int .i64 n).wf = true) :
    Calls Try.prog 3 #[v, .agg #[.string ⟨q.toArray⟩, .int .i64 y], .int .i64 n] w fun e w' => e = .returned (.bool true) ∧ Below w.heap.size w w' := by
  obtain ⟨ao, cap, rfl⟩ := hs.form
  have hk' : l.length ≤ 9223372036854775807 := by unfold maxLen at hk; exact hk
  obtain ⟨W0, hW0, hX0, hB0⟩ : ∃ W0, w.alloc (.cells #[.string ⟨q.toArray⟩, .int .i64 y] 24) = W0 ∧ KBox W0 w.heap.size (q, y) ∧ Below w.heap.size w W0 := ⟨_, rfl, kbox_new w q y, below_alloc _ _⟩
  have CB := bigO_calls _ l W0 (hs.below hB0) hk'
  have HS := Lib.hid (hs.below hB0)
  have HX : Hid (∀ W, Below W0.heap.size W0 W → W.cell? ⟨w.heap.size, 0, none⟩ = some (.string ⟨q.toArray⟩) ∧ W.cell? ⟨w.heap.size, 1, none⟩ = some (.int .i64 y)) :=
    Lib.hid (fun W hB => by
      obtain ⟨x0, x1, _⟩ := (hX0.below hB).two
      exact ⟨x0, x1⟩)
  obtain ⟨x0, x1⟩ := HX.out W0 (Below.refl _ _)
  have HB0 := Lib.hid hB0
  have HTI := Lib.hid hti
  have KN := Lib.hid new_calls
  have KG := Lib.hid grown_calls
  clear hs hk hk' hX0 hB0 hti
  cases hb : bigO l with
  | true =>
    rw [hb] at CB
    have K := Lib.hid CB
    clear CB hb
    go_enter Try.func3, Try.ntmps3
    go_wp2_with fail
    refine K.out.mono ?_
    rintro e w1 ⟨rfl, rfl⟩
    go_wp2_with fail
    go_ret
    exact ⟨rfl, HB0.out⟩
  | false =>
    rw [hb] at CB
    have K := Lib.hid CB
    have hl := smallO hb
    clear CB hb
    by_cases h0 : 300 < q.length
    · go_enter Try.func3, Try.ntmps3
      go_wp2_with fail
      refine K.out.mono ?_
      rintro e w1 ⟨rfl, rfl⟩
      go_wp2_with fail
      go_ret
      exact ⟨rfl, HB0.out⟩
    · have h0' : q.length ≤ 300 := by omega
      go_enter Try.func3, Try.ntmps3
      go_wp2_with fail
      refine K.out.mono ?_
      rintro e w1 ⟨rfl, rfl⟩
      go_wp2_with fail
      clear x0 x1 hW0
      refine (KN.out _).mono ?_
      rintro e w2 ⟨ta, rfl, hta, hB2⟩
      have HA0 := Lib.hid (And.intro hta hB2)
      clear hta hB2
      go_wp2_with fail
      go_loopw [7, 8, 9] (fun t r i wr => ∃ k : Nat, k ≤ l.length ∧ i = .int .i64 k ∧ TreeV wr t (doesL (l.take k)) ∧ (∃ ar nr cr, r = .slice ar nr cr ∧ Prs wr (.slice ar nr cr) (doesL (l.take k))) ∧ Below W0.heap.size W0 wr) (fun _ _ i _ => l.length - (intOf i).toNat)
      case atStart => exact ⟨0, Nat.zero_le _, rfl, by simpa [doesL] using HA0.out.1, ⟨none, 0, 0, rfl, by simpa [doesL] using Prs.nil w2⟩, HA0.out.2⟩
      case round =>
        obtain ⟨k, hk, rfl, ha, ⟨ar, nr, cr, rfl, hr⟩, hB⟩ := hrel
        have HA := Lib.hid ha
        have HR := Lib.hid hr
        clear ha hr
        by_cases hlt : k < l.length
        · have e1 := doesL_succ hlt
          have hkl := doesL_le (l.take k)
          rw [List.length_take] at hkl
          obtain ⟨bb, off, rfl, c0, c1, c2, c3⟩ := (HS.out.below hB).at hlt
          obtain ⟨⟨z', ⟨p', n'⟩, s'⟩, hx⟩ : ∃ x, l[k] = x := ⟨_, rfl⟩
          rw [hx] at c0 c1 c2 c3 e1
          dsimp only at c0 c1 c2 c3
          have hle := doL_le (doesL (l.take k)) (z', (p', n'), s')
          have HC : Hid (∀ W, Below wr.heap.size wr W → W.cell? ⟨bb, off + k * 4, none⟩ = some (.int .i64 z') ∧ W.cell? ⟨bb, off + k * 4 + 1, none⟩ = some (.string ⟨p'.toArray⟩) ∧ W.cell? ⟨bb, off + k * 4 + 2, none⟩ = some (.int .i64 n') ∧ W.cell? ⟨bb, off + k * 4 + 3, none⟩ = some (.string ⟨s'.toArray⟩)) :=
            Lib.hid (fun W hB => ⟨look_below hB c0, look_below hB c1, look_below hB c2, look_below hB c3⟩)
          have E1 := Lib.hid e1
          have KP := Lib.hid (do_calls _ _ z' p' n' s' _ HA.out (by omega))
          have KR := Lib.hid (fun W (h : Prs W (.slice ar nr cr) (doesL (l.take k))) => refDo_calls _ _ z' p' n' s' W h (by omega))
          obtain ⟨T, hT⟩ : ∃ T, doesL (l.take (k + 1)) = T := ⟨_, rfl⟩
          rw [e1, hT] at hle
          have HTT := Lib.hid hT
          have hTl : T.length ≤ 100 := by omega
          have KGt := fun W v (h : TreeV W v T) => tget_calls v T p' n' W h (by omega)
          have KGr := fun W v (h : Prs W v T) => refGet_calls v T p' n' W h (by omega)
          obtain ⟨gs, hgs⟩ : ∃ s, getS T (p', n') = s := ⟨_, rfl⟩
          obtain ⟨gb, hgb⟩ : ∃ s, hereB T (p', n') = s := ⟨_, rfl⟩
          rw [hgs, hgb] at KGt KGr
          have KGt' := Lib.hid KGt
          have KGr' := Lib.hid KGr
          have KL := fun W v (h : TreeV W v T) => len_calls v T W h
          obtain ⟨tn, htn⟩ : ∃ n, T.length = n := ⟨_, rfl⟩
          rw [htn] at KL
          have KL' := Lib.hid KL
          have HTN := Lib.hid htn
          have hgbb : (gb != gb) = false := by simp
          clear hle hgs hgb KGt KGr KL hx hT htn
          go_wp2_with fail
          refine KP.out.mono ?_
          rintro e w4 ⟨u, rfl, hu, hB4⟩
          rw [E1.out, HTT.out] at hu
          have HV := Lib.hid hu
          have BC := Lib.hid hB4
          clear hu c0 c1 c2 c3
          obtain ⟨c0, c1, c2, c3⟩ := HC.out _ hB4
          go_wp2_with fail
          refine (KR.out _ (HR.out.below hB4)).mono ?_
          rintro e w5 ⟨r5, rfl, hr5, hB5⟩
          rw [E1.out, HTT.out] at hr5
          have HV5 := Lib.hid (HV.out.below hB5)
          have HR5 := Lib.hid hr5
          have BC5 := Lib.hid (below2 BC.out hB5)
          obtain ⟨a5, c5, rfl⟩ := HR5.out.form
          rw [HTN.out] at HR5 ⊢
          clear hr5 c0 c1 c2 c3
          obtain ⟨c0, c1, c2, c3⟩ := HC.out _ BC5.out
          go_wp2_with fail
          refine (KGt'.out _ _ HV5.out).mono ?_
          rintro e w6 ⟨rfl, hB6⟩
          have HV6 := Lib.hid (HV5.out.below hB6)
          have HR6 := Lib.hid (HR5.out.below hB6)
          have BC6 := Lib.hid (below2 BC5.out hB6)
          clear c0 c1 c2 c3
          obtain ⟨c0, c1, c2, c3⟩ := HC.out _ BC6.out
          go_wp2_with fail
          refine (KGr'.out _ _ HR6.out).mono ?_
          rintro e w7 ⟨rfl, hB7⟩
          have HV7 := Lib.hid (HV6.out.below hB7)
          have HR7 := Lib.hid (HR6.out.below hB7)
          clear c0 c1 c2 c3
          go_wp2_with fail
          refine (KL'.out _ _ HV7.out).mono ?_
          rintro e w8 ⟨rfl, rfl⟩
          go_wp2_with fail
          go_roundw
          case rel => exact ⟨k + 1, by omega, by go_num, by rw [HTT.out]; exact HV7.out, ⟨_, _, _, rfl, by rw [HTT.out]; exact HR7.out⟩, below2 hB (below2 BC6.out hB7)⟩
          case measure => simp [intOf]; omega
        · obtain rfl : k = l.length := by omega
          rw [List.take_length] at HA HR
          have hLl := doesL_le l
          obtain ⟨L, hL⟩ : ∃ L, doesL l = L := ⟨_, rfl⟩
          have HRi := Lib.hid (show Rises L by rw [← hL]; exact doesL_rises l)
          have HTm := Lib.hid (show Timed L by rw [← hL]; exact doesL_timed HTI.out)
          rw [hL] at HA HR hLl
          have HBr := Lib.hid hB
          obtain ⟨x0, x1⟩ := HX.out _ hB
          have hll : L.length ≤ 100 := by omega
          have KGt := fun W v (h : TreeV W v L) => tget_calls v L q y W h (by omega)
          have KGr := fun W v (h : Prs W v L) => refGet_calls v L q y W h (by omega)
          obtain ⟨gs, hgs⟩ : ∃ s, getS L (q, y) = s := ⟨_, rfl⟩
          obtain ⟨gb, hgb⟩ : ∃ s, hereB L (q, y) = s := ⟨_, rfl⟩
          rw [hgs, hgb] at KGt KGr
          have KGt' := Lib.hid KGt
          have KGr' := Lib.hid KGr
          have KAl := Lib.hid (fun W v (h : TreeV W v L) => all_calls v L W h (by omega) HTm.out)
          have KFt := Lib.hid (fun W v (h : TreeV W v L) => from_calls v L q y n W h (by omega))
          have KFr := Lib.hid (fun W v (h : Prs W v L) => refFrom_calls v L q y n W h HRi.out (by omega))
          have hfl := fromL_le L (q, y) n
          have HFL := Lib.hid (show (fromL L (q, y) n).length ≤ 100000 by omega)
          have HLL := Lib.hid (show L.length ≤ 100000 by omega)
          have hgbb : (gb == gb) = true := by simp
          clear hgs hgb KGt KGr hfl hL hLl
          go_wp2_with fail
          refine (KGt'.out _ _ HA.out).mono ?_
          rintro e w4 ⟨rfl, hB4⟩
          have HA4 := Lib.hid (HA.out.below hB4)
          have HR4 := Lib.hid (HR.out.below hB4)
          have HB4 := Lib.hid (below2 HBr.out hB4)
          clear x0 x1
          obtain ⟨x0, x1⟩ := HX.out _ HB4.out
          go_wp2_with fail
          refine (KGr'.out _ _ HR4.out).mono ?_
          rintro e w5 ⟨rfl, hB5⟩
          have HT := Lib.hid (HA4.out.below hB5)
          have HP := Lib.hid (HR4.out.below hB5)
          have HB5 := Lib.hid (below2 HB4.out hB5)
          clear x0 x1
          have hq := drew_below w5
          go_wp2_with fail
          go_region_held3 (fun W => W.cell? ⟨w.heap.size, 0, none⟩ = some (.string ⟨q.toArray⟩) ∧ W.cell? ⟨w.heap.size, 1, none⟩ = some (.int .i64 y)) (first | exact HX.out _ (below2 HB5.out hq)) (first
            | ((with_reducible refine (KG.out _).mono ?_); rintro e w6 ⟨rfl, hB6⟩; have hq := below2 hq hB6)
            | ((with_reducible refine (KAl.out _ _ (HT.out.below hq)).mono ?_); rintro e w7 ⟨u7, rfl, hu7, hB7⟩; have hq := below2 hq hB7; have HU7 := Lib.hid hu7.prs; clear hu7; obtain ⟨a7, n7, c7, rfl⟩ := HU7.out.any)
            | ((with_reducible refine (gSame HU7.out (HP.out.below hq) HLL.out).mono ?_); rintro e w8 ⟨rfl, hB8⟩; have hq := below2 hq hB8)
            | ((with_reducible refine (KFt.out _ _ (HT.out.below hq)).mono ?_); rintro e w9 ⟨u9, rfl, hu9, hB9⟩; have hq := below2 hq hB9; have HU9 := Lib.hid hu9.prs; (try have HU10 := Lib.hid (HU10.out.below hB9)); clear hu9; obtain ⟨a9, n9, c9, rfl⟩ := HU9.out.any)
            | ((with_reducible refine (KFr.out _ _ (HP.out.below hq)).mono ?_); rintro e w10 ⟨u10, rfl, hu10, hB10⟩; have hq := below2 hq hB10; have HU10 := Lib.hid hu10; (try have HU9 := Lib.hid (HU9.out.below hB10)); clear hu10; obtain ⟨a10, n10, c10, rfl⟩ := HU10.out.any)
            | ((with_reducible refine (gSame HU9.out HU10.out HFL.out).mono ?_); rintro e w11 ⟨rfl, hB11⟩; have hq := below2 hq hB11))
          all_goals
            go_wp2_with fail
            go_ret
            exact ⟨rfl, below2 HB0.out (below2 HB5.out hq)⟩

end Go.Proofs.Ytgbicdbmmjleoaa
