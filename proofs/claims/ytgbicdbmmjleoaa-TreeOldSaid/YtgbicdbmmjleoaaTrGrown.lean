/-
  The law file's own rows (grown).
-/
import Derived.Test.YtgbicdbmmjleoaaTrAll
import Derived.Test.YtgbicdbmmjleoaaTrGet
import Derived.Test.YtgbicdbmmjleoaaTrPut
import Derived.Test.YtgbicdbmmjleoaaNdSame
import Derived.Test.YtgbicdbmmjleoaaNdApart
namespace Go.Proofs.Ytgbicdbmmjleoaa
open Go.RowKit

abbrev gA : Pr := (([97], 2), [121])
abbrev gB : Pr := (([98], 1), [120])
theorem gPut1 : putL [] gB = [gB] := by rfl
theorem gPut2 : putL [gB] gA = [gA, gB] := by rfl
theorem gDrop : dropL [gA, gB] ([97], 2) = [gB] := by rfl
theorem gGet : getS [gA, gB] ([97], 2) = [121] ∧ hereB [gA, gB] ([97], 2) = true := by exact ⟨rfl, rfl⟩
theorem gGet2 : getS [gB] ([97], 2) = [] ∧ hereB [gB] ([97], 2) = false := by exact ⟨rfl, rfl⟩
theorem gFrom : fromL [gA, gB] ([97], 0) 5 = [gB] := by rfl

theorem gK1 {W : World} {v : Value} (h : TreeV W v []) : Calls Try.prog 22 #[v, .agg #[.string ⟨#[98]⟩, .int .i64 1, .string ⟨#[120]⟩]] W fun e w' => ∃ u, e = .returned u ∧ TreeV w' u [gB] ∧ Below W.heap.size W w' :=
  tput_calls v [] [98] 1 [120] W h (by decide)
theorem gK2 {W : World} {v : Value} (h : TreeV W v [gB]) : Calls Try.prog 22 #[v, .agg #[.string ⟨#[97]⟩, .int .i64 2, .string ⟨#[121]⟩]] W fun e w' => ∃ u, e = .returned u ∧ TreeV w' u [gA, gB] ∧ Below W.heap.size W w' :=
  tput_calls v [gB] [97] 2 [121] W h (by decide)
theorem gK3 {W : World} {v : Value} (h : TreeV W v [gA, gB]) : Calls Try.prog 23 #[v, .agg #[.string ⟨#[97]⟩, .int .i64 2]] W fun e w' => ∃ u, e = .returned u ∧ TreeV w' u [gB] ∧ Below W.heap.size W w' :=
  tdrop_calls v [gA, gB] [97] 2 W h (by decide)
theorem gK4 {W : World} {v : Value} (h : TreeV W v [gA, gB]) : Calls Try.prog 12 #[v, .agg #[.string ⟨#[97]⟩, .int .i64 2]] W fun e w' => e = .returned (.tuple #[.string ⟨#[121]⟩, .bool true]) ∧ Below W.heap.size W w' :=
  tget_calls v [gA, gB] [97] 2 W h (by decide)
theorem gK5 {W : World} {v : Value} (h : TreeV W v [gB]) : Calls Try.prog 12 #[v, .agg #[.string ⟨#[97]⟩, .int .i64 2]] W fun e w' => e = .returned (.tuple #[.string ⟨#[]⟩, .bool false]) ∧ Below W.heap.size W w' :=
  tget_calls v [gB] [97] 2 W h (by decide)
theorem gTimed : Timed [gA, gB] := by
  intro x hx
  simp only [List.mem_cons, List.not_mem_nil, or_false] at hx
  rcases hx with rfl | rfl <;> decide
theorem gK6 {W : World} {v : Value} (h : TreeV W v [gA, gB]) : Calls Try.prog 17 #[v] W fun e w' => ∃ u, e = .returned u ∧ Prs w' u [gA, gB] ∧ Below W.heap.size W w' :=
  (all_calls v [gA, gB] W h (by decide) gTimed).mono (by rintro e w' ⟨u, rfl, ho, hB⟩; exact ⟨u, rfl, ho.prs, hB⟩)
theorem gK7 {W : World} {v : Value} (h : TreeV W v [gA, gB]) : Calls Try.prog 18 #[v, .agg #[.string ⟨#[97]⟩, .int .i64 0], .int .i64 5] W fun e w' => ∃ u, e = .returned u ∧ Prs w' u [gB] ∧ Below W.heap.size W w' :=
  (from_calls v [gA, gB] [97] 0 5 W h (by decide)).mono (by rintro e w' ⟨u, rfl, ho, hB⟩; exact ⟨u, rfl, ho.prs, hB⟩)
theorem gSame {W : World} {v u : Value} {l : List Pr} (h1 : Prs W v l) (h2 : Prs W u l) (hm : l.length ≤ 100000 := by decide) : Calls Try.prog 16 #[v, u] W fun e w' => e = .returned (.bool true) ∧ Below W.heap.size W w' := by
  have h := same_calls v u l l W h1 h2 hm
  rw [decide_eq_true rfl] at h
  exact h

theorem gLit2 (w : World) : Prs (w.alloc (.cells #[.string ⟨#[97]⟩, .int .i64 2, .string ⟨#[121]⟩, .string ⟨#[98]⟩, .int .i64 1, .string ⟨#[120]⟩] 31)) (.slice (some ⟨w.heap.size, 0, none⟩) 2 2) [gA, gB] := prs_lit w [gA, gB] 31
theorem gLit1 (w : World) : Prs (w.alloc (.cells #[.string ⟨#[98]⟩, .int .i64 1, .string ⟨#[120]⟩] 31)) (.slice (some ⟨w.heap.size, 0, none⟩) 1 1) [gB] := prs_lit w [gB] 31
theorem gBoxes (w : World) : ∃ W0, (w.alloc (.cells #[.string ⟨#[98]⟩, .int .i64 1, .string ⟨#[120]⟩] 31)).alloc (.cells #[.string ⟨#[97]⟩, .int .i64 2, .string ⟨#[121]⟩] 31) = W0 ∧ Cx W0 w.heap.size 31 [.string ⟨#[98]⟩, .int .i64 1, .string ⟨#[120]⟩] ∧ Cx W0 (w.heap.size + 1) 31 [.string ⟨#[97]⟩, .int .i64 2, .string ⟨#[121]⟩] ∧ Below w.heap.size w W0 := by
  have h := Cx.new (w.alloc (.cells #[.string ⟨#[98]⟩, .int .i64 1, .string ⟨#[120]⟩] 31)) 31 [.string ⟨#[97]⟩, .int .i64 2, .string ⟨#[121]⟩]
  rw [World.size_alloc] at h
  exact ⟨_, rfl, (Cx.new w _ [.string ⟨#[98]⟩, .int .i64 1, .string ⟨#[120]⟩]).below (below_alloc _ _), h, below_alloc2 _ _ _⟩

set_option maxHeartbeats 8000000 in
set_option maxRecDepth 100000 in
theorem grown_calls (w : World) : Calls Try.prog 15 #[] w fun e w' => e = .returned (.bool true) ∧ Below w.heap.size w w' := by
  obtain ⟨W0, hW0, hb0, ha0, hB0⟩ := gBoxes w
  have HS : Hid (∀ W, Below W0.heap.size W0 W → W.cell? ⟨w.heap.size, 0, none⟩ = some (.string ⟨#[98]⟩) ∧ W.cell? ⟨w.heap.size, 1, none⟩ = some (.int .i64 1) ∧ W.cell? ⟨w.heap.size, 2, none⟩ = some (.string ⟨#[120]⟩) ∧ W.cell? ⟨w.heap.size + 1, 0, none⟩ = some (.string ⟨#[97]⟩) ∧ W.cell? ⟨w.heap.size + 1, 1, none⟩ = some (.int .i64 2) ∧ W.cell? ⟨w.heap.size + 1, 2, none⟩ = some (.string ⟨#[121]⟩)) := by
    obtain ⟨b0, b1, b2, _⟩ := hb0.three
    obtain ⟨a0, a1, a2, _⟩ := ha0.three
    exact Lib.hid (fun W hB => ⟨look_below hB b0, look_below hB b1, look_below hB b2, look_below hB a0, look_below hB a1, look_below hB a2⟩)
  have hbr : Below W0.heap.size W0 W0.drew := drew_below _
  have HB0 := Lib.hid hB0
  have KN := Lib.hid new_calls
  clear hb0 ha0 hB0
  go_enter Try.func15, Try.ntmps15
  go_wp2_with fail
  go_region_held3 (fun W => W.cell? ⟨w.heap.size, 0, none⟩ = some (.string ⟨#[98]⟩) ∧ W.cell? ⟨w.heap.size, 1, none⟩ = some (.int .i64 1) ∧ W.cell? ⟨w.heap.size, 2, none⟩ = some (.string ⟨#[120]⟩) ∧ W.cell? ⟨w.heap.size + 1, 0, none⟩ = some (.string ⟨#[97]⟩) ∧ W.cell? ⟨w.heap.size + 1, 1, none⟩ = some (.int .i64 2) ∧ W.cell? ⟨w.heap.size + 1, 2, none⟩ = some (.string ⟨#[121]⟩)) (first | exact HS.out _ hbr) (first
    | ((with_reducible refine (KN.out _).mono ?_); rintro e w1 ⟨t1, rfl, ht1, hB1⟩; have hbr := below2 hbr hB1; have HT1 := Lib.hid ht1; clear ht1)
    | ((with_reducible refine (gK1 HT1.out).mono ?_); rintro e w2 ⟨t2, rfl, ht2, hB2⟩; have hbr := below2 hbr hB2; have HT2 := Lib.hid ht2; clear ht2)
    | ((with_reducible refine (gK2 HT2.out).mono ?_); rintro e w3 ⟨t3, rfl, ht3, hB3⟩; have hbr := below2 hbr hB3; have HT3 := Lib.hid ht3; clear ht3))
  obtain ⟨b0, b1, b2, a0, a1, a2⟩ := HS.out _ hbr
  go_wp2_with fail
  refine (gK3 HT3.out).mono ?_
  rintro e w4 ⟨t4, rfl, ht4, hB4⟩
  have HT4 := Lib.hid ht4
  have HT5 := Lib.hid (HT3.out.below hB4)
  have hbr := below2 hbr hB4
  clear ht4 hB4 b0 b1 b2 a0 a1 a2
  obtain ⟨b0, b1, b2, a0, a1, a2⟩ := HS.out _ hbr
  go_wp2_with fail
  refine (gK4 HT5.out).mono ?_
  rintro e w5 ⟨rfl, hB5⟩
  have HT6 := Lib.hid (HT4.out.below hB5)
  have HT7 := Lib.hid (HT5.out.below hB5)
  have hbr := below2 hbr hB5
  clear hB5 b0 b1 b2 a0 a1 a2
  obtain ⟨b0, b1, b2, a0, a1, a2⟩ := HS.out _ hbr
  go_wp2_with fail
  refine (gK5 HT6.out).mono ?_
  rintro e w6 ⟨rfl, hB6⟩
  have HU := Lib.hid (HT6.out.below hB6)
  have HT := Lib.hid (HT7.out.below hB6)
  have hbr := below2 hbr hB6
  clear hB6 b0 b1 b2 a0 a1 a2
  have hqL := first_below w6 (.cells #[.string ⟨#[97]⟩, .int .i64 2, .string ⟨#[121]⟩, .string ⟨#[98]⟩, .int .i64 1, .string ⟨#[120]⟩] 31)
  have HL := Lib.hid (show Prs (w6.alloc (.cells #[.string ⟨#[97]⟩, .int .i64 2, .string ⟨#[121]⟩, .string ⟨#[98]⟩, .int .i64 1, .string ⟨#[120]⟩] 31)).drew (.slice (some ⟨w6.heap.size, 0, none⟩) 2 2) [gA, gB] from (prs_lit w6 [gA, gB] 31).below (drew_below _))
  have hq0 := drew_below w6
  have hbr6 := hbr
  go_wp2_with fail
  go_region_held3 (fun W => W.cell? ⟨w.heap.size, 0, none⟩ = some (.string ⟨#[98]⟩) ∧ W.cell? ⟨w.heap.size, 1, none⟩ = some (.int .i64 1) ∧ W.cell? ⟨w.heap.size, 2, none⟩ = some (.string ⟨#[120]⟩) ∧ W.cell? ⟨w.heap.size + 1, 0, none⟩ = some (.string ⟨#[97]⟩) ∧ W.cell? ⟨w.heap.size + 1, 1, none⟩ = some (.int .i64 2) ∧ W.cell? ⟨w.heap.size + 1, 2, none⟩ = some (.string ⟨#[121]⟩)) (first | exact HS.out _ hbr6.drew | exact HS.out _ (below2 hbr6 hqL) | exact HS.out _ (below2 hbr6 hq) | exact HS.out _ ((below2 hbr6 hq).alloc (below2 hbr6 hq).size _)) (first
    | ((with_reducible refine (gK6 (HT.out.below hq0)).mono ?_); rintro e w7 ⟨uA, rfl, hA, hB7⟩; have hq := below2 hq0 hB7; have HA := Lib.hid hA; clear hA; obtain ⟨aA, nA, cA, rfl⟩ := HA.out.any)
    | ((with_reducible refine (gK6 (HT.out.below hqL)).mono ?_); rintro e w7 ⟨uA, rfl, hA, hB7⟩; have hq := below2 hqL hB7; have HA := Lib.hid hA; have HL2 := Lib.hid (HL.out.below hB7); clear hA; obtain ⟨aA, nA, cA, rfl⟩ := HA.out.any)
    | ((with_reducible refine (gSame HA.out HL2.out).mono ?_); rintro e w8 ⟨rfl, hB8⟩; have hq := below2 hq hB8)
    | ((with_reducible refine (gSame (HA.out.below (below_alloc _ _)) (gLit2 _)).mono ?_); rintro e w8 ⟨rfl, hB8⟩; have hq := below2 (hq.alloc hq.size _) hB8)
    | ((with_reducible refine (len_calls _ [gB] _ (HU.out.below hq)).mono ?_); rintro e w9 ⟨rfl, rfl⟩)
    | ((with_reducible refine (len_calls _ [gA, gB] _ (HT.out.below hq)).mono ?_); rintro e w10 ⟨rfl, rfl⟩)
    | ((with_reducible refine (KN.out _).mono ?_); rintro e w11 ⟨t11, rfl, ht11, hB11⟩; have hq := below2 hq hB11; have HT11 := Lib.hid ht11; clear ht11)
    | ((with_reducible refine (depth_nil _ _ HT11.out).mono ?_); rintro e w12 ⟨rfl, rfl⟩)
    | ((with_reducible refine (gK7 (HT.out.below hq)).mono ?_); rintro e w13 ⟨uF, rfl, hF, hB13⟩; have hq := below2 hq hB13; have HF := Lib.hid hF; clear hF; obtain ⟨aF, nF, cF, rfl⟩ := HF.out.any)
    | ((with_reducible refine (gK7 (HT.out.below (hq.alloc hq.size _))).mono ?_); rintro e w13 ⟨uF, rfl, hF, hB13⟩; have hq := below2 (hq.alloc hq.size _) hB13; have HF := Lib.hid hF; have HL3 := Lib.hid ((gLit1 _).below hB13); clear hF; obtain ⟨aF, nF, cF, rfl⟩ := HF.out.any)
    | ((with_reducible refine (gSame HF.out HL3.out).mono ?_); rintro e w14 ⟨rfl, hB14⟩; have hq := below2 hq hB14)
    | ((with_reducible refine (gSame (HF.out.below (below_alloc _ _)) (gLit1 _)).mono ?_); rintro e w14 ⟨rfl, hB14⟩; have hq := below2 (hq.alloc hq.size _) hB14))
  all_goals
    go_wp2_with fail
    go_ret
    exact ⟨rfl, below2 HB0.out (below2 hbr6 hq)⟩

end Go.Proofs.Ytgbicdbmmjleoaa
