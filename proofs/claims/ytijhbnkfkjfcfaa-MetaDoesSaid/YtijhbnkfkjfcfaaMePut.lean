/-
  meta.Put.
-/
import Derived.Test.YtijhbnkfkjfcfaaMeIs
import Derived.Test.YtijhbnkfkjfcfaaMeNums
import Derived.Deep.RegionHeld3
namespace Go.Proofs.Ytijhbnkfkjfcfaa
set_option maxRecDepth 100000
open Go.RowKit
attribute [local go_sem] app_mk

/-- Ints laid in a row. -/
theorem ints_three (w : World) (a b c : Int) (t : TypeId) : Ints (w.alloc (.cells #[.int .i64 a, .int .i64 b, .int .i64 c] t)) (.slice (some ⟨w.heap.size, 0, none⟩) 3 3) [a, b, c] := by
  refine ⟨rfl, _, 3, rfl, Nat.le_refl _, .inr ⟨w.heap.size, 0, rfl, fun j hj => ?_⟩⟩
  rw [cell_of_row _ _ _ _ _ _ (heap_alloc_new w _)]
  have : j < 3 := hj
  rcases (by omega : j = 0 ∨ j = 1 ∨ j = 2) with rfl | rfl | rfl <;> rfl
theorem Ints.any {w : World} {v : Value} {zs : List Int} (h : Ints w v zs) : ∃ ao cap, v = .slice ao zs.length cap := h.form

set_option maxHeartbeats 4000000 in
theorem mPut_no (z d : Int) (v : Value) (cs : List Int) (w : World) (hv : Ints w v cs) (hl : cs.length ≤ 1000000) (hm : metaB z d cs = false) :
    Calls Try.prog 9 #[MV z d v] w fun e w' => e = .returned (.tuple #[.string ⟨#[]⟩, .int .i64 1]) ∧ Below w.heap.size w w' := by
  obtain ⟨ao, cap, rfl⟩ := hv.form
  have HM := Lib.hid hm
  have HV := Lib.hid (hv.below (below_alloc w (.cells #[.int .i64 z, .int .i64 d, .slice ao cs.length cap] 24)))
  clear hv hm
  go_enter Try.func9, Try.ntmps9
  go_wp2_with fail
  refine (mIs_calls z d _ cs _ HV.out hl).mono ?_
  rintro e w1 ⟨rfl, hB1⟩
  rw [HM.out]
  go_wp2_with fail
  go_ret2
  exact ⟨rfl, below2 (below_alloc _ _) hB1⟩

set_option maxHeartbeats 4000000 in
theorem mPut_ok (z d : Int) (v : Value) (cs : List Int) (w : World) (hv : Ints w v cs) (hm : metaB z d cs = true) :
    Calls Try.prog 9 #[MV z d v] w fun e w' => e = .returned (.tuple #[.string ⟨(metaT z d cs).toArray⟩, .int .i64 0]) ∧ Below w.heap.size w w' := by
  obtain ⟨h1, h2, h3, h4⟩ := metaB_iff.1 hm
  obtain ⟨ao, cap, rfl⟩ := hv.form
  have HM := Lib.hid hm
  have HV := Lib.hid (hv.below (below_alloc w (.cells #[.int .i64 z, .int .i64 d, .slice ao cs.length cap] 24)))
  have hl : cs.length ≤ 1000000 := by omega
  have hX := Cx.new w 24 [.int .i64 z, .int .i64 d, .slice ao cs.length cap]
  have HX := Lib.hid hX
  have ha : ∀ c ∈ [z, d, (cs.length : Int)], 0 ≤ c ∧ c ≤ 4294967295 := by
    intro c hc
    simp only [List.mem_cons, List.not_mem_nil, or_false] at hc
    rcases hc with rfl | rfl | rfl <;> omega
  have KA := Lib.hid (fun v W (h : Ints W v [z, d, (cs.length : Int)]) => mNumbers_calls v [z, d, (cs.length : Int)] W h (by simp) ha)
  have KC := Lib.hid (fun v W (h : Ints W v cs) => mNumbers_calls v cs W h hl h4)
  have hn1 := numsB_len [z, d, (cs.length : Int)]
  have hn2 := numsB_len cs
  simp only [List.length_cons, List.length_nil] at hn1
  have hsum : ¬ 9223372036854775807 < (numsB [z, d, (cs.length : Int)]).length + (numsB cs).length := by omega
  have hE : metaT z d cs = numsB [z, d, (cs.length : Int)] ++ numsB cs := rfl
  have HE := Lib.hid hE
  rw [hE]
  clear hv hm h1 h2 h3 h4 ha hn1 hn2 hX hE
  generalize numsB [z, d, (cs.length : Int)] = A at *
  generalize numsB cs = C at *
  go_enter Try.func9, Try.ntmps9
  go_wp2_with fail
  refine (mIs_calls z d _ cs _ HV.out hl).mono ?_
  rintro e w1 ⟨rfl, hB1⟩
  rw [HM.out]
  have HV1 := Lib.hid (HV.out.below hB1)
  have HX1 := Lib.hid (HX.out.below hB1)
  have hq0 := drew_below w1
  have hqL : Below w1.heap.size w1 (w1.alloc (.cells #[.int .i64 z, .int .i64 d, .int .i64 cs.length] 3)).drew := (below_alloc _ _).drew
  have HL := Lib.hid (show Ints (w1.alloc (.cells #[.int .i64 z, .int .i64 d, .int .i64 cs.length] 3)).drew (.slice (some ⟨w1.heap.size, 0, none⟩) 3 3) [z, d, (cs.length : Int)] from (ints_three w1 z d cs.length 3).below (drew_below _))
  have HG := Lib.hid (fun W => ints_three W z d cs.length 3)
  have HS : Hid (∀ W, Below w1.heap.size w1 W → W.cell? ⟨w.heap.size, 0, none⟩ = some (.int .i64 z) ∧ W.cell? ⟨w.heap.size, 1, none⟩ = some (.int .i64 d) ∧ W.cell? ⟨w.heap.size, 2, none⟩ = some (.slice ao cs.length cap)) := by
    obtain ⟨b0, b1, b2, _⟩ := HX1.out.three
    exact Lib.hid (fun W hB => ⟨look_below hB b0, look_below hB b1, look_below hB b2⟩)
  go_wp2_with fail
  go_region_held3 (fun W => W.cell? ⟨w.heap.size, 0, none⟩ = some (.int .i64 z) ∧ W.cell? ⟨w.heap.size, 1, none⟩ = some (.int .i64 d) ∧ W.cell? ⟨w.heap.size, 2, none⟩ = some (.slice ao cs.length cap)) (first | exact HS.out _ hq | exact HS.out _ hq0 | exact HS.out _ hqL | exact HS.out _ (hq.alloc hq.size _)) (first
    | ((with_reducible refine (KC.out _ _ (HV1.out.below hq0)).mono ?_); rintro e w2 ⟨rfl, hB2⟩; have hq := below2 hq0 hB2)
    | ((with_reducible refine (KC.out _ _ (HV1.out.below hqL)).mono ?_); rintro e w2 ⟨rfl, hB2⟩; have hq := below2 hqL hB2; have HL2 := Lib.hid (HL.out.below hB2))
    | ((with_reducible refine (KC.out _ _ (HV1.out.below hq)).mono ?_); rintro e w2 ⟨rfl, hB2⟩; have hq := below2 hq hB2)
    | ((with_reducible refine (KA.out _ _ HL.out).mono ?_); rintro e w3 ⟨rfl, hB3⟩; have hq := below2 hqL hB3)
    | ((with_reducible refine (KA.out _ _ HL2.out).mono ?_); rintro e w3 ⟨rfl, hB3⟩; have hq := below2 hq hB3)
    | ((with_reducible refine (KA.out _ _ (HG.out _)).mono ?_); rintro e w3 ⟨rfl, hB3⟩; have hq := below2 (hq.alloc hq.size _) hB3))
  all_goals
    go_wp2_with fail
    go_ret2
    exact ⟨rfl, below3 (below_alloc _ _) hB1 hq⟩

theorem mPut_calls (z d : Int) (v : Value) (cs : List Int) (w : World) (hv : Ints w v cs) (hl : cs.length ≤ 1000000) :
    Calls Try.prog 9 #[MV z d v] w fun e w' => e = .returned (.tuple #[.string ⟨(putM z d cs).toArray⟩, .int .i64 (putMe z d cs)]) ∧ Below w.heap.size w w' := by
  cases hm : metaB z d cs with
  | false =>
    have h1 : putM z d cs = [] := by simp [putM, hm]
    have h2 : putMe z d cs = 1 := by simp [putMe, hm]
    rw [h1, h2]
    exact mPut_no z d v cs w hv hl hm
  | true =>
    have h1 : putM z d cs = metaT z d cs := by simp [putM, hm]
    have h2 : putMe z d cs = 0 := by simp [putMe, hm]
    rw [h1, h2]
    exact mPut_ok z d v cs w hv hm

end Go.Proofs.Ytijhbnkfkjfcfaa
