/-
  The law file's own 'summed': the document's examples come out as they are written.
-/
import Derived.Test.YtoaoinmmfpmgkaaDoorAll
namespace Go.Proofs.YtoaoinmmfpmgkaaDoor
open Go.RowKit

theorem ex_sum0 : sumN [] = 0 := by decide
theorem ex_sum9 : sumN [49, 50, 51, 52, 53, 54, 55, 56, 57] = 3421780262 := by decide
theorem ex_frame : frameB [] = [0, 0, 0, 0, 0] := by decide
theorem ex_no : getF [0, 0, 0, 1, 0] = none := by decide
theorem ex_got : getF [0, 0, 0, 0, 0, 120] = some ([], [120]) := by decide

theorem ex_put (w : World) (hT : TabOk w) : Calls Tryd.prog 10 #[.string ⟨#[]⟩] w fun e w' => e = .returned (.tuple #[.string ⟨#[0, 0, 0, 0, 0]⟩, .int .i64 0]) ∧ Below w.heap.size w w' :=
  (put_ok [] (by decide) w hT).mono fun e w' h => by rw [ex_frame] at h; exact h
theorem ex_getNo (w : World) (hT : TabOk w) : Calls Tryd.prog 15 #[.string ⟨#[0, 0, 0, 1, 0]⟩] w fun e w' => e = .returned (.tuple #[.string ⟨#[]⟩, .string ⟨#[]⟩, .int .i64 30]) ∧ Below w.heap.size w w' :=
  get_none [0, 0, 0, 1, 0] (by decide) ex_no w hT
theorem ex_getOk (w : World) (hT : TabOk w) : Calls Tryd.prog 15 #[.string ⟨#[0, 0, 0, 0, 0, 120]⟩] w fun e w' => e = .returned (.tuple #[.string ⟨#[]⟩, .string ⟨#[120]⟩, .int .i64 0]) ∧ Below w.heap.size w w' :=
  get_some [0, 0, 0, 0, 0, 120] (by decide) ex_got w hT
theorem ex_sumNone (w : World) (hT : TabOk w) : Calls Tryd.prog 13 #[.string ⟨#[]⟩] w fun e w' => e = .returned (.int .i64 0) ∧ Below w.heap.size w w' :=
  (sum_calls [] (by decide) w hT).mono fun e w' h => by rw [ex_sum0] at h; exact h
theorem ex_sumNine (w : World) (hT : TabOk w) : Calls Tryd.prog 13 #[.string ⟨#[49, 50, 51, 52, 53, 54, 55, 56, 57]⟩] w fun e w' => e = .returned (.int .i64 3421780262) ∧ Below w.heap.size w w' :=
  (sum_calls [49, 50, 51, 52, 53, 54, 55, 56, 57] (by decide) w hT).mono fun e w' h => by rw [ex_sum9] at h; exact h

set_option maxRecDepth 100000 in
set_option maxHeartbeats 4000000 in
theorem summed_calls (w : World) (hT : TabOk w) : Calls Tryd.prog 12 #[] w fun e w' => e = .returned (.bool true) ∧ Below w.heap.size w w' := by
  go_enter Tryd.func12, Tryd.ntmps12
  go_wp2_with fail
  refine (ex_put _ hT).mono ?_
  rintro e w1 ⟨rfl, hB1⟩
  have hT1 := hT.below hB1
  go_wp2_with fail
  refine (ex_getNo _ hT1).mono ?_
  rintro e w2 ⟨rfl, hB2⟩
  have hT2 := hT1.below hB2
  go_wp2_with fail
  refine (ex_getOk _ hT2).mono ?_
  rintro e w3 ⟨rfl, hB3⟩
  have hT3 := hT2.below hB3
  go_wp2_with fail
  refine (ex_sumNone _ hT3).mono ?_
  rintro e w4 ⟨rfl, hB4⟩
  have hT4 := hT3.below hB4
  go_wp2_with fail
  refine (ex_sumNine _ hT4).mono ?_
  rintro e w5 ⟨rfl, hB5⟩
  go_wp2_with fail
  go_ret
  exact ⟨rfl, below2 (below2 (below2 (below2 hB1 hB2) hB3) hB4) hB5⟩

end Go.Proofs.YtoaoinmmfpmgkaaDoor
