/-
  The law file's own 'laid': the document's examples come out as they are written.
-/
import Derived.Test.YtclfemhlonobiaaGet
namespace Go.Proofs.Ytclfemhlonobiaa
open Go.RowKit

theorem ex_num : numB 256 = [2, 1, 0] := by decide
theorem ex_get : getN [2, 1, 0, 9] = some (256, [9]) := by decide
theorem ex_none : getN [2, 0, 1] = none := by decide
theorem ex_text : txtB [97, 98] = [1, 2, 97, 98] := by decide
theorem ex_row : rowOut [[97], []] = ([1, 2, 1, 1, 97, 0], 0) := by decide

theorem ex_number (w : World) : Calls Try.prog 10 #[.int .i64 256] w fun e w' => e = .returned (.tuple #[.string ⟨#[2, 1, 0]⟩, .int .i64 0]) ∧ Below w.heap.size w w' :=
  (number_ok 256 (by omega) w).mono fun e w' h => by rw [ex_num] at h; exact h
theorem ex_getNumber (w : World) : Calls Try.prog 18 #[.string ⟨#[2, 1, 0, 9]⟩] w fun e w' => e = .returned (.tuple #[.int .i64 256, .string ⟨#[9]⟩, .bool true]) ∧ Below w.heap.size w w' :=
  GetNumber_some [2, 1, 0, 9] (by decide) ex_get w
theorem ex_getNone (w : World) : Calls Try.prog 18 #[.string ⟨#[2, 0, 1]⟩] w fun e w' => e = .returned (.tuple #[.int .i64 0, .string ⟨#[]⟩, .bool false]) ∧ Below w.heap.size w w' :=
  GetNumber_none [2, 0, 1] (by decide) ex_none w
theorem ex_textCalls (w : World) : Calls Try.prog 12 #[.string ⟨#[97, 98]⟩] w fun e w' => e = .returned (.tuple #[.string ⟨#[1, 2, 97, 98]⟩, .int .i64 0]) ∧ Below w.heap.size w w' :=
  (text_ok [97, 98] (by decide) w).mono fun e w' h => by rw [ex_text] at h; exact h
theorem ex_rowCalls (w : World) : Calls Try.prog 14 #[.slice (some ⟨w.heap.size, 0, none⟩) 2 2] (w.alloc (.cells #[.string ⟨#[97]⟩, .string ⟨#[]⟩] 9)) fun e w' => e = .returned (.tuple #[.string ⟨#[1, 2, 1, 1, 97, 0]⟩, .int .i64 0]) ∧ Below w.heap.size w w' := by
  have hs : Strs (w.alloc (.cells #[.string ⟨#[97]⟩, .string ⟨#[]⟩] 9)) (.slice (some ⟨w.heap.size, 0, none⟩) 2 2) [[97], []] := by
    refine ⟨_, 2, rfl, .inr ⟨w.heap.size, 0, rfl, fun i hi => ?_⟩⟩
    match i, hi with
    | 0, _ => simp
    | 1, _ => simp
  refine (row_short _ _ _ hs (by decide)).mono fun e w' h => ?_
  rw [ex_row] at h
  exact ⟨h.1, ((Below.refl _ w).alloc (Nat.le_refl _) _).trans (h.2.mono (by simp))⟩

set_option maxRecDepth 100000 in
set_option maxHeartbeats 4000000 in
theorem laid_calls (w : World) : Calls Try.prog 16 #[] w fun e w' => e = .returned (.bool true) ∧ Below w.heap.size w w' := by
  go_enter Try.func16, Try.ntmps16
  go_wp2_with fail
  refine (ex_number _).mono ?_
  rintro e w1 ⟨rfl, hB1⟩
  go_wp2_with fail
  refine (ex_getNumber _).mono ?_
  rintro e w2 ⟨rfl, hB2⟩
  go_wp2_with fail
  refine (ex_getNone _).mono ?_
  rintro e w3 ⟨rfl, hB3⟩
  go_wp2_with fail
  refine (ex_textCalls _).mono ?_
  rintro e w4 ⟨rfl, hB4⟩
  go_wp2_with fail
  refine (ex_rowCalls _).mono ?_
  rintro e w5 ⟨rfl, hB5⟩
  go_wp2_with fail
  refine (number_bad (-1) (by omega) _).mono ?_
  rintro e w6 ⟨rfl, rfl⟩
  go_wp2_with fail
  go_ret
  have z1 := hB1.size
  have z2 := hB2.size
  have z3 := hB3.size
  have z4 := hB4.size
  exact ⟨rfl, (((hB1.trans (hB2.mono z1)).trans (hB3.mono (by omega))).trans (hB4.mono (by omega))).trans (hB5.mono (by omega))⟩

end Go.Proofs.Ytclfemhlonobiaa
