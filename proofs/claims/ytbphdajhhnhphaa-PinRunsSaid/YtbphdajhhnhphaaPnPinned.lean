/-
  The law file's pinned: the document's rows.
-/
import Derived.Test.YtbphdajhhnhphaaPnAdd
import Derived.Test.YtbphdajhhnhphaaPnCut
namespace Go.Proofs.Ytbphdajhhnhphaa
set_option maxRecDepth 100000
open Go.RowKit

abbrev L53 : List Pn := [(5, 3)]
theorem kA (W : World) : Calls Try.prog 9 #[.slice none 0 0, .agg #[.int .i64 5, .int .i64 3]] W fun e w' => ∃ ao cap, e = .returned (.tuple #[.slice ao 1 cap, .int .i64 0]) ∧ Pns w' (.slice ao 1 cap) L53 ∧ Below W.heap.size W w' := by
  refine (pnAdd_calls _ [] 5 3 W (RowOf.nil W) (by decide)).mono ?_
  rintro e w' ⟨u, rfl, ho, hB⟩
  rw [show addNE [] (5, 3) = 0 by decide] at ho ⊢
  rw [if_pos rfl, show addN [] (5, 3) = L53 by decide] at ho
  obtain ⟨ao, cap, rfl⟩ := ho.form
  exact ⟨ao, cap, rfl, ho.row, hB⟩
theorem kB (v : Value) (W : World) (h : Pns W v L53) : Calls Try.prog 9 #[v, .agg #[.int .i64 5, .int .i64 4]] W fun e w' => ∃ ao n cap, e = .returned (.tuple #[.slice ao n cap, .int .i64 170]) ∧ Below W.heap.size W w' := by
  refine (pnAdd_calls v L53 5 4 W h (by decide)).mono ?_
  rintro e w' ⟨u, rfl, ho, hB⟩
  rw [show addNE L53 (5, 4) = 170 by decide]
  obtain ⟨ao, cap, rfl⟩ := ho.form
  exact ⟨ao, _, cap, rfl, hB⟩
theorem kC (v : Value) (W : World) (h : Pns W v L53) : Calls Try.prog 11 #[v, .int .i64 5] W fun e w' => ∃ ao cap, e = .returned (.tuple #[.slice ao 0 cap, .int .i64 0]) ∧ Pns w' (.slice ao 0 cap) [] ∧ Below W.heap.size W w' := by
  refine (pnDrop_calls v L53 5 W h (by decide)).mono ?_
  rintro e w' ⟨u, rfl, ho, hB⟩
  rw [show dropNE L53 5 = 0 by decide] at ho ⊢
  rw [if_pos rfl, show dropN L53 5 = [] by decide] at ho
  obtain ⟨ao, cap, rfl⟩ := ho.form
  exact ⟨ao, cap, rfl, ho.row, hB⟩
theorem kD (v : Value) (W : World) (h : Pns W v []) : Calls Try.prog 11 #[v, .int .i64 5] W fun e w' => ∃ ao n cap, e = .returned (.tuple #[.slice ao n cap, .int .i64 80]) ∧ Below W.heap.size W w' := by
  refine (pnDrop_calls v [] 5 W h (by decide)).mono ?_
  rintro e w' ⟨u, rfl, ho, hB⟩
  rw [show dropNE [] 5 = 80 by decide]
  obtain ⟨ao, cap, rfl⟩ := ho.form
  exact ⟨ao, _, cap, rfl, hB⟩
theorem kL (v : Value) (W : World) (h : Pns W v L53) : Calls Try.prog 15 #[v] W fun e w' => e = .returned (.tuple #[.int .i64 3, .bool true]) ∧ Below W.heap.size W w' := leastP_some v (5, 3) [] W h (by decide)
theorem kO (v : Value) (W : World) (h : Pns W v L53) : Calls Try.prog 13 #[v, .int .i64 5] W fun e w' => e = .returned (.tuple #[.int .i64 3, .bool true]) ∧ Below W.heap.size W w' := pnOf_calls v L53 5 W h (by decide)
theorem kR (a b t : Int) (v : Value) (l : List Pn) (W : World) (h : Pns W v l) (hl : l.length ≤ 1000) (n : Int) (hn : raiseN a b t l = n) : Calls Try.prog 18 #[.int .i64 a, .int .i64 b, .int .i64 t, v] W fun e w' => e = .returned (.int .i64 n) ∧ Below W.heap.size W w' := hn ▸ raise_calls a b t v l W h hl
theorem kI (v : Value) (W : World) (h : Pns W v L53) : Calls Try.prog 21 #[v] W fun e w' => e = .returned (.bool true) ∧ Below W.heap.size W w' := pnIs_calls v L53 W h (by decide)

set_option maxHeartbeats 4000000 in
theorem pinned_calls (w : World) : Calls Try.prog 20 #[] w fun e w' => e = .returned (.bool true) ∧ Below w.heap.size w w' := by
  go_enter Try.func20, Try.ntmps20
  go_wp2_with fail
  refine (kA _).mono ?_
  rintro e w1 ⟨ao, cap, rfl, h, hB⟩
  have H := Lib.hid h
  clear h
  go_wp2_with fail
  refine (kB _ _ H.out).mono ?_
  rintro e w2 ⟨a2, n2, c2, rfl, hB2⟩
  go_wp2_with fail
  refine (kL _ _ (H.out.below hB2)).mono ?_
  rintro e w3 ⟨rfl, hB3⟩
  have hB23 := below2 hB2 hB3
  go_wp2_with fail
  refine (kC _ _ (H.out.below hB23)).mono ?_
  rintro e w4 ⟨a4, c4, rfl, h4, hB4⟩
  have H4 := Lib.hid h4
  clear h4
  have hB24 := below2 hB23 hB4
  go_wp2_with fail
  refine (kD _ _ H4.out).mono ?_
  rintro e w5 ⟨a5, n5, c5, rfl, hB5⟩
  have hB25 := below2 hB24 hB5
  go_wp2_with fail
  refine (kO _ _ (H.out.below hB25)).mono ?_
  rintro e w6 ⟨rfl, hB6⟩
  have hB26 := below2 hB25 hB6
  go_wp2_with fail
  refine (kR 1 9 7 _ _ _ (H.out.below hB26) (by decide) 3 (by decide)).mono ?_
  rintro e w7 ⟨rfl, hB7⟩
  have hB27 := below2 hB26 hB7
  go_wp2_with fail
  refine (kR 4 9 7 _ _ _ (H.out.below hB27) (by decide) 4 (by decide)).mono ?_
  rintro e w8 ⟨rfl, hB8⟩
  have hB28 := below2 hB27 hB8
  go_wp2_with fail
  refine (kR 1 9 7 _ [] _ (RowOf.nil _) (by decide) 7 (by decide)).mono ?_
  rintro e w9 ⟨rfl, hB9⟩
  have hB29 := below2 hB28 hB9
  go_wp2_with fail
  refine (kI _ _ (H.out.below hB29)).mono ?_
  rintro e w10 ⟨rfl, hB10⟩
  have hB30 := below3 hB hB29 hB10
  go_wp2_with fail
  go_ret
  exact ⟨rfl, hB30⟩

end Go.Proofs.Ytbphdajhhnhphaa
