/-
  The document's own First of a path.
-/
import Derived.Test.YtaoiiocgnnjnnaaDoorKySpec
import Derived.Test.YtaoiiocgnnjnnaaDoorKyRets
import Derived.Test.YtaoiiocgnnjnnaaDoorRNames
namespace Go.Proofs.YtaoiiocgnnjnnaaDoor
open Go.RowKit

set_option maxHeartbeats 2000000 in
theorem kRefFirst_calls (p : List UInt8) (n : Int) (hl : p.length ≤ 1000000) (w : World) :
    Calls Tryd.prog 14 #[.string ⟨p.toArray⟩, .int .i64 n] w fun e w' => e = .returned (.tuple #[.agg #[.string ⟨(firstK p n).1.toArray⟩, .int .i64 (firstK p n).2], .int .i64 (firstE p n)]) ∧ Below w.heap.size w w' := by
  have hc := first_ref p n
  obtain ⟨m, hmn⟩ : ∃ m, min n 1000000000 = m := ⟨_, rfl⟩
  have HT := Lib.hid (show topK p n = (p, m) by unfold topK; rw [hmn])
  cases hp : isP p with
  | false =>
    rw [hp, Bool.false_and] at hc
    have H1 := Lib.hid (show firstK p n = ([], 0) by simp [firstK, hc])
    have H2 := Lib.hid (show firstE p n = 1 by simp [firstE, hc])
    have HP := Lib.hid hp
    clear hp hc
    rw [H1.out, H2.out]
    go_enter Tryd.func14, Tryd.ntmps14
    go_wp2_with fail
    refine (refIs_calls p hl _).mono ?_
    rintro e w1 ⟨rfl, hB1⟩
    obtain ⟨c0, c1, f0, f1, hlt⟩ := ((Cx.new w 23 [.string ⟨#[]⟩, .int .i64 0]).below hB1).two
    have hC := Lib.hid ((Cx.new w 23 [.string ⟨#[]⟩, .int .i64 0]).below hB1)
    rw [HP.out]
    go_wp2_with fail
    obtain ⟨d0, d1, _⟩ := (hC.out.sets (.string ⟨#[]⟩) (.int .i64 0)).two
    exact ret_key2 rfl rfl w.heap.size _ _ _ rfl rfl d0 d1 ⟨rfl, below_sets (below2 (below_alloc _ _) hB1) (Nat.le_refl _) _ _⟩
  | true =>
    rw [hp, Bool.true_and] at hc
    have HP := Lib.hid hp
    clear hp
    by_cases h0 : 0 ≤ n
    · rw [decide_eq_true h0] at hc
      have H1 := Lib.hid (show firstK p n = topK p n by simp [firstK, hc])
      have H2 := Lib.hid (show firstE p n = 0 by simp [firstE, hc])
      clear hc
      rw [H1.out, H2.out, HT.out]
      go_enter Tryd.func14, Tryd.ntmps14
      go_wp2_with fail
      refine (refIs_calls p hl _).mono ?_
      rintro e w1 ⟨rfl, hB1⟩
      obtain ⟨c0, c1, f0, f1, hlt⟩ := ((Cx.new w 23 [.string ⟨#[]⟩, .int .i64 0]).below hB1).two
      have hC := Lib.hid ((Cx.new w 23 [.string ⟨#[]⟩, .int .i64 0]).below hB1)
      rw [HP.out]
      go_wp2_with fail
      obtain ⟨d0, d1, _⟩ := (hC.out.sets (.string ⟨p.toArray⟩) (.int .i64 m)).two
      exact ret_key2 rfl rfl w.heap.size _ _ _ rfl rfl d0 d1 ⟨rfl, below_sets (below2 (below_alloc _ _) hB1) (Nat.le_refl _) _ _⟩
    · rw [decide_eq_false h0] at hc
      have H1 := Lib.hid (show firstK p n = ([], 0) by simp [firstK, hc])
      have H2 := Lib.hid (show firstE p n = 1 by simp [firstE, hc])
      clear hc
      have h1 : n < 0 := by omega
      clear h0
      rw [H1.out, H2.out]
      go_enter Tryd.func14, Tryd.ntmps14
      go_wp2_with fail
      refine (refIs_calls p hl _).mono ?_
      rintro e w1 ⟨rfl, hB1⟩
      obtain ⟨c0, c1, f0, f1, hlt⟩ := ((Cx.new w 23 [.string ⟨#[]⟩, .int .i64 0]).below hB1).two
      have hC := Lib.hid ((Cx.new w 23 [.string ⟨#[]⟩, .int .i64 0]).below hB1)
      rw [HP.out]
      go_wp2_with fail
      obtain ⟨d0, d1, _⟩ := (hC.out.sets (.string ⟨#[]⟩) (.int .i64 0)).two
      exact ret_key2 rfl rfl w.heap.size _ _ _ rfl rfl d0 d1 ⟨rfl, below_sets (below2 (below_alloc _ _) hB1) (Nat.le_refl _) _ _⟩

end Go.Proofs.YtaoiiocgnnjnnaaDoor
