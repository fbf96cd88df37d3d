/-
  The document's own Less, Compare of keys.
-/
import Derived.Test.YtaoiiocgnnjnnaaDoorKySpec
import Derived.Test.YtaoiiocgnnjnnaaDoorKyRets
namespace Go.Proofs.YtaoiiocgnnjnnaaDoor
open Go.RowKit

set_option maxHeartbeats 1000000 in
theorem kRefLess_calls (p q : List UInt8) (n m : Int) (w : World) :
    Calls Tryd.prog 19 #[.agg #[.string ⟨p.toArray⟩, .int .i64 n], .agg #[.string ⟨q.toArray⟩, .int .i64 m]] w fun e w' => e = .returned (.bool (aheadK (p, n) (q, m))) ∧ Below w.heap.size w w' := by
  cases h1 : Op.bytesLess p q with
  | true =>
    have H := Lib.hid (show aheadK (p, n) (q, m) = true by simp [aheadK, h1])
    go_enter Tryd.func19, Tryd.ntmps19
    go_wp2_with fail
    go_ret
    exact ⟨by rw [H.out]; rfl, below_alloc2 _ _ _⟩
  | false =>
    cases h2 : (p == q) with
    | false =>
      have H := Lib.hid (show aheadK (p, n) (q, m) = false by simp [aheadK, h1, h2])
      go_enter Tryd.func19, Tryd.ntmps19
      go_wp2_with fail
      go_ret
      exact ⟨by rw [H.out]; rfl, below_alloc2 _ _ _⟩
    | true =>
      have H := Lib.hid (show aheadK (p, n) (q, m) = decide (m < n) by simp [aheadK, h1, h2])
      go_enter Tryd.func19, Tryd.ntmps19
      go_wp2_with fail
      go_ret
      exact ⟨by rw [H.out]; rfl, below_alloc2 _ _ _⟩

set_option maxHeartbeats 1000000 in
theorem kRefCompare_calls (p q : List UInt8) (n m : Int) (w : World) :
    Calls Tryd.prog 21 #[.agg #[.string ⟨p.toArray⟩, .int .i64 n], .agg #[.string ⟨q.toArray⟩, .int .i64 m]] w fun e w' => e = .returned (.int .i64 (cmpK (p, n) (q, m))) ∧ Below w.heap.size w w' := by
  have HR := Lib.hid (cmpK_ahead (p, n) (q, m))
  have hX := Lib.hid ((Cx.new w 23 [.string ⟨p.toArray⟩, .int .i64 n]).below (below_alloc _ (.cells #[.string ⟨q.toArray⟩, .int .i64 m] 23)))
  have hY := Lib.hid (Cx.new (w.alloc (.cells #[.string ⟨p.toArray⟩, .int .i64 n] 23)) 23 [.string ⟨q.toArray⟩, .int .i64 m])
  cases h1 : aheadK (p, n) (q, m) with
  | true =>
    have H1 := Lib.hid h1
    clear h1
    go_enter Tryd.func21, Tryd.ntmps21
    go_wp2_with fail
    refine (kRefLess_calls p q n m _).mono ?_
    rintro e w1 ⟨rfl, hB1⟩
    rw [H1.out]
    go_wp2_with fail
    go_ret
    exact ⟨by rw [HR.out, H1.out]; rfl, below2 (below_alloc2 _ _ _) hB1⟩
  | false =>
    have H1 := Lib.hid h1
    clear h1
    go_enter Tryd.func21, Tryd.ntmps21
    go_wp2_with fail
    refine (kRefLess_calls p q n m _).mono ?_
    rintro e w1 ⟨rfl, hB1⟩
    rw [H1.out]
    obtain ⟨c0, c1, _⟩ := (hX.out.below hB1).two
    have hYb := hY.out.below hB1
    rw [World.size_alloc] at hYb
    obtain ⟨d0, d1, _⟩ := hYb.two
    clear hYb
    go_wp2_with fail
    refine (kRefLess_calls q p m n _).mono ?_
    rintro e w2 ⟨rfl, hB2⟩
    cases h2 : aheadK (q, m) (p, n) with
    | true =>
      have H2 := Lib.hid h2
      clear h2
      go_wp2_with fail
      go_ret
      exact ⟨by rw [HR.out, H1.out, H2.out]; rfl, below3 (below_alloc2 _ _ _) hB1 hB2⟩
    | false =>
      have H2 := Lib.hid h2
      clear h2
      go_wp2_with fail
      go_ret
      exact ⟨by rw [HR.out, H1.out, H2.out]; rfl, below3 (below_alloc2 _ _ _) hB1 hB2⟩

end Go.Proofs.YtaoiiocgnnjnnaaDoor
