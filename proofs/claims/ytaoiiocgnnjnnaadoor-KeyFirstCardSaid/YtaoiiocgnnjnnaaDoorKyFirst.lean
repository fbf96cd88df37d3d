/-
  key.First.
-/
import Derived.Test.YtaoiiocgnnjnnaaDoorKyIs
import Derived.Test.YtaoiiocgnnjnnaaDoorKyRets
namespace Go.Proofs.YtaoiiocgnnjnnaaDoor
open Go.RowKit

set_option maxHeartbeats 2000000 in
theorem kFirst_calls (p : List UInt8) (n : Int) (hl : p.length ≤ 1000000) (w : World) (hm : Ml w) :
    Calls Tryd.prog 13 #[.string ⟨p.toArray⟩, .int .i64 n] w fun e w' => e = .returned (.tuple #[.agg #[.string ⟨(firstK p n).1.toArray⟩, .int .i64 (firstK p n).2], .int .i64 (firstE p n)]) ∧ Below w.heap.size w w' := by
  obtain ⟨m, hmn⟩ : ∃ m, min n 1000000000 = m := ⟨_, rfl⟩
  have HT := Lib.hid (show topK p n = (p, m) by unfold topK; rw [hmn])
  cases hk : keyB (topK p n) with
  | false =>
    have H1 := Lib.hid (show firstK p n = ([], 0) by simp [firstK, hk])
    have H2 := Lib.hid (show firstE p n = 1 by simp [firstE, hk])
    rw [HT.out] at hk
    have HK := Lib.hid hk
    clear hk
    rw [H1.out, H2.out]
    go_enter Tryd.func13, Tryd.ntmps13
    go_wp2_with fail
    refine (kIs_calls p m (by omega) _ (hm.below (below_alloc2 _ _ _))).mono ?_
    rintro e w1 ⟨rfl, hB1⟩
    obtain ⟨c0, c1, f0, f1, hlt⟩ := (((Cx.new w 23 [.string ⟨#[]⟩, .int .i64 0]).below (below_alloc _ _)).below hB1).two
    have hC := Lib.hid (((Cx.new w 23 [.string ⟨#[]⟩, .int .i64 0]).below (below_alloc _ _)).below hB1)
    rw [HK.out]
    go_wp2_with fail
    obtain ⟨d0, d1, _⟩ := (hC.out.sets (.string ⟨#[]⟩) (.int .i64 0)).two
    exact ret_key2 rfl rfl w.heap.size _ _ _ rfl rfl d0 d1 ⟨rfl, below_sets (below2 (below_alloc2 _ _ _) hB1) (Nat.le_refl _) _ _⟩
  | true =>
    have H1 := Lib.hid (show firstK p n = topK p n by simp [firstK, hk])
    have H2 := Lib.hid (show firstE p n = 0 by simp [firstE, hk])
    rw [HT.out] at hk
    have HK := Lib.hid hk
    clear hk
    rw [H1.out, H2.out, HT.out]
    go_enter Tryd.func13, Tryd.ntmps13
    go_wp2_with fail
    refine (kIs_calls p m (by omega) _ (hm.below (below_alloc2 _ _ _))).mono ?_
    rintro e w1 ⟨rfl, hB1⟩
    obtain ⟨c0, c1, f0, f1, hlt⟩ := (((Cx.new w 23 [.string ⟨#[]⟩, .int .i64 0]).below (below_alloc _ _)).below hB1).two
    have hC := Lib.hid (((Cx.new w 23 [.string ⟨#[]⟩, .int .i64 0]).below (below_alloc _ _)).below hB1)
    have hD := (Cx.new (w.alloc (.cells #[.string ⟨#[]⟩, .int .i64 0] 23)) 23 [.string ⟨p.toArray⟩, .int .i64 m]).below hB1
    rw [World.size_alloc] at hD
    obtain ⟨c2, c3, _⟩ := hD.two
    clear hD
    rw [HK.out]
    go_wp2_with fail
    obtain ⟨d0, d1, _⟩ := (hC.out.sets (.string ⟨p.toArray⟩) (.int .i64 m)).two
    exact ret_key2 rfl rfl w.heap.size _ _ _ rfl rfl d0 d1 ⟨rfl, below_sets (below2 (below_alloc2 _ _ _) hB1) (Nat.le_refl _) _ _⟩

end Go.Proofs.YtaoiiocgnnjnnaaDoor
