/-
  The document's own Is, Put of a key.
-/
import Derived.Test.YtaoiiocgnnjnnaaDoorKyPut
import Derived.Test.YtaoiiocgnnjnnaaDoorRNames
namespace Go.Proofs.YtaoiiocgnnjnnaaDoor
open Go.RowKit
attribute [local go_sem] app_mk

set_option maxHeartbeats 1000000 in
theorem kRefIs_calls (p : List UInt8) (n : Int) (hl : p.length ≤ 1000000) (w : World) :
    Calls Tryd.prog 17 #[.agg #[.string ⟨p.toArray⟩, .int .i64 n]] w fun e w' => e = .returned (.bool (keyB (p, n))) ∧ Below w.heap.size w w' := by
  have hB0 := below_alloc w (.cells #[.string ⟨p.toArray⟩, .int .i64 n] 23)
  cases hp : isP p with
  | false =>
    have H := Lib.hid (show keyB (p, n) = false by simp [keyB, hp])
    have HP := Lib.hid hp
    clear hp
    go_enter Tryd.func17, Tryd.ntmps17
    go_wp2_with fail
    refine (refIs_calls p hl _).mono ?_
    rintro e w1 ⟨rfl, hB1⟩
    rw [HP.out]
    go_wp2_with fail
    go_ret
    exact ⟨by rw [H.out]; rfl, below2 hB0 hB1⟩
  | true =>
    have HP := Lib.hid hp
    have H := Lib.hid (show keyB (p, n) = (decide (0 ≤ n) && decide (n ≤ 1000000000)) by simp [keyB, hp])
    clear hp
    by_cases h1 : 0 ≤ n
    · by_cases h2 : n ≤ 1000000000
      · have H := Lib.hid (show keyB (p, n) = true by rw [H.out]; simp [h1, h2])
        go_enter Tryd.func17, Tryd.ntmps17
        go_wp2_with fail
        refine (refIs_calls p hl _).mono ?_
        rintro e w1 ⟨rfl, hB1⟩
        have hc1 := look_below hB1 (W := w.alloc _) (b := w.heap.size) (o := 1) (cell_of_row _ _ 1 _ _ _ (heap_alloc_new w _))
        rw [HP.out]
        go_wp2_with fail
        go_ret
        exact ⟨by rw [H.out]; rfl, below2 hB0 hB1⟩
      · have H := Lib.hid (show keyB (p, n) = decide (n ≤ 1000000000) by rw [H.out]; simp [h1])
        go_enter Tryd.func17, Tryd.ntmps17
        go_wp2_with fail
        refine (refIs_calls p hl _).mono ?_
        rintro e w1 ⟨rfl, hB1⟩
        have hc1 := look_below hB1 (W := w.alloc _) (b := w.heap.size) (o := 1) (cell_of_row _ _ 1 _ _ _ (heap_alloc_new w _))
        rw [HP.out]
        go_wp2_with fail
        go_ret
        exact ⟨by rw [H.out]; rfl, below2 hB0 hB1⟩
    · have H := Lib.hid (show keyB (p, n) = false by rw [H.out]; simp [h1])
      go_enter Tryd.func17, Tryd.ntmps17
      go_wp2_with fail
      refine (refIs_calls p hl _).mono ?_
      rintro e w1 ⟨rfl, hB1⟩
      have hc1 := look_below hB1 (W := w.alloc _) (b := w.heap.size) (o := 1) (cell_of_row _ _ 1 _ _ _ (heap_alloc_new w _))
      rw [HP.out]
      go_wp2_with fail
      go_ret
      exact ⟨by rw [H.out]; rfl, below2 hB0 hB1⟩

set_option maxHeartbeats 1000000 in
theorem kRefPut_calls (p : List UInt8) (n : Int) (hl : p.length ≤ 1000000) (w : World) :
    Calls Tryd.prog 10 #[.agg #[.string ⟨p.toArray⟩, .int .i64 n]] w fun e w' => e = .returned (.tuple #[.string ⟨(putT (p, n)).toArray⟩, .int .i64 (putE (p, n))]) ∧ Below w.heap.size w w' := by
  have hB0 := below_alloc w (.cells #[.string ⟨p.toArray⟩, .int .i64 n] 23)
  cases hk : keyB (p, n) with
  | false =>
    have HE := Lib.hid hk
    have H1 := Lib.hid (show putT (p, n) = [] by simp [putT, hk])
    have H2 := Lib.hid (show putE (p, n) = 1 by simp [putE, hk])
    clear hk
    rw [H1.out, H2.out]
    go_enter Tryd.func10, Tryd.ntmps10
    go_wp2_with fail
    refine (kRefIs_calls p n (by omega) _).mono ?_
    rintro e w1 ⟨rfl, hB1⟩
    rw [HE.out]
    go_wp2_with fail
    go_ret2
    exact ⟨rfl, below2 hB0 hB1⟩
  | true =>
    have hf := keyB_facts hk
    dsimp only at hf
    obtain ⟨m, hmn⟩ : ∃ m : Nat, 4294967295 - n = m := ⟨(4294967295 - n).toNat, by omega⟩
    have hm1 : m ≤ 4294967295 := by omega
    have hm2 : 3294967295 ≤ m := by omega
    have HE := Lib.hid hk
    have H1 := Lib.hid (show putT (p, n) = keyT (p, n) by simp [putT, hk])
    have H2 := Lib.hid (show putE (p, n) = 0 by simp [putE, hk])
    rw [H1.out, H2.out]
    have H3 := Lib.hid (keyT_four p m n hmn)
    clear hk
    have kc := conv_fiveK
    go_enter Tryd.func10, Tryd.ntmps10
    go_wp2_with fail
    refine (kRefIs_calls p n (by omega) _).mono ?_
    rintro e w1 ⟨rfl, hB1⟩
    have hc0 := look_below hB1 (W := w.alloc _) (b := w.heap.size) (o := 0) (cell_of_row _ _ 0 _ _ _ (heap_alloc_new w _))
    have hc1 := look_below hB1 (W := w.alloc _) (b := w.heap.size) (o := 1) (cell_of_row _ _ 1 _ _ _ (heap_alloc_new w _))
    rw [HE.out]
    go_wp2_with fail

    go_ret2
    exact ⟨by rw [H3.out]; rfl, below2 (below2 hB0 hB1) (below_alloc _ _)⟩

end Go.Proofs.YtaoiiocgnnjnnaaDoor
