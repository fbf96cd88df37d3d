/-
  sextonlaw12.MetaFront: the walk.
-/
import Derived.Test.YtijhbnkfkjfcfaaMeKnown
import Derived.Test.YtijhbnkfkjfcfaaMeTwo
import Derived.Deep.RegionHeld3
import Derived.Deep.DeepCutAuto
namespace Go.Proofs.Ytijhbnkfkjfcfaa
set_option maxRecDepth 100000
open Go.RowKit
attribute [local go_sem] ext_take

set_option maxHeartbeats 2000000 in
theorem metaFront_far0 (z0 m0 : Int) (a0 : Option Addr) (c0 : Nat) (cs0 : List Int) (z1 m1 : Int) (a1 : Option Addr) (c1 : Nat) (cs1 : List Int) (w : World) (g0 g1 : Bool) (hl : 40 < cs0.length) :
    Calls Try.prog 5 #[MV z0 m0 (.slice a0 cs0.length c0), MV z1 m1 (.slice a1 cs1.length c1), .bool g0, .bool g1] w fun e w' => e = .returned (.bool true) ∧ Below w.heap.size w w' := by
  have hd : decide ((40 : Int) < cs0.length) = true := by rw [decide_eq_true_eq]; omega
  clear hl
  go_enter Try.func5, Try.ntmps5
  go_wp2_with fail
  go_ret
  exact ⟨rfl, below_alloc2 _ _ _⟩

set_option maxHeartbeats 2000000 in
theorem metaFront_far1 (z0 m0 : Int) (a0 : Option Addr) (c0 : Nat) (cs0 : List Int) (z1 m1 : Int) (a1 : Option Addr) (c1 : Nat) (cs1 : List Int) (w : World) (g0 g1 : Bool) (hl0 : cs0.length ≤ 40) (hl : 40 < cs1.length) :
    Calls Try.prog 5 #[MV z0 m0 (.slice a0 cs0.length c0), MV z1 m1 (.slice a1 cs1.length c1), .bool g0, .bool g1] w fun e w' => e = .returned (.bool true) ∧ Below w.heap.size w w' := by
  have hd0 : decide ((40 : Int) < cs0.length) = false := by rw [decide_eq_false_iff_not]; omega
  have hd : decide ((40 : Int) < cs1.length) = true := by rw [decide_eq_true_eq]; omega
  clear hl hl0
  go_enter Try.func5, Try.ntmps5
  go_wp2_with fail
  go_ret
  exact ⟨rfl, below_alloc2 _ _ _⟩

set_option maxHeartbeats 8000000 in
theorem metaFront_e (z0 m0 : Int) (a0 : Option Addr) (c0 : Nat) (cs0 : List Int) (z1 m1 : Int) (a1 : Option Addr) (c1 : Nat) (cs1 : List Int) (w : World) (h0 : Ints w (.slice a0 cs0.length c0) cs0) (h1 : Ints w (.slice a1 cs1.length c1) cs1) (g0 : Bool) (g1 : Bool) (hl0 : cs0.length ≤ 40) (hl1 : cs1.length ≤ 40) (A B : List UInt8) (y0 y1 : Int) (hA : valM z0 m0 cs0 g0 = A) (hy0 : valMe z0 m0 cs0 g0 = y0) (hB : valM z1 m1 cs1 g1 = B) (hy1 : valMe z1 m1 cs1 g1 = y1) (hy : (y0 != 0) = true) :
    Calls Try.prog 5 #[MV z0 m0 (.slice a0 cs0.length c0), MV z1 m1 (.slice a1 cs1.length c1), .bool g0, .bool g1] w fun e w' => e = .returned (.bool true) ∧ Below w.heap.size w w' := by
  have hd0 : decide ((40 : Int) < cs0.length) = false := by rw [decide_eq_false_iff_not]; omega
  have hd1 : decide ((40 : Int) < cs1.length) = false := by rw [decide_eq_false_iff_not]; omega
  have KV0x := Lib.hid (fun W (h : Ints W (.slice a0 cs0.length c0) cs0) => mValue_calls z0 m0 _ cs0 g0 W h (by omega))
  have KV1x := Lib.hid (fun W (h : Ints W (.slice a1 cs1.length c1) cs1) => mValue_calls z1 m1 _ cs1 g1 W h (by omega))
  rw [hA, hy0] at KV0x
  rw [hB, hy1] at KV1x
  have G0 := Lib.hid (GSt.new z0 m0 z1 m1 h0 h1)
  clear h0 h1 hl0 hl1 hA hy0 hB hy1
  go_enter Try.func5, Try.ntmps5
  go_wp2_with fail
  refine (KV0x.out _ G0.out.2.1).mono ?_
  rintro e w1 ⟨rfl, hB1⟩
  have G1 := Lib.hid (G0.out.below hB1)
  clear hB1
  obtain ⟨p0, p1, p2, _⟩ := G1.out.2.2.2.1.three
  obtain ⟨q0, q1, q2, _⟩ := G1.out.2.2.2.2.three
  go_wp2_with fail
  clear p0 p1 p2 q0 q1 q2
  refine (KV1x.out _ G1.out.2.2.1).mono ?_
  rintro e w2 ⟨rfl, hB2⟩
  have G2 := Lib.hid (G1.out.below hB2)
  clear hB2
  obtain ⟨p0, p1, p2, _⟩ := G2.out.2.2.2.1.three
  obtain ⟨q0, q1, q2, _⟩ := G2.out.2.2.2.2.three
  go_wp2_with fail
  clear p0 p1 p2 q0 q1 q2
  refine (mKnown_calls _).mono ?_
  rintro e w5 ⟨rfl, hB5⟩
  go_wp2_with fail
  go_ret
  exact ⟨rfl, below2 G2.out.1 hB5⟩

set_option maxHeartbeats 8000000 in
theorem metaFront_f (z0 m0 : Int) (a0 : Option Addr) (c0 : Nat) (cs0 : List Int) (z1 m1 : Int) (a1 : Option Addr) (c1 : Nat) (cs1 : List Int) (w : World) (h0 : Ints w (.slice a0 cs0.length c0) cs0) (h1 : Ints w (.slice a1 cs1.length c1) cs1) (g0 : Bool) (g1 : Bool) (hl0 : cs0.length ≤ 40) (hl1 : cs1.length ≤ 40) (A B : List UInt8) (y0 y1 : Int) (hA : valM z0 m0 cs0 g0 = A) (hy0 : valMe z0 m0 cs0 g0 = y0) (hB : valM z1 m1 cs1 g1 = B) (hy1 : valMe z1 m1 cs1 g1 = y1) (hz0 : (y0 != 0) = false) (hy : (y1 != 0) = true) :
    Calls Try.prog 5 #[MV z0 m0 (.slice a0 cs0.length c0), MV z1 m1 (.slice a1 cs1.length c1), .bool g0, .bool g1] w fun e w' => e = .returned (.bool true) ∧ Below w.heap.size w w' := by
  have hd0 : decide ((40 : Int) < cs0.length) = false := by rw [decide_eq_false_iff_not]; omega
  have hd1 : decide ((40 : Int) < cs1.length) = false := by rw [decide_eq_false_iff_not]; omega
  have KV0x := Lib.hid (fun W (h : Ints W (.slice a0 cs0.length c0) cs0) => mValue_calls z0 m0 _ cs0 g0 W h (by omega))
  have KV1x := Lib.hid (fun W (h : Ints W (.slice a1 cs1.length c1) cs1) => mValue_calls z1 m1 _ cs1 g1 W h (by omega))
  rw [hA, hy0] at KV0x
  rw [hB, hy1] at KV1x
  have G0 := Lib.hid (GSt.new z0 m0 z1 m1 h0 h1)
  clear h0 h1 hl0 hl1 hA hy0 hB hy1
  go_enter Try.func5, Try.ntmps5
  go_wp2_with fail
  refine (KV0x.out _ G0.out.2.1).mono ?_
  rintro e w1 ⟨rfl, hB1⟩
  have G1 := Lib.hid (G0.out.below hB1)
  clear hB1
  obtain ⟨p0, p1, p2, _⟩ := G1.out.2.2.2.1.three
  obtain ⟨q0, q1, q2, _⟩ := G1.out.2.2.2.2.three
  go_wp2_with fail
  clear p0 p1 p2 q0 q1 q2
  refine (KV1x.out _ G1.out.2.2.1).mono ?_
  rintro e w2 ⟨rfl, hB2⟩
  have G2 := Lib.hid (G1.out.below hB2)
  clear hB2
  obtain ⟨p0, p1, p2, _⟩ := G2.out.2.2.2.1.three
  obtain ⟨q0, q1, q2, _⟩ := G2.out.2.2.2.2.three
  go_wp2_with fail
  clear p0 p1 p2 q0 q1 q2
  refine (mKnown_calls _).mono ?_
  rintro e w5 ⟨rfl, hB5⟩
  go_wp2_with fail
  go_ret
  exact ⟨rfl, below2 G2.out.1 hB5⟩

set_option maxHeartbeats 8000000 in
theorem metaFront_less (z0 m0 : Int) (a0 : Option Addr) (c0 : Nat) (cs0 : List Int) (z1 m1 : Int) (a1 : Option Addr) (c1 : Nat) (cs1 : List Int) (w : World) (h0 : Ints w (.slice a0 cs0.length c0) cs0) (h1 : Ints w (.slice a1 cs1.length c1) cs1) (g0 : Bool) (g1 : Bool) (hl0 : cs0.length ≤ 40) (hl1 : cs1.length ≤ 40) (A B : List UInt8) (y0 y1 : Int) (hA : valM z0 m0 cs0 g0 = A) (hy0 : valMe z0 m0 cs0 g0 = y0) (hB : valM z1 m1 cs1 g1 = B) (hy1 : valMe z1 m1 cs1 g1 = y1) (hz0 : (y0 != 0) = false) (hz1 : (y1 != 0) = false) (hd : decide (B.length < A.length) = true) :
    Calls Try.prog 5 #[MV z0 m0 (.slice a0 cs0.length c0), MV z1 m1 (.slice a1 cs1.length c1), .bool g0, .bool g1] w fun e w' => e = .returned (.bool true) ∧ Below w.heap.size w w' := by
  have hd0 : decide ((40 : Int) < cs0.length) = false := by rw [decide_eq_false_iff_not]; omega
  have hd1 : decide ((40 : Int) < cs1.length) = false := by rw [decide_eq_false_iff_not]; omega
  have KV0x := Lib.hid (fun W (h : Ints W (.slice a0 cs0.length c0) cs0) => mValue_calls z0 m0 _ cs0 g0 W h (by omega))
  have KV1x := Lib.hid (fun W (h : Ints W (.slice a1 cs1.length c1) cs1) => mValue_calls z1 m1 _ cs1 g1 W h (by omega))
  rw [hA, hy0] at KV0x
  rw [hB, hy1] at KV1x
  have G0 := Lib.hid (GSt.new z0 m0 z1 m1 h0 h1)
  clear h0 h1 hl0 hl1 hA hy0 hB hy1
  go_enter Try.func5, Try.ntmps5
  go_wp2_with fail
  refine (KV0x.out _ G0.out.2.1).mono ?_
  rintro e w1 ⟨rfl, hB1⟩
  have G1 := Lib.hid (G0.out.below hB1)
  clear hB1
  obtain ⟨p0, p1, p2, _⟩ := G1.out.2.2.2.1.three
  obtain ⟨q0, q1, q2, _⟩ := G1.out.2.2.2.2.three
  go_wp2_with fail
  clear p0 p1 p2 q0 q1 q2
  refine (KV1x.out _ G1.out.2.2.1).mono ?_
  rintro e w2 ⟨rfl, hB2⟩
  have G2 := Lib.hid (G1.out.below hB2)
  clear hB2
  obtain ⟨p0, p1, p2, _⟩ := G2.out.2.2.2.1.three
  obtain ⟨q0, q1, q2, _⟩ := G2.out.2.2.2.2.three
  go_wp2_with fail
  clear p0 p1 p2 q0 q1 q2
  refine (mKnown_calls _).mono ?_
  rintro e w5 ⟨rfl, hB5⟩
  go_wp2_with fail
  go_ret
  exact ⟨rfl, below2 G2.out.1 hB5⟩

set_option maxHeartbeats 8000000 in
theorem metaFront_tt (z0 m0 : Int) (a0 : Option Addr) (c0 : Nat) (cs0 : List Int) (z1 m1 : Int) (a1 : Option Addr) (c1 : Nat) (cs1 : List Int) (w : World) (h0 : Ints w (.slice a0 cs0.length c0) cs0) (h1 : Ints w (.slice a1 cs1.length c1) cs1) (hl0 : cs0.length ≤ 40) (hl1 : cs1.length ≤ 40) (A B : List UInt8) (y0 y1 : Int) (hA : valM z0 m0 cs0 true = A) (hy0 : valMe z0 m0 cs0 true = y0) (hB : valM z1 m1 cs1 true = B) (hy1 : valMe z1 m1 cs1 true = y1) (hz0 : (y0 != 0) = false) (hz1 : (y1 != 0) = false) (hd : decide (B.length < A.length) = false) (hle : A.length ≤ B.length) (hp : (B.take A.length == A) = true) :
    Calls Try.prog 5 #[MV z0 m0 (.slice a0 cs0.length c0), MV z1 m1 (.slice a1 cs1.length c1), .bool true, .bool true] w fun e w' => e = .returned (.bool true) ∧ Below w.heap.size w w' := by
  have hd0 : decide ((40 : Int) < cs0.length) = false := by rw [decide_eq_false_iff_not]; omega
  have hd1 : decide ((40 : Int) < cs1.length) = false := by rw [decide_eq_false_iff_not]; omega
  have KV0x := Lib.hid (fun W (h : Ints W (.slice a0 cs0.length c0) cs0) => mValue_calls z0 m0 _ cs0 true W h (by omega))
  have KV1x := Lib.hid (fun W (h : Ints W (.slice a1 cs1.length c1) cs1) => mValue_calls z1 m1 _ cs1 true W h (by omega))
  rw [hA, hy0] at KV0x
  rw [hB, hy1] at KV1x
  have G0 := Lib.hid (GSt.new z0 m0 z1 m1 h0 h1)
  clear h0 h1 hl0 hl1 hA hy0 hB hy1
  go_enter Try.func5, Try.ntmps5
  go_wp2_with fail
  refine (KV0x.out _ G0.out.2.1).mono ?_
  rintro e w1 ⟨rfl, hB1⟩
  have G1 := Lib.hid (G0.out.below hB1)
  clear hB1
  obtain ⟨p0, p1, p2, _⟩ := G1.out.2.2.2.1.three
  obtain ⟨q0, q1, q2, _⟩ := G1.out.2.2.2.2.three
  go_wp2_with fail
  clear p0 p1 p2 q0 q1 q2
  refine (KV1x.out _ G1.out.2.2.1).mono ?_
  rintro e w2 ⟨rfl, hB2⟩
  have G2 := Lib.hid (G1.out.below hB2)
  clear hB2
  obtain ⟨p0, p1, p2, _⟩ := G2.out.2.2.2.1.three
  obtain ⟨q0, q1, q2, _⟩ := G2.out.2.2.2.2.three
  go_upto_region 7 with fail
  clear p0 p1 p2 q0 q1 q2
  have HS : Hid (∀ W, Below w2.heap.size w2 W → W.cell? ⟨w.heap.size, 0, none⟩ = some (.int .i64 z0) ∧ W.cell? ⟨w.heap.size, 1, none⟩ = some (.int .i64 m0) ∧ W.cell? ⟨w.heap.size, 2, none⟩ = some (.slice a0 cs0.length c0) ∧ W.cell? ⟨w.heap.size + 1, 0, none⟩ = some (.int .i64 z1) ∧ W.cell? ⟨w.heap.size + 1, 1, none⟩ = some (.int .i64 m1) ∧ W.cell? ⟨w.heap.size + 1, 2, none⟩ = some (.slice a1 cs1.length c1)) := by
    obtain ⟨p0, p1, p2, _⟩ := G2.out.2.2.2.1.three
    obtain ⟨q0, q1, q2, _⟩ := G2.out.2.2.2.2.three
    exact Lib.hid (fun W hB => ⟨look_below hB p0, look_below hB p1, look_below hB p2, look_below hB q0, look_below hB q1, look_below hB q2⟩)
  have hbr := drew_below w2
  refine wp_region_held_drew (S := fun W => W.cell? ⟨w.heap.size, 0, none⟩ = some (.int .i64 z0) ∧ W.cell? ⟨w.heap.size, 1, none⟩ = some (.int .i64 m0) ∧ W.cell? ⟨w.heap.size, 2, none⟩ = some (.slice a0 cs0.length c0) ∧ W.cell? ⟨w.heap.size + 1, 0, none⟩ = some (.int .i64 z1) ∧ W.cell? ⟨w.heap.size + 1, 1, none⟩ = some (.int .i64 m1) ∧ W.cell? ⟨w.heap.size + 1, 2, none⟩ = some (.slice a1 cs1.length c1)) (by kernel_rfl) (HS.out _ hbr) (fun hHeld => ?_)
  refine wpAnyH_ready (rs := [0]) (by kernel_rfl) (by simp) ?_
  refine AllReadyH.cons (o := ⟨_, _, _, _, _, _⟩) rfl (fun K hK => ?_) AllReadyH.nil
  go_simp
  (go_at_call 17; refine (mKnown_calls _).mono ?_; rintro e w3 ⟨rfl, hB3⟩; have hbr := below2 hbr hB3)
  refine hK.out _ _ (HS.out _ hbr) (fun hHeld => ?_)
  clear hK K
  try simp only [Act.put, List.setIfInBounds_toArray, List.set_cons_zero, List.set_cons_succ]
  refine wpAnyH_take (i := 1) (oi := ⟨_, _, _, _, _, _⟩) (v := ?_) rfl (by kernel_rfl) (by kernel_rfl) (by kernel_rfl) (fun _ _ _ h => h) (Or.inl ⟨by rfl, ?_⟩) hHeld ?_
  rotate_left
  · (intro w hSw; (try dsimp only at hSw); go_simp; try with_reducible rfl)
  try simp only [Act.put, List.setIfInBounds_toArray, List.set_cons_zero, List.set_cons_succ]
  refine wpAnyH_take (i := 2) (oi := ⟨_, _, _, _, _, _⟩) (v := ?_) rfl (by kernel_rfl) (by kernel_rfl) (by kernel_rfl) (fun _ _ _ h => h) (Or.inl ⟨by rfl, ?_⟩) hHeld ?_
  rotate_left
  · (intro w hSw; (try dsimp only at hSw); go_simp; try with_reducible rfl)
  try simp only [Act.put, List.setIfInBounds_toArray, List.set_cons_zero, List.set_cons_succ]
  refine wpAnyH_take (i := 3) (oi := ⟨_, _, _, _, _, _⟩) (v := ?_) rfl (by kernel_rfl) (by kernel_rfl) (by kernel_rfl) (fun _ _ _ h => h) (Or.inl ⟨by rfl, ?_⟩) hHeld ?_
  rotate_left
  · (intro w hSw; (try dsimp only at hSw); go_simp; try with_reducible rfl)
  try simp only [Act.put, List.setIfInBounds_toArray, List.set_cons_zero, List.set_cons_succ]
  refine wpAnyH_take (i := 4) (oi := ⟨_, _, _, _, _, _⟩) (v := ?_) rfl (by kernel_rfl) (by kernel_rfl) (by kernel_rfl) (fun _ _ _ h => h) (Or.inl ⟨by rfl, ?_⟩) hHeld ?_
  rotate_left
  · (intro w hSw; (try dsimp only at hSw); go_simp; try with_reducible rfl)
  try simp only [Act.put, List.setIfInBounds_toArray, List.set_cons_zero, List.set_cons_succ]
  refine wpAnyH_take (i := 5) (oi := ⟨_, _, _, _, _, _⟩) (v := ?_) rfl (by kernel_rfl) (by kernel_rfl) (by kernel_rfl) (fun _ _ _ h => h) (Or.inl ⟨by rfl, ?_⟩) hHeld ?_
  rotate_left
  · (intro w hSw; (try dsimp only at hSw); go_simp; try with_reducible rfl)
  try simp only [Act.put, List.setIfInBounds_toArray, List.set_cons_zero, List.set_cons_succ]
  refine wpAnyH_take (i := 6) (oi := ⟨_, _, _, _, _, _⟩) (v := ?_) rfl (by kernel_rfl) (by kernel_rfl) (by kernel_rfl) (fun _ _ _ h => h) (Or.inl ⟨by rfl, ?_⟩) hHeld ?_
  rotate_left
  · (intro w hSw; (try dsimp only at hSw); go_simp; try with_reducible rfl)
  try simp only [Act.put, List.setIfInBounds_toArray, List.set_cons_zero, List.set_cons_succ]
  refine wpAnyH_take (i := 7) (oi := ⟨_, _, _, _, _, _⟩) (v := ?_) rfl (by kernel_rfl) (by kernel_rfl) (by kernel_rfl) (fun _ _ _ h => h) (Or.inl ⟨by rfl, ?_⟩) hHeld ?_
  rotate_left
  · (intro w hSw; (try dsimp only at hSw); go_simp; try with_reducible rfl)
  try simp only [Act.put, List.setIfInBounds_toArray, List.set_cons_zero, List.set_cons_succ]
  refine wpAnyH_take (i := 8) (oi := ⟨_, _, _, _, _, _⟩) (v := ?_) rfl (by kernel_rfl) (by kernel_rfl) (by kernel_rfl) (fun _ _ _ h => h) (Or.inl ⟨by rfl, ?_⟩) hHeld ?_
  rotate_left
  · (intro w hSw; (try dsimp only at hSw); go_simp; try with_reducible rfl)
  try simp only [Act.put, List.setIfInBounds_toArray, List.set_cons_zero, List.set_cons_succ]
  refine wpAnyH_take (i := 9) (oi := ⟨_, _, _, _, _, _⟩) (v := ?_) rfl (by kernel_rfl) (by kernel_rfl) (by kernel_rfl) (fun _ _ _ h => h) (Or.inl ⟨by rfl, ?_⟩) hHeld ?_
  rotate_left
  · (intro w hSw; (try dsimp only at hSw); go_simp; try with_reducible rfl)
  try simp only [Act.put, List.setIfInBounds_toArray, List.set_cons_zero, List.set_cons_succ]
  refine wpAnyH_take (i := 10) (oi := ⟨_, _, _, _, _, _⟩) (v := ?_) rfl (by kernel_rfl) (by kernel_rfl) (by kernel_rfl) (fun _ _ _ h => h) (Or.inl ⟨by rfl, ?_⟩) hHeld ?_
  rotate_left
  · (intro w hSw; (try dsimp only at hSw); go_simp; try with_reducible rfl)
  try simp only [Act.put, List.setIfInBounds_toArray, List.set_cons_zero, List.set_cons_succ]
  refine wpAnyH_take (i := 11) (oi := ⟨_, _, _, _, _, _⟩) (v := ?_) rfl (by kernel_rfl) (by kernel_rfl) (by kernel_rfl) (fun _ _ _ h => h) (Or.inl ⟨by rfl, ?_⟩) hHeld ?_
  rotate_left
  · (intro w hSw; (try dsimp only at hSw); go_simp; try with_reducible rfl)
  try simp only [Act.put, List.setIfInBounds_toArray, List.set_cons_zero, List.set_cons_succ]
  refine wpAnyH_take (i := 12) (oi := ⟨_, _, _, _, _, _⟩) (v := ?_) rfl (by kernel_rfl) (by kernel_rfl) (by kernel_rfl) (fun _ _ _ h => h) (Or.inl ⟨by rfl, ?_⟩) hHeld ?_
  rotate_left
  · (intro w hSw; (try dsimp only at hSw); go_simp; try with_reducible rfl)
  try simp only [Act.put, List.setIfInBounds_toArray, List.set_cons_zero, List.set_cons_succ]
  refine wpAnyH_take (i := 13) (oi := ⟨_, _, _, _, _, _⟩) (v := undef) rfl (by kernel_rfl) (by kernel_rfl) (by kernel_rfl) (fun _ _ _ h => h) (Or.inr ⟨by rfl, rfl⟩) hHeld ?_
  try simp only [Act.put, List.setIfInBounds_toArray, List.set_cons_zero, List.set_cons_succ]
  refine wpAnyH_take (i := 14) (oi := ⟨_, _, _, _, _, _⟩) (v := undef) rfl (by kernel_rfl) (by kernel_rfl) (by kernel_rfl) (fun _ _ _ h => h) (Or.inr ⟨by rfl, rfl⟩) hHeld ?_
  try simp only [Act.put, List.setIfInBounds_toArray, List.set_cons_zero, List.set_cons_succ]
  refine wpAnyH_take (i := 15) (oi := ⟨_, _, _, _, _, _⟩) (v := undef) rfl (by kernel_rfl) (by kernel_rfl) (by kernel_rfl) (fun _ _ _ h => h) (Or.inr ⟨by rfl, rfl⟩) hHeld ?_
  try simp only [Act.put, List.setIfInBounds_toArray, List.set_cons_zero, List.set_cons_succ]
  refine wpAnyH_take (i := 16) (oi := ⟨_, _, _, _, _, _⟩) (v := undef) rfl (by kernel_rfl) (by kernel_rfl) (by kernel_rfl) (fun _ _ _ h => h) (Or.inr ⟨by rfl, rfl⟩) hHeld ?_
  try simp only [Act.put, List.setIfInBounds_toArray, List.set_cons_zero, List.set_cons_succ]
  refine wpAnyH_take (i := 17) (oi := ⟨_, _, _, _, _, _⟩) (v := undef) rfl (by kernel_rfl) (by kernel_rfl) (by kernel_rfl) (fun _ _ _ h => h) (Or.inr ⟨by rfl, rfl⟩) hHeld ?_
  try simp only [Act.put, List.setIfInBounds_toArray, List.set_cons_zero, List.set_cons_succ]
  refine wpAnyH_take (i := 18) (oi := ⟨_, _, _, _, _, _⟩) (v := undef) rfl (by kernel_rfl) (by kernel_rfl) (by kernel_rfl) (fun _ _ _ h => h) (Or.inr ⟨by rfl, rfl⟩) hHeld ?_
  try simp only [Act.put, List.setIfInBounds_toArray, List.set_cons_zero, List.set_cons_succ]
  refine wpAnyH_take (i := 19) (oi := ⟨_, _, _, _, _, _⟩) (v := undef) rfl (by kernel_rfl) (by kernel_rfl) (by kernel_rfl) (fun _ _ _ h => h) (Or.inr ⟨by rfl, rfl⟩) hHeld ?_
  try simp only [Act.put, List.setIfInBounds_toArray, List.set_cons_zero, List.set_cons_succ]
  refine wpAnyH_take (i := 20) (oi := ⟨_, _, _, _, _, _⟩) (v := undef) rfl (by kernel_rfl) (by kernel_rfl) (by kernel_rfl) (fun _ _ _ h => h) (Or.inr ⟨by rfl, rfl⟩) hHeld ?_
  try simp only [Act.put, List.setIfInBounds_toArray, List.set_cons_zero, List.set_cons_succ]
  refine wpAnyH_take (i := 21) (oi := ⟨_, _, _, _, _, _⟩) (v := undef) rfl (by kernel_rfl) (by kernel_rfl) (by kernel_rfl) (fun _ _ _ h => h) (Or.inr ⟨by rfl, rfl⟩) hHeld ?_
  try simp only [Act.put, List.setIfInBounds_toArray, List.set_cons_zero, List.set_cons_succ]
  refine wpAnyH_ready (rs := [22]) (by kernel_rfl) (by simp) ?_
  refine AllReadyH.cons (o := ⟨_, _, _, _, _, _⟩) rfl (fun K hK => ?_) AllReadyH.nil
  go_simp
  refine hK.out _ _ (HS.out _ hbr) (fun hHeld => ?_)
  clear hK K
  try simp only [Act.put, List.setIfInBounds_toArray, List.set_cons_zero, List.set_cons_succ]
  refine wpAnyH_take (i := 23) (oi := ⟨_, _, _, _, _, _⟩) (v := undef) rfl (by kernel_rfl) (by kernel_rfl) (by kernel_rfl) (fun _ _ _ h => h) (Or.inr ⟨by rfl, rfl⟩) hHeld ?_
  try simp only [Act.put, List.setIfInBounds_toArray, List.set_cons_zero, List.set_cons_succ]
  refine wpAnyH_take (i := 24) (oi := ⟨_, _, _, _, _, _⟩) (v := ?_) rfl (by kernel_rfl) (by kernel_rfl) (by kernel_rfl) (fun _ _ _ h => h) (Or.inl ⟨by rfl, ?_⟩) hHeld ?_
  rotate_left
  · (intro w hSw; (try dsimp only at hSw); go_simp; try with_reducible rfl)
  try simp only [Act.put, List.setIfInBounds_toArray, List.set_cons_zero, List.set_cons_succ]
  refine wpAnyH_take (i := 25) (oi := ⟨_, _, _, _, _, _⟩) (v := ?_) rfl (by kernel_rfl) (by kernel_rfl) (by kernel_rfl) (fun _ _ _ h => h) (Or.inl ⟨by rfl, ?_⟩) hHeld ?_
  rotate_left
  · (intro w hSw; (try dsimp only at hSw); go_simp; try with_reducible rfl)
  try simp only [Act.put, List.setIfInBounds_toArray, List.set_cons_zero, List.set_cons_succ]
  refine wpAnyH_take (i := 26) (oi := ⟨_, _, _, _, _, _⟩) (v := ?_) rfl (by kernel_rfl) (by kernel_rfl) (by kernel_rfl) (fun _ _ _ h => h) (Or.inl ⟨by rfl, ?_⟩) hHeld ?_
  rotate_left
  · (intro w hSw; (try dsimp only at hSw); go_simp; try with_reducible rfl)
  try simp only [Act.put, List.setIfInBounds_toArray, List.set_cons_zero, List.set_cons_succ]
  refine wpAnyH_take (i := 27) (oi := ⟨_, _, _, _, _, _⟩) (v := ?_) rfl (by kernel_rfl) (by kernel_rfl) (by kernel_rfl) (fun _ _ _ h => h) (Or.inl ⟨by rfl, ?_⟩) hHeld ?_
  rotate_left
  · (intro w hSw; (try dsimp only at hSw); go_simp; try with_reducible rfl)
  try simp only [Act.put, List.setIfInBounds_toArray, List.set_cons_zero, List.set_cons_succ]
  refine wpAnyH_done (by kernel_rfl) ?_ _
  go_wp2_with fail
  go_ret
  exact ⟨rfl, below2 G2.out.1 hbr⟩

set_option maxHeartbeats 8000000 in
theorem metaFront_tf (z0 m0 : Int) (a0 : Option Addr) (c0 : Nat) (cs0 : List Int) (z1 m1 : Int) (a1 : Option Addr) (c1 : Nat) (cs1 : List Int) (w : World) (h0 : Ints w (.slice a0 cs0.length c0) cs0) (h1 : Ints w (.slice a1 cs1.length c1) cs1) (hl0 : cs0.length ≤ 40) (hl1 : cs1.length ≤ 40) (A B : List UInt8) (y0 y1 : Int) (hA : valM z0 m0 cs0 true = A) (hy0 : valMe z0 m0 cs0 true = y0) (hB : valM z1 m1 cs1 false = B) (hy1 : valMe z1 m1 cs1 false = y1) (hz0 : (y0 != 0) = false) (hz1 : (y1 != 0) = false) (hd : decide (B.length < A.length) = false) (hle : A.length ≤ B.length) (hp : (B.take A.length == A) = false) :
    Calls Try.prog 5 #[MV z0 m0 (.slice a0 cs0.length c0), MV z1 m1 (.slice a1 cs1.length c1), .bool true, .bool false] w fun e w' => e = .returned (.bool true) ∧ Below w.heap.size w w' := by
  have hd0 : decide ((40 : Int) < cs0.length) = false := by rw [decide_eq_false_iff_not]; omega
  have hd1 : decide ((40 : Int) < cs1.length) = false := by rw [decide_eq_false_iff_not]; omega
  have KV0x := Lib.hid (fun W (h : Ints W (.slice a0 cs0.length c0) cs0) => mValue_calls z0 m0 _ cs0 true W h (by omega))
  have KV1x := Lib.hid (fun W (h : Ints W (.slice a1 cs1.length c1) cs1) => mValue_calls z1 m1 _ cs1 false W h (by omega))
  rw [hA, hy0] at KV0x
  rw [hB, hy1] at KV1x
  have G0 := Lib.hid (GSt.new z0 m0 z1 m1 h0 h1)
  clear h0 h1 hl0 hl1 hA hy0 hB hy1
  go_enter Try.func5, Try.ntmps5
  go_wp2_with fail
  refine (KV0x.out _ G0.out.2.1).mono ?_
  rintro e w1 ⟨rfl, hB1⟩
  have G1 := Lib.hid (G0.out.below hB1)
  clear hB1
  obtain ⟨p0, p1, p2, _⟩ := G1.out.2.2.2.1.three
  obtain ⟨q0, q1, q2, _⟩ := G1.out.2.2.2.2.three
  go_wp2_with fail
  clear p0 p1 p2 q0 q1 q2
  refine (KV1x.out _ G1.out.2.2.1).mono ?_
  rintro e w2 ⟨rfl, hB2⟩
  have G2 := Lib.hid (G1.out.below hB2)
  clear hB2
  obtain ⟨p0, p1, p2, _⟩ := G2.out.2.2.2.1.three
  obtain ⟨q0, q1, q2, _⟩ := G2.out.2.2.2.2.three
  go_upto_region 7 with fail
  clear p0 p1 p2 q0 q1 q2
  have HS : Hid (∀ W, Below w2.heap.size w2 W → W.cell? ⟨w.heap.size, 0, none⟩ = some (.int .i64 z0) ∧ W.cell? ⟨w.heap.size, 1, none⟩ = some (.int .i64 m0) ∧ W.cell? ⟨w.heap.size, 2, none⟩ = some (.slice a0 cs0.length c0) ∧ W.cell? ⟨w.heap.size + 1, 0, none⟩ = some (.int .i64 z1) ∧ W.cell? ⟨w.heap.size + 1, 1, none⟩ = some (.int .i64 m1) ∧ W.cell? ⟨w.heap.size + 1, 2, none⟩ = some (.slice a1 cs1.length c1)) := by
    obtain ⟨p0, p1, p2, _⟩ := G2.out.2.2.2.1.three
    obtain ⟨q0, q1, q2, _⟩ := G2.out.2.2.2.2.three
    exact Lib.hid (fun W hB => ⟨look_below hB p0, look_below hB p1, look_below hB p2, look_below hB q0, look_below hB q1, look_below hB q2⟩)
  have hbr := drew_below w2
  refine wp_region_held_drew (S := fun W => W.cell? ⟨w.heap.size, 0, none⟩ = some (.int .i64 z0) ∧ W.cell? ⟨w.heap.size, 1, none⟩ = some (.int .i64 m0) ∧ W.cell? ⟨w.heap.size, 2, none⟩ = some (.slice a0 cs0.length c0) ∧ W.cell? ⟨w.heap.size + 1, 0, none⟩ = some (.int .i64 z1) ∧ W.cell? ⟨w.heap.size + 1, 1, none⟩ = some (.int .i64 m1) ∧ W.cell? ⟨w.heap.size + 1, 2, none⟩ = some (.slice a1 cs1.length c1)) (by kernel_rfl) (HS.out _ hbr) (fun hHeld => ?_)
  refine wpAnyH_ready (rs := [0]) (by kernel_rfl) (by simp) ?_
  refine AllReadyH.cons (o := ⟨_, _, _, _, _, _⟩) rfl (fun K hK => ?_) AllReadyH.nil
  go_simp
  (go_at_call 17; refine (mKnown_calls _).mono ?_; rintro e w3 ⟨rfl, hB3⟩; have hbr := below2 hbr hB3)
  refine hK.out _ _ (HS.out _ hbr) (fun hHeld => ?_)
  clear hK K
  try simp only [Act.put, List.setIfInBounds_toArray, List.set_cons_zero, List.set_cons_succ]
  refine wpAnyH_take (i := 1) (oi := ⟨_, _, _, _, _, _⟩) (v := ?_) rfl (by kernel_rfl) (by kernel_rfl) (by kernel_rfl) (fun _ _ _ h => h) (Or.inl ⟨by rfl, ?_⟩) hHeld ?_
  rotate_left
  · (intro w hSw; (try dsimp only at hSw); go_simp; try with_reducible rfl)
  try simp only [Act.put, List.setIfInBounds_toArray, List.set_cons_zero, List.set_cons_succ]
  refine wpAnyH_take (i := 2) (oi := ⟨_, _, _, _, _, _⟩) (v := ?_) rfl (by kernel_rfl) (by kernel_rfl) (by kernel_rfl) (fun _ _ _ h => h) (Or.inl ⟨by rfl, ?_⟩) hHeld ?_
  rotate_left
  · (intro w hSw; (try dsimp only at hSw); go_simp; try with_reducible rfl)
  try simp only [Act.put, List.setIfInBounds_toArray, List.set_cons_zero, List.set_cons_succ]
  refine wpAnyH_take (i := 3) (oi := ⟨_, _, _, _, _, _⟩) (v := ?_) rfl (by kernel_rfl) (by kernel_rfl) (by kernel_rfl) (fun _ _ _ h => h) (Or.inl ⟨by rfl, ?_⟩) hHeld ?_
  rotate_left
  · (intro w hSw; (try dsimp only at hSw); go_simp; try with_reducible rfl)
  try simp only [Act.put, List.setIfInBounds_toArray, List.set_cons_zero, List.set_cons_succ]
  refine wpAnyH_take (i := 4) (oi := ⟨_, _, _, _, _, _⟩) (v := ?_) rfl (by kernel_rfl) (by kernel_rfl) (by kernel_rfl) (fun _ _ _ h => h) (Or.inl ⟨by rfl, ?_⟩) hHeld ?_
  rotate_left
  · (intro w hSw; (try dsimp only at hSw); go_simp; try with_reducible rfl)
  try simp only [Act.put, List.setIfInBounds_toArray, List.set_cons_zero, List.set_cons_succ]
  refine wpAnyH_take (i := 5) (oi := ⟨_, _, _, _, _, _⟩) (v := ?_) rfl (by kernel_rfl) (by kernel_rfl) (by kernel_rfl) (fun _ _ _ h => h) (Or.inl ⟨by rfl, ?_⟩) hHeld ?_
  rotate_left
  · (intro w hSw; (try dsimp only at hSw); go_simp; try with_reducible rfl)
  try simp only [Act.put, List.setIfInBounds_toArray, List.set_cons_zero, List.set_cons_succ]
  refine wpAnyH_take (i := 6) (oi := ⟨_, _, _, _, _, _⟩) (v := ?_) rfl (by kernel_rfl) (by kernel_rfl) (by kernel_rfl) (fun _ _ _ h => h) (Or.inl ⟨by rfl, ?_⟩) hHeld ?_
  rotate_left
  · (intro w hSw; (try dsimp only at hSw); go_simp; try with_reducible rfl)
  try simp only [Act.put, List.setIfInBounds_toArray, List.set_cons_zero, List.set_cons_succ]
  refine wpAnyH_take (i := 7) (oi := ⟨_, _, _, _, _, _⟩) (v := ?_) rfl (by kernel_rfl) (by kernel_rfl) (by kernel_rfl) (fun _ _ _ h => h) (Or.inl ⟨by rfl, ?_⟩) hHeld ?_
  rotate_left
  · (intro w hSw; (try dsimp only at hSw); go_simp; try with_reducible rfl)
  try simp only [Act.put, List.setIfInBounds_toArray, List.set_cons_zero, List.set_cons_succ]
  refine wpAnyH_take (i := 8) (oi := ⟨_, _, _, _, _, _⟩) (v := ?_) rfl (by kernel_rfl) (by kernel_rfl) (by kernel_rfl) (fun _ _ _ h => h) (Or.inl ⟨by rfl, ?_⟩) hHeld ?_
  rotate_left
  · (intro w hSw; (try dsimp only at hSw); go_simp; try with_reducible rfl)
  try simp only [Act.put, List.setIfInBounds_toArray, List.set_cons_zero, List.set_cons_succ]
  refine wpAnyH_take (i := 9) (oi := ⟨_, _, _, _, _, _⟩) (v := ?_) rfl (by kernel_rfl) (by kernel_rfl) (by kernel_rfl) (fun _ _ _ h => h) (Or.inl ⟨by rfl, ?_⟩) hHeld ?_
  rotate_left
  · (intro w hSw; (try dsimp only at hSw); go_simp; try with_reducible rfl)
  try simp only [Act.put, List.setIfInBounds_toArray, List.set_cons_zero, List.set_cons_succ]
  refine wpAnyH_take (i := 10) (oi := ⟨_, _, _, _, _, _⟩) (v := ?_) rfl (by kernel_rfl) (by kernel_rfl) (by kernel_rfl) (fun _ _ _ h => h) (Or.inl ⟨by rfl, ?_⟩) hHeld ?_
  rotate_left
  · (intro w hSw; (try dsimp only at hSw); go_simp; try with_reducible rfl)
  try simp only [Act.put, List.setIfInBounds_toArray, List.set_cons_zero, List.set_cons_succ]
  refine wpAnyH_take (i := 11) (oi := ⟨_, _, _, _, _, _⟩) (v := ?_) rfl (by kernel_rfl) (by kernel_rfl) (by kernel_rfl) (fun _ _ _ h => h) (Or.inl ⟨by rfl, ?_⟩) hHeld ?_
  rotate_left
  · (intro w hSw; (try dsimp only at hSw); go_simp; try with_reducible rfl)
  try simp only [Act.put, List.setIfInBounds_toArray, List.set_cons_zero, List.set_cons_succ]
  refine wpAnyH_take (i := 12) (oi := ⟨_, _, _, _, _, _⟩) (v := ?_) rfl (by kernel_rfl) (by kernel_rfl) (by kernel_rfl) (fun _ _ _ h => h) (Or.inl ⟨by rfl, ?_⟩) hHeld ?_
  rotate_left
  · (intro w hSw; (try dsimp only at hSw); go_simp; try with_reducible rfl)
  try simp only [Act.put, List.setIfInBounds_toArray, List.set_cons_zero, List.set_cons_succ]
  refine wpAnyH_take (i := 13) (oi := ⟨_, _, _, _, _, _⟩) (v := ?_) rfl (by kernel_rfl) (by kernel_rfl) (by kernel_rfl) (fun _ _ _ h => h) (Or.inl ⟨by rfl, ?_⟩) hHeld ?_
  rotate_left
  · (intro w hSw; (try dsimp only at hSw); go_simp; try with_reducible rfl)
  try simp only [Act.put, List.setIfInBounds_toArray, List.set_cons_zero, List.set_cons_succ]
  refine wpAnyH_take (i := 14) (oi := ⟨_, _, _, _, _, _⟩) (v := ?_) rfl (by kernel_rfl) (by kernel_rfl) (by kernel_rfl) (fun _ _ _ h => h) (Or.inl ⟨by rfl, ?_⟩) hHeld ?_
  rotate_left
  · (intro w hSw; (try dsimp only at hSw); go_simp; try with_reducible rfl)
  try simp only [Act.put, List.setIfInBounds_toArray, List.set_cons_zero, List.set_cons_succ]
  refine wpAnyH_take (i := 15) (oi := ⟨_, _, _, _, _, _⟩) (v := ?_) rfl (by kernel_rfl) (by kernel_rfl) (by kernel_rfl) (fun _ _ _ h => h) (Or.inl ⟨by rfl, ?_⟩) hHeld ?_
  rotate_left
  · (intro w hSw; (try dsimp only at hSw); go_simp; try with_reducible rfl)
  try simp only [Act.put, List.setIfInBounds_toArray, List.set_cons_zero, List.set_cons_succ]
  refine wpAnyH_take (i := 16) (oi := ⟨_, _, _, _, _, _⟩) (v := undef) rfl (by kernel_rfl) (by kernel_rfl) (by kernel_rfl) (fun _ _ _ h => h) (Or.inr ⟨by rfl, rfl⟩) hHeld ?_
  try simp only [Act.put, List.setIfInBounds_toArray, List.set_cons_zero, List.set_cons_succ]
  refine wpAnyH_take (i := 17) (oi := ⟨_, _, _, _, _, _⟩) (v := undef) rfl (by kernel_rfl) (by kernel_rfl) (by kernel_rfl) (fun _ _ _ h => h) (Or.inr ⟨by rfl, rfl⟩) hHeld ?_
  try simp only [Act.put, List.setIfInBounds_toArray, List.set_cons_zero, List.set_cons_succ]
  refine wpAnyH_take (i := 18) (oi := ⟨_, _, _, _, _, _⟩) (v := ?_) rfl (by kernel_rfl) (by kernel_rfl) (by kernel_rfl) (fun _ _ _ h => h) (Or.inl ⟨by rfl, ?_⟩) hHeld ?_
  rotate_left
  · (intro w hSw; (try dsimp only at hSw); go_simp; try with_reducible rfl)
  try simp only [Act.put, List.setIfInBounds_toArray, List.set_cons_zero, List.set_cons_succ]
  refine wpAnyH_take (i := 19) (oi := ⟨_, _, _, _, _, _⟩) (v := ?_) rfl (by kernel_rfl) (by kernel_rfl) (by kernel_rfl) (fun _ _ _ h => h) (Or.inl ⟨by rfl, ?_⟩) hHeld ?_
  rotate_left
  · (intro w hSw; (try dsimp only at hSw); go_simp; try with_reducible rfl)
  try simp only [Act.put, List.setIfInBounds_toArray, List.set_cons_zero, List.set_cons_succ]
  refine wpAnyH_take (i := 20) (oi := ⟨_, _, _, _, _, _⟩) (v := undef) rfl (by kernel_rfl) (by kernel_rfl) (by kernel_rfl) (fun _ _ _ h => h) (Or.inr ⟨by rfl, rfl⟩) hHeld ?_
  try simp only [Act.put, List.setIfInBounds_toArray, List.set_cons_zero, List.set_cons_succ]
  refine wpAnyH_take (i := 21) (oi := ⟨_, _, _, _, _, _⟩) (v := undef) rfl (by kernel_rfl) (by kernel_rfl) (by kernel_rfl) (fun _ _ _ h => h) (Or.inr ⟨by rfl, rfl⟩) hHeld ?_
  try simp only [Act.put, List.setIfInBounds_toArray, List.set_cons_zero, List.set_cons_succ]
  refine wpAnyH_ready (rs := [22]) (by kernel_rfl) (by simp) ?_
  refine AllReadyH.cons (o := ⟨_, _, _, _, _, _⟩) rfl (fun K hK => ?_) AllReadyH.nil
  go_simp
  refine hK.out _ _ (HS.out _ hbr) (fun hHeld => ?_)
  clear hK K
  try simp only [Act.put, List.setIfInBounds_toArray, List.set_cons_zero, List.set_cons_succ]
  refine wpAnyH_take (i := 23) (oi := ⟨_, _, _, _, _, _⟩) (v := ?_) rfl (by kernel_rfl) (by kernel_rfl) (by kernel_rfl) (fun _ _ _ h => h) (Or.inl ⟨by rfl, ?_⟩) hHeld ?_
  rotate_left
  · (intro w hSw; (try dsimp only at hSw); go_simp; try with_reducible rfl)
  try simp only [Act.put, List.setIfInBounds_toArray, List.set_cons_zero, List.set_cons_succ]
  refine wpAnyH_take (i := 24) (oi := ⟨_, _, _, _, _, _⟩) (v := ?_) rfl (by kernel_rfl) (by kernel_rfl) (by kernel_rfl) (fun _ _ _ h => h) (Or.inl ⟨by rfl, ?_⟩) hHeld ?_
  rotate_left
  · (intro w hSw; (try dsimp only at hSw); go_simp; try with_reducible rfl)
  try simp only [Act.put, List.setIfInBounds_toArray, List.set_cons_zero, List.set_cons_succ]
  refine wpAnyH_take (i := 25) (oi := ⟨_, _, _, _, _, _⟩) (v := ?_) rfl (by kernel_rfl) (by kernel_rfl) (by kernel_rfl) (fun _ _ _ h => h) (Or.inl ⟨by rfl, ?_⟩) hHeld ?_
  rotate_left
  · (intro w hSw; (try dsimp only at hSw); go_simp; try with_reducible rfl)
  try simp only [Act.put, List.setIfInBounds_toArray, List.set_cons_zero, List.set_cons_succ]
  refine wpAnyH_take (i := 26) (oi := ⟨_, _, _, _, _, _⟩) (v := ?_) rfl (by kernel_rfl) (by kernel_rfl) (by kernel_rfl) (fun _ _ _ h => h) (Or.inl ⟨by rfl, ?_⟩) hHeld ?_
  rotate_left
  · (intro w hSw; (try dsimp only at hSw); go_simp; try with_reducible rfl)
  try simp only [Act.put, List.setIfInBounds_toArray, List.set_cons_zero, List.set_cons_succ]
  refine wpAnyH_take (i := 27) (oi := ⟨_, _, _, _, _, _⟩) (v := ?_) rfl (by kernel_rfl) (by kernel_rfl) (by kernel_rfl) (fun _ _ _ h => h) (Or.inl ⟨by rfl, ?_⟩) hHeld ?_
  rotate_left
  · (intro w hSw; (try dsimp only at hSw); go_simp; try with_reducible rfl)
  try simp only [Act.put, List.setIfInBounds_toArray, List.set_cons_zero, List.set_cons_succ]
  refine wpAnyH_done (by kernel_rfl) ?_ _
  go_wp2_with fail
  go_ret
  exact ⟨rfl, below2 G2.out.1 hbr⟩

set_option maxHeartbeats 8000000 in
theorem metaFront_ff (z0 m0 : Int) (a0 : Option Addr) (c0 : Nat) (cs0 : List Int) (z1 m1 : Int) (a1 : Option Addr) (c1 : Nat) (cs1 : List Int) (w : World) (h0 : Ints w (.slice a0 cs0.length c0) cs0) (h1 : Ints w (.slice a1 cs1.length c1) cs1) (hl0 : cs0.length ≤ 40) (hl1 : cs1.length ≤ 40) (A B : List UInt8) (y0 y1 : Int) (hA : valM z0 m0 cs0 false = A) (hy0 : valMe z0 m0 cs0 false = y0) (hB : valM z1 m1 cs1 false = B) (hy1 : valMe z1 m1 cs1 false = y1) (hz0 : (y0 != 0) = false) (hz1 : (y1 != 0) = false) (hd : decide (B.length < A.length) = false) (hle : A.length ≤ B.length) (q : Bool) (hq : sameM z0 m0 cs0 z1 m1 cs1 = q) (hp : (B.take A.length == A) = q) :
    Calls Try.prog 5 #[MV z0 m0 (.slice a0 cs0.length c0), MV z1 m1 (.slice a1 cs1.length c1), .bool false, .bool false] w fun e w' => e = .returned (.bool true) ∧ Below w.heap.size w w' := by
  have hd0 : decide ((40 : Int) < cs0.length) = false := by rw [decide_eq_false_iff_not]; omega
  have hd1 : decide ((40 : Int) < cs1.length) = false := by rw [decide_eq_false_iff_not]; omega
  have KV0x := Lib.hid (fun W (h : Ints W (.slice a0 cs0.length c0) cs0) => mValue_calls z0 m0 _ cs0 false W h (by omega))
  have KV1x := Lib.hid (fun W (h : Ints W (.slice a1 cs1.length c1) cs1) => mValue_calls z1 m1 _ cs1 false W h (by omega))
  rw [hA, hy0] at KV0x
  rw [hB, hy1] at KV1x
  have KS := Lib.hid (fun W (h : Ints W (.slice a0 cs0.length c0) cs0) (h' : Ints W (.slice a1 cs1.length c1) cs1) => mSame_calls z0 m0 _ cs0 z1 m1 _ cs1 W h h' (by omega))
  rw [hq] at KS
  clear hq
  have G0 := Lib.hid (GSt.new z0 m0 z1 m1 h0 h1)
  clear h0 h1 hl0 hl1 hA hy0 hB hy1
  go_enter Try.func5, Try.ntmps5
  go_wp2_with fail
  refine (KV0x.out _ G0.out.2.1).mono ?_
  rintro e w1 ⟨rfl, hB1⟩
  have G1 := Lib.hid (G0.out.below hB1)
  clear hB1
  obtain ⟨p0, p1, p2, _⟩ := G1.out.2.2.2.1.three
  obtain ⟨q0, q1, q2, _⟩ := G1.out.2.2.2.2.three
  go_wp2_with fail
  clear p0 p1 p2 q0 q1 q2
  refine (KV1x.out _ G1.out.2.2.1).mono ?_
  rintro e w2 ⟨rfl, hB2⟩
  have G2 := Lib.hid (G1.out.below hB2)
  clear hB2
  obtain ⟨p0, p1, p2, _⟩ := G2.out.2.2.2.1.three
  obtain ⟨q0, q1, q2, _⟩ := G2.out.2.2.2.2.three
  go_upto_region 7 with fail
  clear p0 p1 p2 q0 q1 q2
  have HS : Hid (∀ W, Below w2.heap.size w2 W → W.cell? ⟨w.heap.size, 0, none⟩ = some (.int .i64 z0) ∧ W.cell? ⟨w.heap.size, 1, none⟩ = some (.int .i64 m0) ∧ W.cell? ⟨w.heap.size, 2, none⟩ = some (.slice a0 cs0.length c0) ∧ W.cell? ⟨w.heap.size + 1, 0, none⟩ = some (.int .i64 z1) ∧ W.cell? ⟨w.heap.size + 1, 1, none⟩ = some (.int .i64 m1) ∧ W.cell? ⟨w.heap.size + 1, 2, none⟩ = some (.slice a1 cs1.length c1)) := by
    obtain ⟨p0, p1, p2, _⟩ := G2.out.2.2.2.1.three
    obtain ⟨q0, q1, q2, _⟩ := G2.out.2.2.2.2.three
    exact Lib.hid (fun W hB => ⟨look_below hB p0, look_below hB p1, look_below hB p2, look_below hB q0, look_below hB q1, look_below hB q2⟩)
  have hbr := drew_below w2
  refine wp_region_held_drew (S := fun W => W.cell? ⟨w.heap.size, 0, none⟩ = some (.int .i64 z0) ∧ W.cell? ⟨w.heap.size, 1, none⟩ = some (.int .i64 m0) ∧ W.cell? ⟨w.heap.size, 2, none⟩ = some (.slice a0 cs0.length c0) ∧ W.cell? ⟨w.heap.size + 1, 0, none⟩ = some (.int .i64 z1) ∧ W.cell? ⟨w.heap.size + 1, 1, none⟩ = some (.int .i64 m1) ∧ W.cell? ⟨w.heap.size + 1, 2, none⟩ = some (.slice a1 cs1.length c1)) (by kernel_rfl) (HS.out _ hbr) (fun hHeld => ?_)
  refine wpAnyH_ready (rs := [0]) (by kernel_rfl) (by simp) ?_
  refine AllReadyH.cons (o := ⟨_, _, _, _, _, _⟩) rfl (fun K hK => ?_) AllReadyH.nil
  go_simp
  (go_at_call 17; refine (mKnown_calls _).mono ?_; rintro e w3 ⟨rfl, hB3⟩; have hbr := below2 hbr hB3)
  refine hK.out _ _ (HS.out _ hbr) (fun hHeld => ?_)
  clear hK K
  try simp only [Act.put, List.setIfInBounds_toArray, List.set_cons_zero, List.set_cons_succ]
  refine wpAnyH_take (i := 1) (oi := ⟨_, _, _, _, _, _⟩) (v := ?_) rfl (by kernel_rfl) (by kernel_rfl) (by kernel_rfl) (fun _ _ _ h => h) (Or.inl ⟨by rfl, ?_⟩) hHeld ?_
  rotate_left
  · (intro w hSw; (try dsimp only at hSw); go_simp; try with_reducible rfl)
  try simp only [Act.put, List.setIfInBounds_toArray, List.set_cons_zero, List.set_cons_succ]
  refine wpAnyH_take (i := 2) (oi := ⟨_, _, _, _, _, _⟩) (v := ?_) rfl (by kernel_rfl) (by kernel_rfl) (by kernel_rfl) (fun _ _ _ h => h) (Or.inl ⟨by rfl, ?_⟩) hHeld ?_
  rotate_left
  · (intro w hSw; (try dsimp only at hSw); go_simp; try with_reducible rfl)
  try simp only [Act.put, List.setIfInBounds_toArray, List.set_cons_zero, List.set_cons_succ]
  refine wpAnyH_take (i := 3) (oi := ⟨_, _, _, _, _, _⟩) (v := ?_) rfl (by kernel_rfl) (by kernel_rfl) (by kernel_rfl) (fun _ _ _ h => h) (Or.inl ⟨by rfl, ?_⟩) hHeld ?_
  rotate_left
  · (intro w hSw; (try dsimp only at hSw); go_simp; try with_reducible rfl)
  try simp only [Act.put, List.setIfInBounds_toArray, List.set_cons_zero, List.set_cons_succ]
  refine wpAnyH_take (i := 4) (oi := ⟨_, _, _, _, _, _⟩) (v := ?_) rfl (by kernel_rfl) (by kernel_rfl) (by kernel_rfl) (fun _ _ _ h => h) (Or.inl ⟨by rfl, ?_⟩) hHeld ?_
  rotate_left
  · (intro w hSw; (try dsimp only at hSw); go_simp; try with_reducible rfl)
  try simp only [Act.put, List.setIfInBounds_toArray, List.set_cons_zero, List.set_cons_succ]
  refine wpAnyH_take (i := 5) (oi := ⟨_, _, _, _, _, _⟩) (v := ?_) rfl (by kernel_rfl) (by kernel_rfl) (by kernel_rfl) (fun _ _ _ h => h) (Or.inl ⟨by rfl, ?_⟩) hHeld ?_
  rotate_left
  · (intro w hSw; (try dsimp only at hSw); go_simp; try with_reducible rfl)
  try simp only [Act.put, List.setIfInBounds_toArray, List.set_cons_zero, List.set_cons_succ]
  refine wpAnyH_take (i := 6) (oi := ⟨_, _, _, _, _, _⟩) (v := ?_) rfl (by kernel_rfl) (by kernel_rfl) (by kernel_rfl) (fun _ _ _ h => h) (Or.inl ⟨by rfl, ?_⟩) hHeld ?_
  rotate_left
  · (intro w hSw; (try dsimp only at hSw); go_simp; try with_reducible rfl)
  try simp only [Act.put, List.setIfInBounds_toArray, List.set_cons_zero, List.set_cons_succ]
  refine wpAnyH_take (i := 7) (oi := ⟨_, _, _, _, _, _⟩) (v := ?_) rfl (by kernel_rfl) (by kernel_rfl) (by kernel_rfl) (fun _ _ _ h => h) (Or.inl ⟨by rfl, ?_⟩) hHeld ?_
  rotate_left
  · (intro w hSw; (try dsimp only at hSw); go_simp; try with_reducible rfl)
  try simp only [Act.put, List.setIfInBounds_toArray, List.set_cons_zero, List.set_cons_succ]
  refine wpAnyH_take (i := 8) (oi := ⟨_, _, _, _, _, _⟩) (v := ?_) rfl (by kernel_rfl) (by kernel_rfl) (by kernel_rfl) (fun _ _ _ h => h) (Or.inl ⟨by rfl, ?_⟩) hHeld ?_
  rotate_left
  · (intro w hSw; (try dsimp only at hSw); go_simp; try with_reducible rfl)
  try simp only [Act.put, List.setIfInBounds_toArray, List.set_cons_zero, List.set_cons_succ]
  refine wpAnyH_take (i := 9) (oi := ⟨_, _, _, _, _, _⟩) (v := ?_) rfl (by kernel_rfl) (by kernel_rfl) (by kernel_rfl) (fun _ _ _ h => h) (Or.inl ⟨by rfl, ?_⟩) hHeld ?_
  rotate_left
  · (intro w hSw; (try dsimp only at hSw); go_simp; try with_reducible rfl)
  try simp only [Act.put, List.setIfInBounds_toArray, List.set_cons_zero, List.set_cons_succ]
  refine wpAnyH_take (i := 10) (oi := ⟨_, _, _, _, _, _⟩) (v := undef) rfl (by kernel_rfl) (by kernel_rfl) (by kernel_rfl) (fun _ _ _ h => h) (Or.inr ⟨by rfl, rfl⟩) hHeld ?_
  try simp only [Act.put, List.setIfInBounds_toArray, List.set_cons_zero, List.set_cons_succ]
  refine wpAnyH_take (i := 11) (oi := ⟨_, _, _, _, _, _⟩) (v := ?_) rfl (by kernel_rfl) (by kernel_rfl) (by kernel_rfl) (fun _ _ _ h => h) (Or.inl ⟨by rfl, ?_⟩) hHeld ?_
  rotate_left
  · (intro w hSw; (try dsimp only at hSw); go_simp; try with_reducible rfl)
  try simp only [Act.put, List.setIfInBounds_toArray, List.set_cons_zero, List.set_cons_succ]
  refine wpAnyH_take (i := 12) (oi := ⟨_, _, _, _, _, _⟩) (v := ?_) rfl (by kernel_rfl) (by kernel_rfl) (by kernel_rfl) (fun _ _ _ h => h) (Or.inl ⟨by rfl, ?_⟩) hHeld ?_
  rotate_left
  · (intro w hSw; (try dsimp only at hSw); go_simp; try with_reducible rfl)
  try simp only [Act.put, List.setIfInBounds_toArray, List.set_cons_zero, List.set_cons_succ]
  refine wpAnyH_take (i := 13) (oi := ⟨_, _, _, _, _, _⟩) (v := ?_) rfl (by kernel_rfl) (by kernel_rfl) (by kernel_rfl) (fun _ _ _ h => h) (Or.inl ⟨by rfl, ?_⟩) hHeld ?_
  rotate_left
  · (intro w hSw; (try dsimp only at hSw); go_simp; try with_reducible rfl)
  try simp only [Act.put, List.setIfInBounds_toArray, List.set_cons_zero, List.set_cons_succ]
  refine wpAnyH_take (i := 14) (oi := ⟨_, _, _, _, _, _⟩) (v := ?_) rfl (by kernel_rfl) (by kernel_rfl) (by kernel_rfl) (fun _ _ _ h => h) (Or.inl ⟨by rfl, ?_⟩) hHeld ?_
  rotate_left
  · (intro w hSw; (try dsimp only at hSw); go_simp; try with_reducible rfl)
  try simp only [Act.put, List.setIfInBounds_toArray, List.set_cons_zero, List.set_cons_succ]
  refine wpAnyH_take (i := 15) (oi := ⟨_, _, _, _, _, _⟩) (v := ?_) rfl (by kernel_rfl) (by kernel_rfl) (by kernel_rfl) (fun _ _ _ h => h) (Or.inl ⟨by rfl, ?_⟩) hHeld ?_
  rotate_left
  · (intro w hSw; (try dsimp only at hSw); go_simp; try with_reducible rfl)
  try simp only [Act.put, List.setIfInBounds_toArray, List.set_cons_zero, List.set_cons_succ]
  refine wpAnyH_take (i := 16) (oi := ⟨_, _, _, _, _, _⟩) (v := ?_) rfl (by kernel_rfl) (by kernel_rfl) (by kernel_rfl) (fun _ _ _ h => h) (Or.inl ⟨by rfl, ?_⟩) hHeld ?_
  rotate_left
  · (intro w hSw; (try dsimp only at hSw); go_simp; try with_reducible rfl)
  try simp only [Act.put, List.setIfInBounds_toArray, List.set_cons_zero, List.set_cons_succ]
  refine wpAnyH_take (i := 17) (oi := ⟨_, _, _, _, _, _⟩) (v := ?_) rfl (by kernel_rfl) (by kernel_rfl) (by kernel_rfl) (fun _ _ _ h => h) (Or.inl ⟨by rfl, ?_⟩) hHeld ?_
  rotate_left
  · (intro w hSw; (try dsimp only at hSw); go_simp; try with_reducible rfl)
  try simp only [Act.put, List.setIfInBounds_toArray, List.set_cons_zero, List.set_cons_succ]
  refine wpAnyH_take (i := 18) (oi := ⟨_, _, _, _, _, _⟩) (v := ?_) rfl (by kernel_rfl) (by kernel_rfl) (by kernel_rfl) (fun _ _ _ h => h) (Or.inl ⟨by rfl, ?_⟩) hHeld ?_
  rotate_left
  · (intro w hSw; (try dsimp only at hSw); go_simp; try with_reducible rfl)
  try simp only [Act.put, List.setIfInBounds_toArray, List.set_cons_zero, List.set_cons_succ]
  refine wpAnyH_take (i := 19) (oi := ⟨_, _, _, _, _, _⟩) (v := ?_) rfl (by kernel_rfl) (by kernel_rfl) (by kernel_rfl) (fun _ _ _ h => h) (Or.inl ⟨by rfl, ?_⟩) hHeld ?_
  rotate_left
  · (intro w hSw; (try dsimp only at hSw); go_simp; try with_reducible rfl)
  try simp only [Act.put, List.setIfInBounds_toArray, List.set_cons_zero, List.set_cons_succ]
  refine wpAnyH_take (i := 20) (oi := ⟨_, _, _, _, _, _⟩) (v := ?_) rfl (by kernel_rfl) (by kernel_rfl) (by kernel_rfl) (fun _ _ _ h => h) (Or.inl ⟨by rfl, ?_⟩) hHeld ?_
  rotate_left
  · (intro w hSw; (try dsimp only at hSw); go_simp; try with_reducible rfl)
  try simp only [Act.put, List.setIfInBounds_toArray, List.set_cons_zero, List.set_cons_succ]
  refine wpAnyH_take (i := 21) (oi := ⟨_, _, _, _, _, _⟩) (v := ?_) rfl (by kernel_rfl) (by kernel_rfl) (by kernel_rfl) (fun _ _ _ h => h) (Or.inl ⟨by rfl, ?_⟩) hHeld ?_
  rotate_left
  · (intro w hSw; (try dsimp only at hSw); go_simp; try with_reducible rfl)
  try simp only [Act.put, List.setIfInBounds_toArray, List.set_cons_zero, List.set_cons_succ]
  refine wpAnyH_ready (rs := [22]) (by kernel_rfl) (by simp) ?_
  refine AllReadyH.cons (o := ⟨_, _, _, _, _, _⟩) rfl (fun K hK => ?_) AllReadyH.nil
  go_simp
  (go_at_call 20; refine (KS.out _ (G2.out.2.1.below hbr) (G2.out.2.2.1.below hbr)).mono ?_; rintro e w4 ⟨rfl, hB4⟩; have hbr := below2 hbr hB4)
  refine hK.out _ _ (HS.out _ hbr) (fun hHeld => ?_)
  clear hK K
  try simp only [Act.put, List.setIfInBounds_toArray, List.set_cons_zero, List.set_cons_succ]
  refine wpAnyH_take (i := 23) (oi := ⟨_, _, _, _, _, _⟩) (v := ?_) rfl (by kernel_rfl) (by kernel_rfl) (by kernel_rfl) (fun _ _ _ h => h) (Or.inl ⟨by rfl, ?_⟩) hHeld ?_
  rotate_left
  · (intro w hSw; (try dsimp only at hSw); go_simp; try with_reducible rfl)
  try simp only [Act.put, List.setIfInBounds_toArray, List.set_cons_zero, List.set_cons_succ]
  refine wpAnyH_take (i := 24) (oi := ⟨_, _, _, _, _, _⟩) (v := ?_) rfl (by kernel_rfl) (by kernel_rfl) (by kernel_rfl) (fun _ _ _ h => h) (Or.inl ⟨by rfl, ?_⟩) hHeld ?_
  rotate_left
  · (intro w hSw; (try dsimp only at hSw); go_simp; try with_reducible rfl)
  try simp only [Act.put, List.setIfInBounds_toArray, List.set_cons_zero, List.set_cons_succ]
  refine wpAnyH_take (i := 25) (oi := ⟨_, _, _, _, _, _⟩) (v := ?_) rfl (by kernel_rfl) (by kernel_rfl) (by kernel_rfl) (fun _ _ _ h => h) (Or.inl ⟨by rfl, ?_⟩) hHeld ?_
  rotate_left
  · (intro w hSw; (try dsimp only at hSw); go_simp; try with_reducible rfl)
  try simp only [Act.put, List.setIfInBounds_toArray, List.set_cons_zero, List.set_cons_succ]
  refine wpAnyH_take (i := 26) (oi := ⟨_, _, _, _, _, _⟩) (v := ?_) rfl (by kernel_rfl) (by kernel_rfl) (by kernel_rfl) (fun _ _ _ h => h) (Or.inl ⟨by rfl, ?_⟩) hHeld ?_
  rotate_left
  · (intro w hSw; (try dsimp only at hSw); go_simp; try with_reducible rfl)
  try simp only [Act.put, List.setIfInBounds_toArray, List.set_cons_zero, List.set_cons_succ]
  refine wpAnyH_take (i := 27) (oi := ⟨_, _, _, _, _, _⟩) (v := ?_) rfl (by kernel_rfl) (by kernel_rfl) (by kernel_rfl) (fun _ _ _ h => h) (Or.inl ⟨by rfl, ?_⟩) hHeld ?_
  rotate_left
  · (intro w hSw; (try dsimp only at hSw); go_simp; try with_reducible rfl)
  try simp only [Act.put, List.setIfInBounds_toArray, List.set_cons_zero, List.set_cons_succ]
  refine wpAnyH_done (by kernel_rfl) ?_ _
  go_wp2_with fail
  go_ret
  exact ⟨rfl, below2 G2.out.1 hbr⟩

theorem valMe_zero {z m : Int} {cs : List Int} (h : valMe z m cs false = 0) : metaB z m cs = true := by
  cases hm : metaB z m cs with
  | true => rfl
  | false => simp [valMe, putMe, hm] at h
theorem valM_there {z m : Int} {cs : List Int} (h : metaB z m cs = true) : valM z m cs false = 1 :: metaT z m cs := by simp [valM, h]
theorem metaT_some (z m : Int) (cs : List Int) : 0 < (metaT z m cs).length := by
  have := numB_length z.toNat
  have e := metaT_eq z m cs []
  rw [List.append_nil] at e
  rw [e, List.length_append]
  omega
theorem front_same {z0 m0 : Int} {cs0 : List Int} {z1 m1 : Int} {cs1 : List Int} (h : metaB z0 m0 cs0 = true) (h' : metaB z1 m1 cs1 = true) : (((1 :: metaT z1 m1 cs1).take (1 :: metaT z0 m0 cs0).length) == (1 :: metaT z0 m0 cs0)) = sameM z0 m0 cs0 z1 m1 cs1 := by
  cases hs : sameM z0 m0 cs0 z1 m1 cs1 with
  | true =>
    have := sameM_iff.1 hs
    simp only [Prod.mk.injEq] at this
    obtain ⟨rfl, rfl, rfl⟩ := this
    rw [List.take_length]
    simp
  | false =>
    rw [beq_eq_false_iff_ne]
    intro e
    rw [List.length_cons, List.take_succ_cons] at e
    have e2 := (List.cons.inj e).2
    have e3 := List.take_append_drop (metaT z0 m0 cs0).length (metaT z1 m1 cs1)
    rw [e2] at e3
    have := metaT_inj h h' (r := (metaT z1 m1 cs1).drop (metaT z0 m0 cs0).length) (r' := []) (by rw [e3]; simp)
    rw [sameM_iff.2 this] at hs
    cases hs

theorem metaFront_walk (z0 m0 : Int) (u0 : Value) (cs0 : List Int) (z1 m1 : Int) (u1 : Value) (cs1 : List Int) (g0 g1 : Bool) (w : World) (h0 : Ints w u0 cs0) (_ : cs0.length ≤ maxLen) (h1 : Ints w u1 cs1) (_ : cs1.length ≤ maxLen) :
    Calls Try.prog 5 #[MV z0 m0 u0, MV z1 m1 u1, .bool g0, .bool g1] w fun e w' => e = .returned (.bool true) ∧ Below w.heap.size w w' := by
  obtain ⟨a0, c0, rfl⟩ := h0.form
  obtain ⟨a1, c1, rfl⟩ := h1.form
  by_cases hl0 : 40 < cs0.length
  · exact metaFront_far0 z0 m0 a0 c0 cs0 z1 m1 a1 c1 cs1 w g0 g1 hl0
  by_cases hl1 : 40 < cs1.length
  · exact metaFront_far1 z0 m0 a0 c0 cs0 z1 m1 a1 c1 cs1 w g0 g1 (by omega) hl1
  by_cases hy0 : (valMe z0 m0 cs0 g0 != 0) = true
  · exact metaFront_e z0 m0 a0 c0 cs0 z1 m1 a1 c1 cs1 w h0 h1 g0 g1 (by omega) (by omega) _ _ _ _ rfl rfl rfl rfl hy0
  have hz0 : (valMe z0 m0 cs0 g0 != 0) = false := by simpa using hy0
  by_cases hy1 : (valMe z1 m1 cs1 g1 != 0) = true
  · exact metaFront_f z0 m0 a0 c0 cs0 z1 m1 a1 c1 cs1 w h0 h1 g0 g1 (by omega) (by omega) _ _ _ _ rfl rfl rfl rfl hz0 hy1
  have hz1 : (valMe z1 m1 cs1 g1 != 0) = false := by simpa using hy1
  by_cases hl : (valM z1 m1 cs1 g1).length < (valM z0 m0 cs0 g0).length
  · exact metaFront_less z0 m0 a0 c0 cs0 z1 m1 a1 c1 cs1 w h0 h1 g0 g1 (by omega) (by omega) _ _ _ _ rfl rfl rfl rfl hz0 hz1 (decide_eq_true hl)
  have hd := decide_eq_false hl
  have hle : (valM z0 m0 cs0 g0).length ≤ (valM z1 m1 cs1 g1).length := by omega
  cases g0 with
  | true =>
    cases g1 with
    | true => exact metaFront_tt z0 m0 a0 c0 cs0 z1 m1 a1 c1 cs1 w h0 h1 (by omega) (by omega) _ _ _ _ rfl rfl rfl rfl hz0 hz1 hd hle rfl
    | false =>
      have hn := valMe_zero (z := z1) (m := m1) (cs := cs1) (by simpa using hz1)
      refine metaFront_tf z0 m0 a0 c0 cs0 z1 m1 a1 c1 cs1 w h0 h1 (by omega) (by omega) _ _ _ _ rfl rfl rfl rfl hz0 hz1 hd hle ?_
      rw [valM_there hn]
      rfl
  | false =>
    have hm := valMe_zero (z := z0) (m := m0) (cs := cs0) (by simpa using hz0)
    cases g1 with
    | true =>
      exfalso
      rw [valM_there hm] at hl
      have := metaT_some z0 m0 cs0
      have e : (valM z1 m1 cs1 true).length = 1 := rfl
      rw [e, List.length_cons] at hl
      omega
    | false =>
      have hn := valMe_zero (z := z1) (m := m1) (cs := cs1) (by simpa using hz1)
      refine metaFront_ff z0 m0 a0 c0 cs0 z1 m1 a1 c1 cs1 w h0 h1 (by omega) (by omega) _ _ _ _ rfl rfl rfl rfl hz0 hz1 hd hle _ rfl ?_
      rw [valM_there hm, valM_there hn]
      exact front_same hm hn

end Go.Proofs.Ytijhbnkfkjfcfaa
