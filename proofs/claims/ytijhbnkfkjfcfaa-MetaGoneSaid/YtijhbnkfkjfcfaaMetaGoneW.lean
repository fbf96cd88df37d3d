/-
  sextonlaw12.MetaGone: the walk.
-/
import Derived.Test.YtijhbnkfkjfcfaaMeKnown
import Derived.Test.YtijhbnkfkjfcfaaMeTwo
namespace Go.Proofs.Ytijhbnkfkjfcfaa
set_option maxRecDepth 100000
open Go.RowKit

set_option maxHeartbeats 2000000 in
theorem metaGone_far0 (z0 m0 : Int) (a0 : Option Addr) (c0 : Nat) (cs0 : List Int) (z1 m1 : Int) (a1 : Option Addr) (c1 : Nat) (cs1 : List Int) (w : World) (hl : 40 < cs0.length) :
    Calls Try.prog 6 #[MV z0 m0 (.slice a0 cs0.length c0), MV z1 m1 (.slice a1 cs1.length c1)] w fun e w' => e = .returned (.bool true) ∧ Below w.heap.size w w' := by
  have hd : decide ((40 : Int) < cs0.length) = true := by rw [decide_eq_true_eq]; omega
  clear hl
  go_enter Try.func6, Try.ntmps6
  go_wp2_with fail
  go_ret
  exact ⟨rfl, below_alloc2 _ _ _⟩

set_option maxHeartbeats 2000000 in
theorem metaGone_far1 (z0 m0 : Int) (a0 : Option Addr) (c0 : Nat) (cs0 : List Int) (z1 m1 : Int) (a1 : Option Addr) (c1 : Nat) (cs1 : List Int) (w : World) (hl0 : cs0.length ≤ 40) (hl : 40 < cs1.length) :
    Calls Try.prog 6 #[MV z0 m0 (.slice a0 cs0.length c0), MV z1 m1 (.slice a1 cs1.length c1)] w fun e w' => e = .returned (.bool true) ∧ Below w.heap.size w w' := by
  have hd0 : decide ((40 : Int) < cs0.length) = false := by rw [decide_eq_false_iff_not]; omega
  have hd : decide ((40 : Int) < cs1.length) = true := by rw [decide_eq_true_eq]; omega
  clear hl hl0
  go_enter Try.func6, Try.ntmps6
  go_wp2_with fail
  go_ret
  exact ⟨rfl, below_alloc2 _ _ _⟩

set_option maxHeartbeats 8000000 in
theorem metaGone_bad (z0 m0 : Int) (a0 : Option Addr) (c0 : Nat) (cs0 : List Int) (z1 m1 : Int) (a1 : Option Addr) (c1 : Nat) (cs1 : List Int) (w : World) (h0 : Ints w (.slice a0 cs0.length c0) cs0) (h1 : Ints w (.slice a1 cs1.length c1) cs1) (hl0 : cs0.length ≤ 40) (hl1 : cs1.length ≤ 40) (hm : metaB z0 m0 cs0 = false) :
    Calls Try.prog 6 #[MV z0 m0 (.slice a0 cs0.length c0), MV z1 m1 (.slice a1 cs1.length c1)] w fun e w' => e = .returned (.bool true) ∧ Below w.heap.size w w' := by
  have hd0 : decide ((40 : Int) < cs0.length) = false := by rw [decide_eq_false_iff_not]; omega
  have hd1 : decide ((40 : Int) < cs1.length) = false := by rw [decide_eq_false_iff_not]; omega
  have KV0t := Lib.hid (fun W (h : Ints W (.slice a0 cs0.length c0) cs0) => vGone z0 m0 _ cs0 W h (by omega))
  have KV1t := Lib.hid (fun W (h : Ints W (.slice a1 cs1.length c1) cs1) => vGone z1 m1 _ cs1 W h (by omega))
  have KV0f := Lib.hid (fun W (h : Ints W (.slice a0 cs0.length c0) cs0) => mValue_calls z0 m0 _ cs0 false W h (by omega))
  have KV1f := Lib.hid (fun W (h : Ints W (.slice a1 cs1.length c1) cs1) => mValue_calls z1 m1 _ cs1 false W h (by omega))
  have KS := Lib.hid (fun W (h : Ints W (.slice a0 cs0.length c0) cs0) (h' : Ints W (.slice a1 cs1.length c1) cs1) => mSame_calls z0 m0 _ cs0 z1 m1 _ cs1 W h h' (by omega))
  have e1 : valM z0 m0 cs0 false = [] := by simp [valM, hm]
  have e2 : valMe z0 m0 cs0 false = 1 := by simp [valMe, putMe, hm]
  rw [e1, e2] at KV0f
  clear hm e1 e2
  generalize valM z1 m1 cs1 false = D at *
  generalize valMe z1 m1 cs1 false = y at *
  have G0 := Lib.hid (GSt.new z0 m0 z1 m1 h0 h1)
  clear h0 h1 hl0 hl1
  go_enter Try.func6, Try.ntmps6
  go_wp2_with fail
  refine (KV0t.out _ G0.out.2.1).mono ?_
  rintro e w1 ⟨rfl, hB1⟩
  have G1 := Lib.hid (G0.out.below hB1)
  clear hB1
  obtain ⟨p0, p1, p2, _⟩ := G1.out.2.2.2.1.three
  obtain ⟨q0, q1, q2, _⟩ := G1.out.2.2.2.2.three
  go_wp2_with fail
  clear p0 p1 p2 q0 q1 q2
  refine (KV1t.out _ G1.out.2.2.1).mono ?_
  rintro e w2 ⟨rfl, hB2⟩
  have G2 := Lib.hid (G1.out.below hB2)
  clear hB2
  obtain ⟨p0, p1, p2, _⟩ := G2.out.2.2.2.1.three
  obtain ⟨q0, q1, q2, _⟩ := G2.out.2.2.2.2.three
  go_wp2_with fail
  clear p0 p1 p2 q0 q1 q2
  refine (KV0f.out _ G2.out.2.1).mono ?_
  rintro e w3 ⟨rfl, hB3⟩
  have G3 := Lib.hid (G2.out.below hB3)
  clear hB3
  obtain ⟨p0, p1, p2, _⟩ := G3.out.2.2.2.1.three
  obtain ⟨q0, q1, q2, _⟩ := G3.out.2.2.2.2.three
  go_wp2_with fail
  clear p0 p1 p2 q0 q1 q2
  refine (KV1f.out _ G3.out.2.2.1).mono ?_
  rintro e w4 ⟨rfl, hB4⟩
  have G4 := Lib.hid (G3.out.below hB4)
  clear hB4
  obtain ⟨p0, p1, p2, _⟩ := G4.out.2.2.2.1.three
  obtain ⟨q0, q1, q2, _⟩ := G4.out.2.2.2.2.three
  go_wp2_with fail
  clear p0 p1 p2 q0 q1 q2
  refine (mKnown_calls _).mono ?_
  rintro e w5 ⟨rfl, hB5⟩
  have G5 := Lib.hid (G4.out.below hB5)
  clear hB5
  go_wp2_with fail
  go_ret
  exact ⟨rfl, G5.out.1⟩

set_option maxHeartbeats 8000000 in
theorem metaGone_one (z0 m0 : Int) (a0 : Option Addr) (c0 : Nat) (cs0 : List Int) (z1 m1 : Int) (a1 : Option Addr) (c1 : Nat) (cs1 : List Int) (w : World) (h0 : Ints w (.slice a0 cs0.length c0) cs0) (h1 : Ints w (.slice a1 cs1.length c1) cs1) (hl0 : cs0.length ≤ 40) (hl1 : cs1.length ≤ 40) (hm : metaB z0 m0 cs0 = true) (hn : metaB z1 m1 cs1 = false) :
    Calls Try.prog 6 #[MV z0 m0 (.slice a0 cs0.length c0), MV z1 m1 (.slice a1 cs1.length c1)] w fun e w' => e = .returned (.bool true) ∧ Below w.heap.size w w' := by
  have hd0 : decide ((40 : Int) < cs0.length) = false := by rw [decide_eq_false_iff_not]; omega
  have hd1 : decide ((40 : Int) < cs1.length) = false := by rw [decide_eq_false_iff_not]; omega
  have KV0t := Lib.hid (fun W (h : Ints W (.slice a0 cs0.length c0) cs0) => vGone z0 m0 _ cs0 W h (by omega))
  have KV1t := Lib.hid (fun W (h : Ints W (.slice a1 cs1.length c1) cs1) => vGone z1 m1 _ cs1 W h (by omega))
  have KV0f := Lib.hid (fun W (h : Ints W (.slice a0 cs0.length c0) cs0) => mValue_calls z0 m0 _ cs0 false W h (by omega))
  have KV1f := Lib.hid (fun W (h : Ints W (.slice a1 cs1.length c1) cs1) => mValue_calls z1 m1 _ cs1 false W h (by omega))
  have KS := Lib.hid (fun W (h : Ints W (.slice a0 cs0.length c0) cs0) (h' : Ints W (.slice a1 cs1.length c1) cs1) => mSame_calls z0 m0 _ cs0 z1 m1 _ cs1 W h h' (by omega))
  have e1 : valM z0 m0 cs0 false = 1 :: metaT z0 m0 cs0 := by simp [valM, hm]
  have e2 : valMe z0 m0 cs0 false = 0 := by simp [valMe, putMe, hm]
  have e3 : valM z1 m1 cs1 false = [] := by simp [valM, hn]
  have e4 : valMe z1 m1 cs1 false = 1 := by simp [valMe, putMe, hn]
  have hx : ((1 :: metaT z0 m0 cs0) == [0]) = false := by simp
  rw [e1, e2] at KV0f
  rw [e3, e4] at KV1f
  clear hm hn e1 e2 e3 e4
  generalize 1 :: metaT z0 m0 cs0 = C at *
  have G0 := Lib.hid (GSt.new z0 m0 z1 m1 h0 h1)
  clear h0 h1 hl0 hl1
  go_enter Try.func6, Try.ntmps6
  go_wp2_with fail
  refine (KV0t.out _ G0.out.2.1).mono ?_
  rintro e w1 ⟨rfl, hB1⟩
  have G1 := Lib.hid (G0.out.below hB1)
  clear hB1
  obtain ⟨p0, p1, p2, _⟩ := G1.out.2.2.2.1.three
  obtain ⟨q0, q1, q2, _⟩ := G1.out.2.2.2.2.three
  go_wp2_with fail
  clear p0 p1 p2 q0 q1 q2
  refine (KV1t.out _ G1.out.2.2.1).mono ?_
  rintro e w2 ⟨rfl, hB2⟩
  have G2 := Lib.hid (G1.out.below hB2)
  clear hB2
  obtain ⟨p0, p1, p2, _⟩ := G2.out.2.2.2.1.three
  obtain ⟨q0, q1, q2, _⟩ := G2.out.2.2.2.2.three
  go_wp2_with fail
  clear p0 p1 p2 q0 q1 q2
  refine (KV0f.out _ G2.out.2.1).mono ?_
  rintro e w3 ⟨rfl, hB3⟩
  have G3 := Lib.hid (G2.out.below hB3)
  clear hB3
  obtain ⟨p0, p1, p2, _⟩ := G3.out.2.2.2.1.three
  obtain ⟨q0, q1, q2, _⟩ := G3.out.2.2.2.2.three
  go_wp2_with fail
  clear p0 p1 p2 q0 q1 q2
  refine (KV1f.out _ G3.out.2.2.1).mono ?_
  rintro e w4 ⟨rfl, hB4⟩
  have G4 := Lib.hid (G3.out.below hB4)
  clear hB4
  obtain ⟨p0, p1, p2, _⟩ := G4.out.2.2.2.1.three
  obtain ⟨q0, q1, q2, _⟩ := G4.out.2.2.2.2.three
  go_wp2_with fail
  clear p0 p1 p2 q0 q1 q2
  refine (mKnown_calls _).mono ?_
  rintro e w5 ⟨rfl, hB5⟩
  have G5 := Lib.hid (G4.out.below hB5)
  clear hB5
  go_wp2_with fail
  go_ret
  exact ⟨rfl, G5.out.1⟩

set_option maxHeartbeats 8000000 in
theorem metaGone_both (z0 m0 : Int) (a0 : Option Addr) (c0 : Nat) (cs0 : List Int) (z1 m1 : Int) (a1 : Option Addr) (c1 : Nat) (cs1 : List Int) (w : World) (h0 : Ints w (.slice a0 cs0.length c0) cs0) (h1 : Ints w (.slice a1 cs1.length c1) cs1) (hl0 : cs0.length ≤ 40) (hl1 : cs1.length ≤ 40) (hm : metaB z0 m0 cs0 = true) (hn : metaB z1 m1 cs1 = true) (q : Bool) (hq : sameM z0 m0 cs0 z1 m1 cs1 = q) :
    Calls Try.prog 6 #[MV z0 m0 (.slice a0 cs0.length c0), MV z1 m1 (.slice a1 cs1.length c1)] w fun e w' => e = .returned (.bool true) ∧ Below w.heap.size w w' := by
  have hd0 : decide ((40 : Int) < cs0.length) = false := by rw [decide_eq_false_iff_not]; omega
  have hd1 : decide ((40 : Int) < cs1.length) = false := by rw [decide_eq_false_iff_not]; omega
  have KV0t := Lib.hid (fun W (h : Ints W (.slice a0 cs0.length c0) cs0) => vGone z0 m0 _ cs0 W h (by omega))
  have KV1t := Lib.hid (fun W (h : Ints W (.slice a1 cs1.length c1) cs1) => vGone z1 m1 _ cs1 W h (by omega))
  have KV0f := Lib.hid (fun W (h : Ints W (.slice a0 cs0.length c0) cs0) => mValue_calls z0 m0 _ cs0 false W h (by omega))
  have KV1f := Lib.hid (fun W (h : Ints W (.slice a1 cs1.length c1) cs1) => mValue_calls z1 m1 _ cs1 false W h (by omega))
  have KS := Lib.hid (fun W (h : Ints W (.slice a0 cs0.length c0) cs0) (h' : Ints W (.slice a1 cs1.length c1) cs1) => mSame_calls z0 m0 _ cs0 z1 m1 _ cs1 W h h' (by omega))
  have e1 : valM z0 m0 cs0 false = 1 :: metaT z0 m0 cs0 := by simp [valM, hm]
  have e2 : valMe z0 m0 cs0 false = 0 := by simp [valMe, putMe, hm]
  have e3 : valM z1 m1 cs1 false = 1 :: metaT z1 m1 cs1 := by simp [valM, hn]
  have e4 : valMe z1 m1 cs1 false = 0 := by simp [valMe, putMe, hn]
  have hx : ((1 :: metaT z0 m0 cs0) == [0]) = false := by simp
  have hy : ((1 :: metaT z0 m0 cs0) == (1 :: metaT z1 m1 cs1)) = q := by rw [← hq]; exact vals_eq hm hn
  rw [e1, e2] at KV0f
  rw [e3, e4] at KV1f
  rw [hq] at KS
  clear hm hn e1 e2 e3 e4 hq
  generalize 1 :: metaT z0 m0 cs0 = C at *
  generalize 1 :: metaT z1 m1 cs1 = D at *
  have G0 := Lib.hid (GSt.new z0 m0 z1 m1 h0 h1)
  clear h0 h1 hl0 hl1
  go_enter Try.func6, Try.ntmps6
  go_wp2_with fail
  refine (KV0t.out _ G0.out.2.1).mono ?_
  rintro e w1 ⟨rfl, hB1⟩
  have G1 := Lib.hid (G0.out.below hB1)
  clear hB1
  obtain ⟨p0, p1, p2, _⟩ := G1.out.2.2.2.1.three
  obtain ⟨q0, q1, q2, _⟩ := G1.out.2.2.2.2.three
  go_wp2_with fail
  clear p0 p1 p2 q0 q1 q2
  refine (KV1t.out _ G1.out.2.2.1).mono ?_
  rintro e w2 ⟨rfl, hB2⟩
  have G2 := Lib.hid (G1.out.below hB2)
  clear hB2
  obtain ⟨p0, p1, p2, _⟩ := G2.out.2.2.2.1.three
  obtain ⟨q0, q1, q2, _⟩ := G2.out.2.2.2.2.three
  go_wp2_with fail
  clear p0 p1 p2 q0 q1 q2
  refine (KV0f.out _ G2.out.2.1).mono ?_
  rintro e w3 ⟨rfl, hB3⟩
  have G3 := Lib.hid (G2.out.below hB3)
  clear hB3
  obtain ⟨p0, p1, p2, _⟩ := G3.out.2.2.2.1.three
  obtain ⟨q0, q1, q2, _⟩ := G3.out.2.2.2.2.three
  go_wp2_with fail
  clear p0 p1 p2 q0 q1 q2
  refine (KV1f.out _ G3.out.2.2.1).mono ?_
  rintro e w4 ⟨rfl, hB4⟩
  have G4 := Lib.hid (G3.out.below hB4)
  clear hB4
  obtain ⟨p0, p1, p2, _⟩ := G4.out.2.2.2.1.three
  obtain ⟨q0, q1, q2, _⟩ := G4.out.2.2.2.2.three
  go_wp2_with fail
  clear p0 p1 p2 q0 q1 q2
  refine (mKnown_calls _).mono ?_
  rintro e w5 ⟨rfl, hB5⟩
  have G5 := Lib.hid (G4.out.below hB5)
  clear hB5
  obtain ⟨p0, p1, p2, _⟩ := G5.out.2.2.2.1.three
  obtain ⟨q0, q1, q2, _⟩ := G5.out.2.2.2.2.three
  go_wp2_with fail
  refine (KS.out _ G5.out.2.1 G5.out.2.2.1).mono ?_
  rintro e w6 ⟨rfl, hB6⟩
  have hqq : (q == q) = true := by simp
  go_wp2_with fail
  go_ret
  exact ⟨rfl, below2 G5.out.1 hB6⟩

theorem metaGone_walk (z0 m0 : Int) (u0 : Value) (cs0 : List Int) (z1 m1 : Int) (u1 : Value) (cs1 : List Int) (w : World) (h0 : Ints w u0 cs0) (_ : cs0.length ≤ maxLen) (h1 : Ints w u1 cs1) (_ : cs1.length ≤ maxLen) :
    Calls Try.prog 6 #[MV z0 m0 u0, MV z1 m1 u1] w fun e w' => e = .returned (.bool true) ∧ Below w.heap.size w w' := by
  obtain ⟨a0, c0, rfl⟩ := h0.form
  obtain ⟨a1, c1, rfl⟩ := h1.form
  by_cases hl0 : 40 < cs0.length
  · exact metaGone_far0 z0 m0 a0 c0 cs0 z1 m1 a1 c1 cs1 w hl0
  by_cases hl1 : 40 < cs1.length
  · exact metaGone_far1 z0 m0 a0 c0 cs0 z1 m1 a1 c1 cs1 w (by omega) hl1
  cases hm : metaB z0 m0 cs0 with
  | false => exact metaGone_bad z0 m0 a0 c0 cs0 z1 m1 a1 c1 cs1 w h0 h1 (by omega) (by omega) hm
  | true =>
    cases hn : metaB z1 m1 cs1 with
    | false => exact metaGone_one z0 m0 a0 c0 cs0 z1 m1 a1 c1 cs1 w h0 h1 (by omega) (by omega) hm hn
    | true => exact metaGone_both z0 m0 a0 c0 cs0 z1 m1 a1 c1 cs1 w h0 h1 (by omega) (by omega) hm hn _ rfl

end Go.Proofs.Ytijhbnkfkjfcfaa
