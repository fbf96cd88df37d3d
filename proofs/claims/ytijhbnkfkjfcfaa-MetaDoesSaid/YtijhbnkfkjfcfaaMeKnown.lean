/-
  The law file's known: the document's rows.
-/
import Derived.Test.YtijhbnkfkjfcfaaMeValue
import Derived.Test.YtijhbnkfkjfcfaaMeRd
import Derived.Test.YtijhbnkfkjfcfaaMeSame
namespace Go.Proofs.Ytijhbnkfkjfcfaa
set_option maxRecDepth 100000
open Go.RowKit
attribute [local go_sem] one_app

theorem k_putM : putM 300 7 [5] = [2, 1, 44, 1, 7, 1, 1, 1, 5] := by decide
theorem k_putMe : putMe 300 7 [5] = 0 := by decide
theorem k_gotM : gotM [2, 1, 44, 1, 7, 1, 1, 1, 5] = (300, 7, [5]) ∧ gotE [2, 1, 44, 1, 7, 1, 1, 1, 5] = 0 := by decide
theorem k_valM : valM 300 7 [5] false = [1, 2, 1, 44, 1, 7, 1, 1, 1, 5] ∧ valMe 300 7 [5] false = 0 := by decide
theorem k_putBad : putM 0 4096 [] = [] ∧ putMe 0 4096 [] = 1 := by decide
theorem k_is : metaB 300 7 [5] = true := by decide

theorem kPut (v : Value) (w : World) (h : Ints w v [5]) : Calls Try.prog 9 #[MV 300 7 v] w fun e w' => e = .returned (.tuple #[.string ⟨#[2, 1, 44, 1, 7, 1, 1, 1, 5]⟩, .int .i64 0]) ∧ Below w.heap.size w w' := by
  have K := mPut_calls 300 7 v [5] w h (by decide)
  rw [k_putM, k_putMe] at K
  exact K
theorem kGet (w : World) : Calls Try.prog 11 #[.string ⟨#[2, 1, 44, 1, 7, 1, 1, 1, 5]⟩] w fun e w' => ∃ v, e = .returned (.tuple #[MV 300 7 v, .int .i64 0]) ∧ OwnI w' w.heap.size v [5] ∧ Below w.heap.size w w' := by
  have K := mGet_calls [2, 1, 44, 1, 7, 1, 1, 1, 5] (by decide) w
  rw [k_gotM.1, k_gotM.2] at K
  exact K
theorem kValue (v : Value) (w : World) (h : Ints w v [5]) : Calls Try.prog 13 #[MV 300 7 v, .bool false] w fun e w' => e = .returned (.tuple #[.string ⟨#[1, 2, 1, 44, 1, 7, 1, 1, 1, 5]⟩, .int .i64 0]) ∧ Below w.heap.size w w' := by
  have K := mValue_calls 300 7 v [5] false w h (by decide)
  rw [k_valM.1, k_valM.2] at K
  exact K
theorem kRead0 (w : World) : Calls Try.prog 15 #[.string ⟨#[0]⟩] w fun e w' => e = .returned (.tuple #[zM, .bool true, .int .i64 0]) ∧ Below w.heap.size w w' := mRead_gone w
theorem kRead2 (w : World) : Calls Try.prog 15 #[.string ⟨#[2]⟩] w fun e w' => e = .returned (.tuple #[zM, .bool false, .int .i64 30]) ∧ Below w.heap.size w w' :=
  mRead_none (s := [2]) (by decide) (by decide) w
theorem kPutBad (w : World) : Calls Try.prog 9 #[MV 0 4096 (.slice none 0 0)] w fun e w' => e = .returned (.tuple #[.string ⟨#[]⟩, .int .i64 1]) ∧ Below w.heap.size w w' := by
  have K := mPut_calls 0 4096 (.slice none 0 0) [] w (Ints.nil w) (by decide)
  rw [k_putBad.1, k_putBad.2] at K
  exact K
theorem kIs (v : Value) (w : World) (h : Ints w v [5]) : Calls Try.prog 18 #[MV 300 7 v] w fun e w' => e = .returned (.bool true) ∧ Below w.heap.size w w' := by
  have K := mIs_calls 300 7 v [5] w h (by decide)
  rw [k_is] at K
  exact K
theorem kSame (u v : Value) (w : World) (h : Ints w u [5]) (h' : Ints w v [5]) : Calls Try.prog 20 #[MV 300 7 u, MV 300 7 v] w fun e w' => e = .returned (.bool true) ∧ Below w.heap.size w w' :=
  mSame_calls 300 7 u [5] 300 7 v [5] w h h' (by decide)
theorem kSame0 (w : World) : Calls Try.prog 20 #[zM, zM] w fun e w' => e = .returned (.bool true) ∧ Below w.heap.size w w' :=
  mSame_calls 0 0 (.slice none 0 0) [] 0 0 (.slice none 0 0) [] w (Ints.nil w) (Ints.nil w) (by decide)
theorem ints_lit1 (w : World) (a : Int) (t : TypeId) : Ints (w.alloc (.cells #[.int .i64 a] t)) (.slice (some ⟨w.heap.size, 0, none⟩) 1 1) [a] := by
  refine ⟨rfl, _, 1, rfl, Nat.le_refl _, .inr ⟨w.heap.size, 0, rfl, fun j hj => ?_⟩⟩
  rw [cell_of_row _ _ _ _ _ _ (heap_alloc_new w _)]
  have : j < 1 := hj
  obtain rfl : j = 0 := by omega
  rfl

/-- How things stand within known: m's box, and its row. -/
abbrev kM (w : World) : Value := .slice (some ⟨w.heap.size, 0, none⟩) 1 1
def KSt (w W : World) : Prop := Below w.heap.size w W ∧ Ints W (kM w) [5] ∧ Cx W (w.heap.size + 1) 24 [.int .i64 300, .int .i64 7, kM w]
theorem KSt.below {w W W' : World} (h : KSt w W) (hB : Below W.heap.size W W') : KSt w W' := ⟨below2 h.1 hB, h.2.1.below hB, h.2.2.below hB⟩
theorem KSt.new (w : World) : KSt w ((w.alloc (.cells #[.int .i64 5] 3)).alloc (.cells #[.int .i64 300, .int .i64 7, kM w] 24)) := by
  refine ⟨below_alloc2 _ _ _, (ints_lit1 w 5 _).below (below_alloc _ _), ?_⟩
  have := Cx.new (w.alloc (.cells #[.int .i64 5] 3)) 24 [.int .i64 300, .int .i64 7, kM w]
  rw [World.size_alloc] at this
  exact this

abbrev kZ (W : World) (b : Nat) : Prop := Cx W b 24 [.int .i64 0, .int .i64 0, .slice none 0 0]
abbrev kN (W : World) (b : Nat) (a : Option Addr) (c : Nat) : Prop := Ints W (.slice a 1 c) [5] ∧ Cx W b 24 [.int .i64 300, .int .i64 7, .slice a 1 c]
theorem kN_below {W W' : World} {b : Nat} {a : Option Addr} {c : Nat} (h : kN W b a c) (hB : Below W.heap.size W W') : kN W' b a c := ⟨h.1.below hB, h.2.below hB⟩

set_option maxHeartbeats 4000000 in
theorem mKnown_calls (w : World) : Calls Try.prog 17 #[] w fun e w' => e = .returned (.bool true) ∧ Below w.heap.size w w' := by
  have K0 := Lib.hid (KSt.new w)
  go_enter Try.func17, Try.ntmps17
  go_wp2_with fail
  refine (kPut _ _ K0.out.2.1).mono ?_
  rintro e w1 ⟨rfl, hB1⟩
  have K1 := Lib.hid (K0.out.below hB1)
  clear hB1
  go_wp2_with fail
  refine (kGet _).mono ?_
  rintro e w2 ⟨v2, rfl, ho2, hB2⟩
  obtain ⟨a2, c2, rfl⟩ := (ints_own ho2).form
  have hb2 := below_alloc w2 (.cells #[.int .i64 300, .int .i64 7, .slice a2 1 c2] 24)
  have N2 := Lib.hid (show kN _ w2.heap.size a2 c2 from ⟨(ints_own ho2).below hb2, Cx.new w2 24 [.int .i64 300, .int .i64 7, .slice a2 1 c2]⟩)
  have K2 := Lib.hid ((K1.out.below hB2).below hb2)
  clear hB2 ho2 hb2
  obtain ⟨m0, m1, m2, _⟩ := K2.out.2.2.three
  go_wp2_with fail
  refine (kValue _ _ K2.out.2.1).mono ?_
  rintro e w3 ⟨rfl, hB3⟩
  have K3 := Lib.hid (K2.out.below hB3)
  have N3 := Lib.hid (kN_below N2.out hB3)
  clear hB3 m0 m1 m2
  go_wp2_with fail
  refine (kRead0 _).mono ?_
  rintro e w4 ⟨rfl, hB4⟩
  have hb4 := below_alloc w4 (.cells #[.int .i64 0, .int .i64 0, .slice none 0 0] 24)
  have K4 := Lib.hid ((K3.out.below hB4).below hb4)
  have N4 := Lib.hid (kN_below (kN_below N3.out hB4) hb4)
  have Z4 := Lib.hid (show kZ _ w4.heap.size from Cx.new w4 24 [.int .i64 0, .int .i64 0, .slice none 0 0])
  clear hB4 hb4
  go_wp2_with fail
  refine (kRead2 _).mono ?_
  rintro e w5 ⟨rfl, hB5⟩
  have hb5 := below_alloc w5 (.cells #[.int .i64 0, .int .i64 0, .slice none 0 0] 24)
  have K5 := Lib.hid ((K4.out.below hB5).below hb5)
  have N5 := Lib.hid (kN_below (kN_below N4.out hB5) hb5)
  have Z5 := Lib.hid ((Z4.out.below hB5).below hb5)
  clear hB5 hb5
  go_wp2_with fail
  refine (kPutBad _).mono ?_
  rintro e w6 ⟨rfl, hB6⟩
  have K6 := Lib.hid (K5.out.below hB6)
  have N6 := Lib.hid (kN_below N5.out hB6)
  have Z6 := Lib.hid (Z5.out.below hB6)
  clear hB6
  obtain ⟨m0, m1, m2, _⟩ := K6.out.2.2.three
  obtain ⟨n0, n1, n2, _⟩ := N6.out.2.three
  go_wp2_with fail
  refine (kSame _ _ _ N6.out.1 K6.out.2.1).mono ?_
  rintro e w7 ⟨rfl, hB7⟩
  have K7 := Lib.hid (K6.out.below hB7)
  have Z7 := Lib.hid (Z6.out.below hB7)
  clear hB7
  obtain ⟨z0, z1, z2, _⟩ := Z7.out.three
  go_wp2_with fail
  refine (kSame0 _).mono ?_
  rintro e w8 ⟨rfl, hB8⟩
  have K8 := Lib.hid (K7.out.below hB8)
  clear hB8
  obtain ⟨q0, q1, q2, _⟩ := K8.out.2.2.three
  go_wp2_with fail
  refine (kIs _ _ K8.out.2.1).mono ?_
  rintro e w9 ⟨rfl, hB9⟩
  go_wp2_with fail
  go_ret
  exact ⟨rfl, below2 K8.out.1 hB9⟩

end Go.Proofs.Ytijhbnkfkjfcfaa
