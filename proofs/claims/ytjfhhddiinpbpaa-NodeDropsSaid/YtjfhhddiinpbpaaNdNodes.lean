/-
  The law file's own rows of pairs (nodes).
-/
import Derived.Test.YtjfhhddiinpbpaaNdPut
import Derived.Test.YtjfhhddiinpbpaaNdDrop
import Derived.Test.YtjfhhddiinpbpaaNdLevel
import Derived.Test.YtjfhhddiinpbpaaNdIs
import Derived.Test.YtjfhhddiinpbpaaNdSame
namespace Go.Proofs.Ytjfhhddiinpbpaa
open Go.RowKit

abbrev pA : Pr := (([97], 0), [])
abbrev pB : Pr := (([98], 0), [])
abbrev pC : Pr := (([99], 0), [])

theorem KFind {W : World} {v : Value} (h : Prs W v [pA, pC]) : Calls Try.prog 10 #[v, .agg #[.string ⟨#[98]⟩, .int .i64 0]] W fun e w' => e = .returned (.tuple #[.int .i64 1, .bool false]) ∧ Below W.heap.size W w' :=
  find_calls v [pA, pC] [98] 0 W h (by decide)
theorem KPut {W : World} {v : Value} (h : Prs W v [pA, pC]) : Calls Try.prog 12 #[v, .agg #[.string ⟨#[98]⟩, .int .i64 0, .string ⟨#[]⟩]] W fun e w' => ∃ ao cap, e = .returned (.slice ao 3 cap) ∧ OwnP w' W.heap.size (.slice ao 3 cap) [pA, pB, pC] ∧ Below W.heap.size W w' :=
  put_calls v [pA, pC] [98] 0 [] W h (by decide)
theorem KDrop {W : World} {v : Value} (h : Prs W v [pA, pC]) : Calls Try.prog 14 #[v, .agg #[.string ⟨#[97]⟩, .int .i64 0]] W fun e w' => ∃ ao n cap, e = .returned (.slice ao n cap) ∧ OwnP w' W.heap.size (.slice ao n cap) [pC] ∧ Below W.heap.size W w' :=
  drop_calls v [pA, pC] [97] 0 W h (by decide)
theorem KSplit {W : World} {v : Value} (h : Prs W v [pA, pB, pC]) : Calls Try.prog 16 #[v] W fun e w' => ∃ a1 n1 c1 a2 n2 c2, e = .returned (.tuple #[.slice a1 n1 c1, .slice a2 n2 c2]) ∧ OwnP w' W.heap.size (.slice a1 n1 c1) [pA] ∧ OwnP w' W.heap.size (.slice a2 n2 c2) [pB, pC] ∧ Apart (.slice a1 n1 c1) (.slice a2 n2 c2) ∧ Apart (.slice a2 n2 c2) (.slice a1 n1 c1) ∧ Below W.heap.size W w' :=
  split_calls v [pA, pB, pC] W h (by decide)
theorem KLevel {W : World} {v : Value} (h : Prs W v [pA, pB, pC]) : Calls Try.prog 18 #[v, .slice none 0 0, .int .i64 3] W fun e w' => ∃ a1 n1 c1 a2 n2 c2, e = .returned (.tuple #[.slice a1 n1 c1, .slice a2 n2 c2, .int .i64 0]) ∧ OwnP w' W.heap.size (.slice a1 n1 c1) [pA, pB, pC] ∧ OwnP w' W.heap.size (.slice a2 n2 c2) [] ∧ Apart (.slice a1 n1 c1) (.slice a2 n2 c2) ∧ Apart (.slice a2 n2 c2) (.slice a1 n1 c1) ∧ Below W.heap.size W w' :=
  level_calls v _ [pA, pB, pC] [] 3 W h (Prs.nil W) (by decide) (by decide)

theorem KSame {W : World} {v u : Value} {l : List Pr} (h1 : Prs W v l) (h2 : Prs W u l) (hm : l.length ≤ 100000 := by decide) : Calls Try.prog 20 #[v, u] W fun e w' => e = .returned (.bool true) ∧ Below W.heap.size W w' := by
  have h := same_calls v u l l W h1 h2 hm
  rw [decide_eq_true rfl] at h
  exact h
theorem KIs {W : World} {v : Value} (h : Prs W v [pA, pB, pC]) : Calls Try.prog 21 #[v] W fun e w' => e = .returned (.bool true) ∧ Below W.heap.size W w' :=
  is_calls v [pA, pB, pC] W h (by decide)
theorem KIsNot {W : World} {v : Value} (h : Prs W v [pB, pA]) : Calls Try.prog 21 #[v] W fun e w' => e = .returned (.bool false) ∧ Below W.heap.size W w' :=
  is_calls v [pB, pA] W h (by decide)

set_option maxHeartbeats 8000000 in
theorem nodes_calls (w : World) : Calls Try.prog 24 #[] w fun e w' => e = .returned (.bool true) ∧ Below w.heap.size w w' := by
  have BB := Lib.hid (Below.refl w.heap.size w)
  go_enter Try.func24, Try.ntmps24
  go_wp2_with fail
  refine (pair_calls [97] _).mono ?_
  rintro e w1 ⟨rfl, hB1⟩
  have BB := Lib.hid (below2 BB.out hB1)
  clear hB1
  go_wp2_with fail
  refine (pair_calls [99] _).mono ?_
  rintro e w2 ⟨rfl, hB2⟩
  have BB := Lib.hid (below2 BB.out hB2)
  clear hB2
  obtain ⟨w3, hW3, hL3, hB3⟩ : ∃ W', w2.alloc (.cells #[.string ⟨#[97]⟩, .int .i64 0, .string ⟨#[]⟩, .string ⟨#[99]⟩, .int .i64 0, .string ⟨#[]⟩] 26) = W' ∧ Prs W' (.slice (some ⟨w2.heap.size, 0, none⟩) 2 2) [pA, pC] ∧ Below w2.heap.size w2 W' := ⟨_, rfl, prs_lit w2 [pA, pC] _, below_alloc _ _⟩
  have BB := Lib.hid (below2 BB.out hB3)
  clear hB3
  have HL := Lib.hid hL3
  clear hL3
  go_wp2_with fail
  clear hW3
  refine (KFind HL.out).mono ?_
  rintro e w4 ⟨rfl, hB4⟩
  have HL := Lib.hid (HL.out.below hB4)
  have BB := Lib.hid (below2 BB.out hB4)
  clear hB4
  go_wp2_with fail
  refine (pair_calls [98] _).mono ?_
  rintro e w5 ⟨rfl, hB5⟩
  have HL := Lib.hid (HL.out.below hB5)
  have BB := Lib.hid (below2 BB.out hB5)
  clear hB5
  go_wp2_with fail
  refine (KPut HL.out).mono ?_
  rintro e w6 ⟨am, cm, rfl, hom, hB6⟩
  have HL := Lib.hid (HL.out.below hB6)
  have BB := Lib.hid (below2 BB.out hB6)
  clear hB6
  have HM := Lib.hid hom.prs
  clear hom
  go_wp2_with fail
  refine (KDrop HL.out).mono ?_
  rintro e w7 ⟨ad, nd, cd, rfl, hod, hB7⟩
  have HL := Lib.hid (HL.out.below hB7)
  have HM := Lib.hid (HM.out.below hB7)
  have BB := Lib.hid (below2 BB.out hB7)
  clear hB7
  have HD := Lib.hid hod.prs
  clear hod
  go_wp2_with fail
  refine (KSplit HM.out).mono ?_
  rintro e w8 ⟨ax, nx, cx, ay, ny, cy, rfl, hox, hoy, _, _, hB8⟩
  have HL := Lib.hid (HL.out.below hB8)
  have HM := Lib.hid (HM.out.below hB8)
  have HD := Lib.hid (HD.out.below hB8)
  have BB := Lib.hid (below2 BB.out hB8)
  clear hB8
  have HX := Lib.hid hox.prs
  clear hox
  have HY := Lib.hid hoy.prs
  clear hoy
  go_wp2_with fail
  obtain rfl := HX.out.len
  obtain rfl := HY.out.len
  refine (KLevel HM.out).mono ?_
  rintro e w9 ⟨au, nu, cu, av, nv, cv, rfl, hou, hov, _, _, hB9⟩
  have HL := Lib.hid (HL.out.below hB9)
  have HM := Lib.hid (HM.out.below hB9)
  have HD := Lib.hid (HD.out.below hB9)
  have HX := Lib.hid (HX.out.below hB9)
  have HY := Lib.hid (HY.out.below hB9)
  have BB := Lib.hid (below2 BB.out hB9)
  clear hB9
  have HU := Lib.hid hou.prs
  clear hou
  have HV := Lib.hid hov.prs
  clear hov
  obtain rfl := HU.out.len
  obtain rfl := HV.out.len
  obtain ⟨a1, c1, s1, pHL1⟩ := slice_from HL.out 1 1 (by decide) rfl
  have t1 : ∀ W, (Instr.slice 22 (.slice (some ⟨w2.heap.size, 0, none⟩) 2 2) (some (.int .i64 1)) none none).run Try.prog W = .ok (.slice a1 1 c1) W := s1
  obtain ⟨s2, pHM1⟩ := slice_to HM.out 1 (by decide)
  have t2 : ∀ W, (Instr.slice 22 (.slice am 3 cm) none (some (.int .i64 1)) none).run Try.prog W = .ok (.slice am 1 cm) W := s2
  obtain ⟨a3, c3, s3, pHM2⟩ := slice_from HM.out 1 2 (by decide) rfl
  have t3 : ∀ W, (Instr.slice 22 (.slice am 3 cm) (some (.int .i64 1)) none none).run Try.prog W = .ok (.slice a3 2 c3) W := s3
  have HL1 := Lib.hid pHL1
  clear pHL1
  have HM1 := Lib.hid pHM1
  clear pHM1
  have HM2 := Lib.hid pHM2
  clear pHM2
  clear s1 s2 s3
  go_wp2_with fail
  refine (pair_calls [97] _).mono ?_
  rintro e w10 ⟨rfl, hB10⟩
  have HL := Lib.hid (HL.out.below hB10)
  have HM := Lib.hid (HM.out.below hB10)
  have HD := Lib.hid (HD.out.below hB10)
  have HX := Lib.hid (HX.out.below hB10)
  have HY := Lib.hid (HY.out.below hB10)
  have HU := Lib.hid (HU.out.below hB10)
  have HV := Lib.hid (HV.out.below hB10)
  have HL1 := Lib.hid (HL1.out.below hB10)
  have HM1 := Lib.hid (HM1.out.below hB10)
  have HM2 := Lib.hid (HM2.out.below hB10)
  have BB := Lib.hid (below2 BB.out hB10)
  clear hB10
  go_wp2_with fail
  refine (pair_calls [98] _).mono ?_
  rintro e w11 ⟨rfl, hB11⟩
  have HL := Lib.hid (HL.out.below hB11)
  have HM := Lib.hid (HM.out.below hB11)
  have HD := Lib.hid (HD.out.below hB11)
  have HX := Lib.hid (HX.out.below hB11)
  have HY := Lib.hid (HY.out.below hB11)
  have HU := Lib.hid (HU.out.below hB11)
  have HV := Lib.hid (HV.out.below hB11)
  have HL1 := Lib.hid (HL1.out.below hB11)
  have HM1 := Lib.hid (HM1.out.below hB11)
  have HM2 := Lib.hid (HM2.out.below hB11)
  have BB := Lib.hid (below2 BB.out hB11)
  clear hB11
  go_wp2_with fail
  refine (pair_calls [99] _).mono ?_
  rintro e w12 ⟨rfl, hB12⟩
  have HL := Lib.hid (HL.out.below hB12)
  have HM := Lib.hid (HM.out.below hB12)
  have HD := Lib.hid (HD.out.below hB12)
  have HX := Lib.hid (HX.out.below hB12)
  have HY := Lib.hid (HY.out.below hB12)
  have HU := Lib.hid (HU.out.below hB12)
  have HV := Lib.hid (HV.out.below hB12)
  have HL1 := Lib.hid (HL1.out.below hB12)
  have HM1 := Lib.hid (HM1.out.below hB12)
  have HM2 := Lib.hid (HM2.out.below hB12)
  have BB := Lib.hid (below2 BB.out hB12)
  clear hB12
  obtain ⟨w13, hW13, hL13, hB13⟩ : ∃ W', w12.alloc (.cells #[.string ⟨#[97]⟩, .int .i64 0, .string ⟨#[]⟩, .string ⟨#[98]⟩, .int .i64 0, .string ⟨#[]⟩, .string ⟨#[99]⟩, .int .i64 0, .string ⟨#[]⟩] 26) = W' ∧ Prs W' (.slice (some ⟨w12.heap.size, 0, none⟩) 3 3) [pA, pB, pC] ∧ Below w12.heap.size w12 W' := ⟨_, rfl, prs_lit w12 [pA, pB, pC] _, below_alloc _ _⟩
  have HL := Lib.hid (HL.out.below hB13)
  have HM := Lib.hid (HM.out.below hB13)
  have HD := Lib.hid (HD.out.below hB13)
  have HX := Lib.hid (HX.out.below hB13)
  have HY := Lib.hid (HY.out.below hB13)
  have HU := Lib.hid (HU.out.below hB13)
  have HV := Lib.hid (HV.out.below hB13)
  have HL1 := Lib.hid (HL1.out.below hB13)
  have HM1 := Lib.hid (HM1.out.below hB13)
  have HM2 := Lib.hid (HM2.out.below hB13)
  have BB := Lib.hid (below2 BB.out hB13)
  clear hB13
  have HQ := Lib.hid hL13
  clear hL13
  go_wp2_with fail
  clear hW13
  refine (KSame HM.out HQ.out).mono ?_
  rintro e w14 ⟨rfl, hB14⟩
  have HL := Lib.hid (HL.out.below hB14)
  have HM := Lib.hid (HM.out.below hB14)
  have HD := Lib.hid (HD.out.below hB14)
  have HX := Lib.hid (HX.out.below hB14)
  have HY := Lib.hid (HY.out.below hB14)
  have HU := Lib.hid (HU.out.below hB14)
  have HV := Lib.hid (HV.out.below hB14)
  have HL1 := Lib.hid (HL1.out.below hB14)
  have HM1 := Lib.hid (HM1.out.below hB14)
  have HM2 := Lib.hid (HM2.out.below hB14)
  have HQ := Lib.hid (HQ.out.below hB14)
  have BB := Lib.hid (below2 BB.out hB14)
  clear hB14
  go_wp2_with fail
  refine (KSame HD.out HL1.out).mono ?_
  rintro e w15 ⟨rfl, hB15⟩
  have HL := Lib.hid (HL.out.below hB15)
  have HM := Lib.hid (HM.out.below hB15)
  have HD := Lib.hid (HD.out.below hB15)
  have HX := Lib.hid (HX.out.below hB15)
  have HY := Lib.hid (HY.out.below hB15)
  have HU := Lib.hid (HU.out.below hB15)
  have HV := Lib.hid (HV.out.below hB15)
  have HL1 := Lib.hid (HL1.out.below hB15)
  have HM1 := Lib.hid (HM1.out.below hB15)
  have HM2 := Lib.hid (HM2.out.below hB15)
  have HQ := Lib.hid (HQ.out.below hB15)
  have BB := Lib.hid (below2 BB.out hB15)
  clear hB15
  go_wp2_with fail
  refine (KSame HX.out HM1.out).mono ?_
  rintro e w16 ⟨rfl, hB16⟩
  have HL := Lib.hid (HL.out.below hB16)
  have HM := Lib.hid (HM.out.below hB16)
  have HD := Lib.hid (HD.out.below hB16)
  have HX := Lib.hid (HX.out.below hB16)
  have HY := Lib.hid (HY.out.below hB16)
  have HU := Lib.hid (HU.out.below hB16)
  have HV := Lib.hid (HV.out.below hB16)
  have HL1 := Lib.hid (HL1.out.below hB16)
  have HM1 := Lib.hid (HM1.out.below hB16)
  have HM2 := Lib.hid (HM2.out.below hB16)
  have HQ := Lib.hid (HQ.out.below hB16)
  have BB := Lib.hid (below2 BB.out hB16)
  clear hB16
  go_wp2_with fail
  refine (KSame HY.out HM2.out).mono ?_
  rintro e w17 ⟨rfl, hB17⟩
  have HL := Lib.hid (HL.out.below hB17)
  have HM := Lib.hid (HM.out.below hB17)
  have HD := Lib.hid (HD.out.below hB17)
  have HX := Lib.hid (HX.out.below hB17)
  have HY := Lib.hid (HY.out.below hB17)
  have HU := Lib.hid (HU.out.below hB17)
  have HV := Lib.hid (HV.out.below hB17)
  have HL1 := Lib.hid (HL1.out.below hB17)
  have HM1 := Lib.hid (HM1.out.below hB17)
  have HM2 := Lib.hid (HM2.out.below hB17)
  have HQ := Lib.hid (HQ.out.below hB17)
  have BB := Lib.hid (below2 BB.out hB17)
  clear hB17
  go_wp2_with fail
  refine (KSame HU.out HM.out).mono ?_
  rintro e w18 ⟨rfl, hB18⟩
  have HL := Lib.hid (HL.out.below hB18)
  have HM := Lib.hid (HM.out.below hB18)
  have HD := Lib.hid (HD.out.below hB18)
  have HX := Lib.hid (HX.out.below hB18)
  have HY := Lib.hid (HY.out.below hB18)
  have HU := Lib.hid (HU.out.below hB18)
  have HV := Lib.hid (HV.out.below hB18)
  have HL1 := Lib.hid (HL1.out.below hB18)
  have HM1 := Lib.hid (HM1.out.below hB18)
  have HM2 := Lib.hid (HM2.out.below hB18)
  have HQ := Lib.hid (HQ.out.below hB18)
  have BB := Lib.hid (below2 BB.out hB18)
  clear hB18
  go_wp2_with fail
  refine (KIs HM.out).mono ?_
  rintro e w19 ⟨rfl, hB19⟩
  have HL := Lib.hid (HL.out.below hB19)
  have HM := Lib.hid (HM.out.below hB19)
  have HD := Lib.hid (HD.out.below hB19)
  have HX := Lib.hid (HX.out.below hB19)
  have HY := Lib.hid (HY.out.below hB19)
  have HU := Lib.hid (HU.out.below hB19)
  have HV := Lib.hid (HV.out.below hB19)
  have HL1 := Lib.hid (HL1.out.below hB19)
  have HM1 := Lib.hid (HM1.out.below hB19)
  have HM2 := Lib.hid (HM2.out.below hB19)
  have HQ := Lib.hid (HQ.out.below hB19)
  have BB := Lib.hid (below2 BB.out hB19)
  clear hB19
  go_wp2_with fail
  refine (pair_calls [98] _).mono ?_
  rintro e w20 ⟨rfl, hB20⟩
  have HL := Lib.hid (HL.out.below hB20)
  have HM := Lib.hid (HM.out.below hB20)
  have HD := Lib.hid (HD.out.below hB20)
  have HX := Lib.hid (HX.out.below hB20)
  have HY := Lib.hid (HY.out.below hB20)
  have HU := Lib.hid (HU.out.below hB20)
  have HV := Lib.hid (HV.out.below hB20)
  have HL1 := Lib.hid (HL1.out.below hB20)
  have HM1 := Lib.hid (HM1.out.below hB20)
  have HM2 := Lib.hid (HM2.out.below hB20)
  have HQ := Lib.hid (HQ.out.below hB20)
  have BB := Lib.hid (below2 BB.out hB20)
  clear hB20
  go_wp2_with fail
  refine (pair_calls [97] _).mono ?_
  rintro e w21 ⟨rfl, hB21⟩
  have HL := Lib.hid (HL.out.below hB21)
  have HM := Lib.hid (HM.out.below hB21)
  have HD := Lib.hid (HD.out.below hB21)
  have HX := Lib.hid (HX.out.below hB21)
  have HY := Lib.hid (HY.out.below hB21)
  have HU := Lib.hid (HU.out.below hB21)
  have HV := Lib.hid (HV.out.below hB21)
  have HL1 := Lib.hid (HL1.out.below hB21)
  have HM1 := Lib.hid (HM1.out.below hB21)
  have HM2 := Lib.hid (HM2.out.below hB21)
  have HQ := Lib.hid (HQ.out.below hB21)
  have BB := Lib.hid (below2 BB.out hB21)
  clear hB21
  obtain ⟨w22, hW22, hL22, hB22⟩ : ∃ W', w21.alloc (.cells #[.string ⟨#[98]⟩, .int .i64 0, .string ⟨#[]⟩, .string ⟨#[97]⟩, .int .i64 0, .string ⟨#[]⟩] 26) = W' ∧ Prs W' (.slice (some ⟨w21.heap.size, 0, none⟩) 2 2) [pB, pA] ∧ Below w21.heap.size w21 W' := ⟨_, rfl, prs_lit w21 [pB, pA] _, below_alloc _ _⟩
  have HL := Lib.hid (HL.out.below hB22)
  have HM := Lib.hid (HM.out.below hB22)
  have HD := Lib.hid (HD.out.below hB22)
  have HX := Lib.hid (HX.out.below hB22)
  have HY := Lib.hid (HY.out.below hB22)
  have HU := Lib.hid (HU.out.below hB22)
  have HV := Lib.hid (HV.out.below hB22)
  have HL1 := Lib.hid (HL1.out.below hB22)
  have HM1 := Lib.hid (HM1.out.below hB22)
  have HM2 := Lib.hid (HM2.out.below hB22)
  have HQ := Lib.hid (HQ.out.below hB22)
  have BB := Lib.hid (below2 BB.out hB22)
  clear hB22
  have HQ2 := Lib.hid hL22
  clear hL22
  go_wp2_with fail
  clear hW22
  refine (KIsNot HQ2.out).mono ?_
  rintro e w23 ⟨rfl, hB23⟩
  have HL := Lib.hid (HL.out.below hB23)
  have HM := Lib.hid (HM.out.below hB23)
  have HD := Lib.hid (HD.out.below hB23)
  have HX := Lib.hid (HX.out.below hB23)
  have HY := Lib.hid (HY.out.below hB23)
  have HU := Lib.hid (HU.out.below hB23)
  have HV := Lib.hid (HV.out.below hB23)
  have HL1 := Lib.hid (HL1.out.below hB23)
  have HM1 := Lib.hid (HM1.out.below hB23)
  have HM2 := Lib.hid (HM2.out.below hB23)
  have HQ := Lib.hid (HQ.out.below hB23)
  have HQ2 := Lib.hid (HQ2.out.below hB23)
  have BB := Lib.hid (below2 BB.out hB23)
  clear hB23
  go_wp2_with fail
  go_ret
  exact ⟨rfl, BB.out⟩

end Go.Proofs.Ytjfhhddiinpbpaa
