/-
  sextonlaw12.MetaBack: the walk.
-/
import Derived.Test.YtijhbnkfkjfcfaaMeKnown
import Derived.Test.YtijhbnkfkjfcfaaMeOne
namespace Go.Proofs.Ytijhbnkfkjfcfaa
set_option maxRecDepth 100000
open Go.RowKit

set_option maxHeartbeats 2000000 in
theorem metaBack_far (z m : Int) (a0 : Option Addr) (c0 : Nat) (cs : List Int) (g : Bool) (s : List UInt8) (w : World) (hl : 40 < cs.length) :
    Calls Try.prog 4 #[MV z m (.slice a0 cs.length c0), .bool g, .string ⟨s.toArray⟩] w fun e w' => e = .returned (.bool true) ∧ Below w.heap.size w w' := by
  have hd : decide ((40 : Int) < cs.length) = true := by rw [decide_eq_true_eq]; omega
  clear hl
  go_enter Try.func4, Try.ntmps4
  go_wp2_with fail
  go_ret
  exact ⟨rfl, below_alloc _ _⟩
set_option maxHeartbeats 2000000 in
theorem metaBack_long (z m : Int) (a0 : Option Addr) (c0 : Nat) (cs : List Int) (g : Bool) (s : List UInt8) (w : World) (hl : cs.length ≤ 40) (h3 : 300 < s.length) :
    Calls Try.prog 4 #[MV z m (.slice a0 cs.length c0), .bool g, .string ⟨s.toArray⟩] w fun e w' => e = .returned (.bool true) ∧ Below w.heap.size w w' := by
  have hd : decide ((40 : Int) < cs.length) = false := by rw [decide_eq_false_iff_not]; omega
  have HSH := Lib.hid (show shortB [s] = false by simp [shortB]; omega)
  have KH := Lib.hid (short_at s (w.alloc (.cells #[.int .i64 z, .int .i64 m, .slice a0 cs.length c0] 24)) (w.heap.size + 1) (World.size_alloc _ _))
  clear hl h3
  go_enter Try.func4, Try.ntmps4
  go_wp2_with fail
  refine KH.out.mono ?_
  rintro e w1 ⟨rfl, rfl⟩
  rw [HSH.out]
  go_wp2_with fail
  go_ret
  exact ⟨rfl, below_alloc2 _ _ _⟩

set_option maxHeartbeats 8000000 in
theorem metaBack_ag1 (z m : Int) (a0 : Option Addr) (c0 : Nat) (cs : List Int) (s : List UInt8) (w : World) (h0 : Ints w (.slice a0 cs.length c0) cs) (hl : cs.length ≤ 40) (h3 : s.length ≤ 300) (A V T : List UInt8) (hAl : A.length ≤ 1000000) (hVl : V.length ≤ 1000000) (sz sm : Int) (scs : List Int) (out : Bool) (rz rm : Int) (rcs : List Int) (hP : putM z m cs = A) (he : putMe z m cs = 0) (hI : metaB z m cs = true) (hG : gotM A = (z, m, cs)) (hf : gotE A = 0) (hV : valM z m cs true = V) (hg : valMe z m cs true = 0) (hR : redM V = (rz, rm, rcs)) (hrg : redG V = true) (hre : redE V = 0) (hS : redM s = (sz, sm, scs)) (hsg : redG s = out) (hsl : scs.length ≤ 1000000) (hT : valM sz sm scs out = T) (hse : redE s = 0) (hj : valMe sz sm scs out = 0) (hts : (T == s) = true) :
    Calls Try.prog 4 #[MV z m (.slice a0 cs.length c0), .bool true, .string ⟨s.toArray⟩] w fun e w' => e = .returned (.bool true) ∧ Below w.heap.size w w' := by
  have hd0 : decide ((40 : Int) < cs.length) = false := by rw [decide_eq_false_iff_not]; omega
  have hsh : shortB [s] = true := by simp [shortB, h3]
  have HSH := Lib.hid hsh
  have KH := Lib.hid (short_at s (w.alloc (.cells #[.int .i64 z, .int .i64 m, .slice a0 cs.length c0] 24)) (w.heap.size + 1) (World.size_alloc _ _))
  have KP := Lib.hid (fun W (h : Ints W (.slice a0 cs.length c0) cs) => mPut_calls z m _ cs W h (by omega))
  have KI := Lib.hid (fun W (h : Ints W (.slice a0 cs.length c0) cs) => mIs_calls z m _ cs W h (by omega))
  have KG := Lib.hid (fun W => mGet_calls A (by omega) W)
  have KV := Lib.hid (fun W (h : Ints W (.slice a0 cs.length c0) cs) => mValue_calls z m _ cs true W h (by omega))
  have KR := Lib.hid (fun W => mRead_calls V (by omega) W)
  have KQ := Lib.hid (fun W => mRead_calls s (by omega) W)
  have KU := Lib.hid (fun v W (h : Ints W v scs) => mValue_calls sz sm v scs out W h hsl)
  rw [hP, he] at KP
  rw [hI] at KI
  rw [hG, hf] at KG
  rw [hV, hg] at KV
  rw [hR, hrg, hre] at KR
  rw [hS, hsg, hse] at KQ
  rw [hT, hj] at KU
  have KS := Lib.hid (fun v W (h : Ints W v cs) (h' : Ints W (.slice a0 cs.length c0) cs) => (show Calls Try.prog 20 #[MV z m v, MV z m (.slice a0 cs.length c0)] W fun e w' => e = .returned (.bool true) ∧ Below W.heap.size W w' by
    have K := mSame_calls z m v cs z m _ cs W h h' (by omega)
    rw [sameM_self] at K
    exact K))
  have M0 := Lib.hid (MSt.new z m h0)
  dsimp only at KG KR KQ
  clear h0 hl hAl hVl hP he hI hG hf hV hg hR hrg hre hS hsg hse hT hj hsl hsh
  go_enter Try.func4, Try.ntmps4
  go_wp2_with fail
  refine KH.out.mono ?_
  rintro e w1 ⟨rfl, rfl⟩
  rw [HSH.out]
  have M1 := Lib.hid (M0.out.below (below_alloc _ (.cells #[.string ⟨s.toArray⟩] 9)))
  obtain ⟨p0, p1, p2, _⟩ := M1.out.2.2.three
  go_wp2_with fail
  clear p0 p1 p2
  refine (KP.out _ M1.out.2.1).mono ?_
  rintro e w2 ⟨rfl, hB2⟩
  have M2 := Lib.hid (M1.out.below hB2)
  clear hB2
  obtain ⟨p0, p1, p2, _⟩ := M2.out.2.2.three
  go_wp2_with fail
  clear p0 p1 p2
  refine (KG.out _).mono ?_
  rintro e w3 ⟨v3, rfl, ho3, hB3⟩
  obtain ⟨b3, d3, rfl⟩ := (ints_own ho3).form
  have hb3 := below_alloc w3 (.cells #[.int .i64 z, .int .i64 m, .slice b3 cs.length d3] 24)
  have I3 := Lib.hid ((ints_own ho3).below hb3)
  have X3 := Lib.hid (Cx.new w3 24 [.int .i64 z, .int .i64 m, .slice b3 cs.length d3])
  have M3 := Lib.hid ((M2.out.below hB3).below hb3)
  clear hB3 hb3 ho3
  obtain ⟨p0, p1, p2, _⟩ := M3.out.2.2.three
  obtain ⟨x0, x1, x2, _⟩ := X3.out.three
  go_wp2_with fail
  clear p0 p1 p2
  clear x0 x1 x2
  refine (KS.out _ _ I3.out M3.out.2.1).mono ?_
  rintro e w4 ⟨rfl, hB4⟩
  have M4 := Lib.hid (M3.out.below hB4)
  clear hB4
  obtain ⟨p0, p1, p2, _⟩ := M4.out.2.2.three
  go_wp2_with fail
  clear p0 p1 p2
  refine (KI.out _ M4.out.2.1).mono ?_
  rintro e w5 ⟨rfl, hB5⟩
  have M5 := Lib.hid (M4.out.below hB5)
  clear hB5
  obtain ⟨p0, p1, p2, _⟩ := M5.out.2.2.three
  go_wp2_with fail
  clear p0 p1 p2
  refine (KV.out _ M5.out.2.1).mono ?_
  rintro e w6 ⟨rfl, hB6⟩
  have M6 := Lib.hid (M5.out.below hB6)
  clear hB6
  obtain ⟨p0, p1, p2, _⟩ := M6.out.2.2.three
  go_wp2_with fail
  clear p0 p1 p2
  refine (KR.out _).mono ?_
  rintro e w7 ⟨v7, rfl, ho7, hB7⟩
  obtain ⟨b7, d7, rfl⟩ := (ints_own ho7).form
  have hb7 := below_alloc w7 (.cells #[.int .i64 rz, .int .i64 rm, .slice b7 rcs.length d7] 24)
  have I7 := Lib.hid ((ints_own ho7).below hb7)
  have X7 := Lib.hid (Cx.new w7 24 [.int .i64 rz, .int .i64 rm, .slice b7 rcs.length d7])
  have M7 := Lib.hid ((M6.out.below hB7).below hb7)
  clear hB7 hb7 ho7
  obtain ⟨p0, p1, p2, _⟩ := M7.out.2.2.three
  obtain ⟨x0, x1, x2, _⟩ := X7.out.three
  go_wp2_with fail
  clear p0 p1 p2
  clear x0 x1 x2
  refine (KQ.out _).mono ?_
  rintro e w8 ⟨v8, rfl, ho8, hB8⟩
  obtain ⟨b8, d8, rfl⟩ := (ints_own ho8).form
  have hb8 := below_alloc w8 (.cells #[.int .i64 sz, .int .i64 sm, .slice b8 scs.length d8] 24)
  have I8 := Lib.hid ((ints_own ho8).below hb8)
  have X8 := Lib.hid (Cx.new w8 24 [.int .i64 sz, .int .i64 sm, .slice b8 scs.length d8])
  have M8 := Lib.hid ((M7.out.below hB8).below hb8)
  clear hB8 hb8 ho8
  obtain ⟨x0, x1, x2, _⟩ := X8.out.three
  go_wp2_with fail
  clear x0 x1 x2
  refine (KU.out _ _ I8.out).mono ?_
  rintro e w9 ⟨rfl, hB9⟩
  have M9 := Lib.hid (M8.out.below hB9)
  clear hB9
  go_wp2_with fail
  refine (mKnown_calls _).mono ?_
  rintro e w10 ⟨rfl, hB10⟩
  have M10 := Lib.hid (M9.out.below hB10)
  clear hB10
  go_wp2_with fail
  go_ret
  exact ⟨rfl, M10.out.1⟩

set_option maxHeartbeats 8000000 in
theorem metaBack_ag0 (z m : Int) (a0 : Option Addr) (c0 : Nat) (cs : List Int) (s : List UInt8) (w : World) (h0 : Ints w (.slice a0 cs.length c0) cs) (hl : cs.length ≤ 40) (h3 : s.length ≤ 300) (A V T : List UInt8) (hAl : A.length ≤ 1000000) (hVl : V.length ≤ 1000000) (sz sm : Int) (scs : List Int) (out : Bool) (rz rm : Int) (rcs : List Int) (i j : Int) (hP : putM z m cs = A) (he : putMe z m cs = 0) (hI : metaB z m cs = true) (hG : gotM A = (z, m, cs)) (hf : gotE A = 0) (hV : valM z m cs true = V) (hg : valMe z m cs true = 0) (hR : redM V = (rz, rm, rcs)) (hrg : redG V = true) (hre : redE V = 0) (hS : redM s = (sz, sm, scs)) (hsg : redG s = out) (hsl : scs.length ≤ 1000000) (hT : valM sz sm scs out = T) (hse : redE s = i) (hi : (i != 0) = true) (hj : valMe sz sm scs out = j) :
    Calls Try.prog 4 #[MV z m (.slice a0 cs.length c0), .bool true, .string ⟨s.toArray⟩] w fun e w' => e = .returned (.bool true) ∧ Below w.heap.size w w' := by
  have hd0 : decide ((40 : Int) < cs.length) = false := by rw [decide_eq_false_iff_not]; omega
  have hsh : shortB [s] = true := by simp [shortB, h3]
  have HSH := Lib.hid hsh
  have KH := Lib.hid (short_at s (w.alloc (.cells #[.int .i64 z, .int .i64 m, .slice a0 cs.length c0] 24)) (w.heap.size + 1) (World.size_alloc _ _))
  have KP := Lib.hid (fun W (h : Ints W (.slice a0 cs.length c0) cs) => mPut_calls z m _ cs W h (by omega))
  have KI := Lib.hid (fun W (h : Ints W (.slice a0 cs.length c0) cs) => mIs_calls z m _ cs W h (by omega))
  have KG := Lib.hid (fun W => mGet_calls A (by omega) W)
  have KV := Lib.hid (fun W (h : Ints W (.slice a0 cs.length c0) cs) => mValue_calls z m _ cs true W h (by omega))
  have KR := Lib.hid (fun W => mRead_calls V (by omega) W)
  have KQ := Lib.hid (fun W => mRead_calls s (by omega) W)
  have KU := Lib.hid (fun v W (h : Ints W v scs) => mValue_calls sz sm v scs out W h hsl)
  rw [hP, he] at KP
  rw [hI] at KI
  rw [hG, hf] at KG
  rw [hV, hg] at KV
  rw [hR, hrg, hre] at KR
  rw [hS, hsg, hse] at KQ
  rw [hT, hj] at KU
  have KS := Lib.hid (fun v W (h : Ints W v cs) (h' : Ints W (.slice a0 cs.length c0) cs) => (show Calls Try.prog 20 #[MV z m v, MV z m (.slice a0 cs.length c0)] W fun e w' => e = .returned (.bool true) ∧ Below W.heap.size W w' by
    have K := mSame_calls z m v cs z m _ cs W h h' (by omega)
    rw [sameM_self] at K
    exact K))
  have M0 := Lib.hid (MSt.new z m h0)
  dsimp only at KG KR KQ
  clear h0 hl hAl hVl hP he hI hG hf hV hg hR hrg hre hS hsg hse hT hj hsl hsh
  go_enter Try.func4, Try.ntmps4
  go_wp2_with fail
  refine KH.out.mono ?_
  rintro e w1 ⟨rfl, rfl⟩
  rw [HSH.out]
  have M1 := Lib.hid (M0.out.below (below_alloc _ (.cells #[.string ⟨s.toArray⟩] 9)))
  obtain ⟨p0, p1, p2, _⟩ := M1.out.2.2.three
  go_wp2_with fail
  clear p0 p1 p2
  refine (KP.out _ M1.out.2.1).mono ?_
  rintro e w2 ⟨rfl, hB2⟩
  have M2 := Lib.hid (M1.out.below hB2)
  clear hB2
  obtain ⟨p0, p1, p2, _⟩ := M2.out.2.2.three
  go_wp2_with fail
  clear p0 p1 p2
  refine (KG.out _).mono ?_
  rintro e w3 ⟨v3, rfl, ho3, hB3⟩
  obtain ⟨b3, d3, rfl⟩ := (ints_own ho3).form
  have hb3 := below_alloc w3 (.cells #[.int .i64 z, .int .i64 m, .slice b3 cs.length d3] 24)
  have I3 := Lib.hid ((ints_own ho3).below hb3)
  have X3 := Lib.hid (Cx.new w3 24 [.int .i64 z, .int .i64 m, .slice b3 cs.length d3])
  have M3 := Lib.hid ((M2.out.below hB3).below hb3)
  clear hB3 hb3 ho3
  obtain ⟨p0, p1, p2, _⟩ := M3.out.2.2.three
  obtain ⟨x0, x1, x2, _⟩ := X3.out.three
  go_wp2_with fail
  clear p0 p1 p2
  clear x0 x1 x2
  refine (KS.out _ _ I3.out M3.out.2.1).mono ?_
  rintro e w4 ⟨rfl, hB4⟩
  have M4 := Lib.hid (M3.out.below hB4)
  clear hB4
  obtain ⟨p0, p1, p2, _⟩ := M4.out.2.2.three
  go_wp2_with fail
  clear p0 p1 p2
  refine (KI.out _ M4.out.2.1).mono ?_
  rintro e w5 ⟨rfl, hB5⟩
  have M5 := Lib.hid (M4.out.below hB5)
  clear hB5
  obtain ⟨p0, p1, p2, _⟩ := M5.out.2.2.three
  go_wp2_with fail
  clear p0 p1 p2
  refine (KV.out _ M5.out.2.1).mono ?_
  rintro e w6 ⟨rfl, hB6⟩
  have M6 := Lib.hid (M5.out.below hB6)
  clear hB6
  obtain ⟨p0, p1, p2, _⟩ := M6.out.2.2.three
  go_wp2_with fail
  clear p0 p1 p2
  refine (KR.out _).mono ?_
  rintro e w7 ⟨v7, rfl, ho7, hB7⟩
  obtain ⟨b7, d7, rfl⟩ := (ints_own ho7).form
  have hb7 := below_alloc w7 (.cells #[.int .i64 rz, .int .i64 rm, .slice b7 rcs.length d7] 24)
  have I7 := Lib.hid ((ints_own ho7).below hb7)
  have X7 := Lib.hid (Cx.new w7 24 [.int .i64 rz, .int .i64 rm, .slice b7 rcs.length d7])
  have M7 := Lib.hid ((M6.out.below hB7).below hb7)
  clear hB7 hb7 ho7
  obtain ⟨p0, p1, p2, _⟩ := M7.out.2.2.three
  obtain ⟨x0, x1, x2, _⟩ := X7.out.three
  go_wp2_with fail
  clear p0 p1 p2
  clear x0 x1 x2
  refine (KQ.out _).mono ?_
  rintro e w8 ⟨v8, rfl, ho8, hB8⟩
  obtain ⟨b8, d8, rfl⟩ := (ints_own ho8).form
  have hb8 := below_alloc w8 (.cells #[.int .i64 sz, .int .i64 sm, .slice b8 scs.length d8] 24)
  have I8 := Lib.hid ((ints_own ho8).below hb8)
  have X8 := Lib.hid (Cx.new w8 24 [.int .i64 sz, .int .i64 sm, .slice b8 scs.length d8])
  have M8 := Lib.hid ((M7.out.below hB8).below hb8)
  clear hB8 hb8 ho8
  obtain ⟨x0, x1, x2, _⟩ := X8.out.three
  go_wp2_with fail
  clear x0 x1 x2
  refine (KU.out _ _ I8.out).mono ?_
  rintro e w9 ⟨rfl, hB9⟩
  have M9 := Lib.hid (M8.out.below hB9)
  clear hB9
  go_wp2_with fail
  refine (mKnown_calls _).mono ?_
  rintro e w10 ⟨rfl, hB10⟩
  have M10 := Lib.hid (M9.out.below hB10)
  clear hB10
  go_wp2_with fail
  go_ret
  exact ⟨rfl, M10.out.1⟩

set_option maxHeartbeats 8000000 in
theorem metaBack_at1 (z m : Int) (a0 : Option Addr) (c0 : Nat) (cs : List Int) (s : List UInt8) (w : World) (h0 : Ints w (.slice a0 cs.length c0) cs) (hl : cs.length ≤ 40) (h3 : s.length ≤ 300) (A V T : List UInt8) (hAl : A.length ≤ 1000000) (hVl : V.length ≤ 1000000) (sz sm : Int) (scs : List Int) (out : Bool) (hP : putM z m cs = A) (he : putMe z m cs = 0) (hI : metaB z m cs = true) (hG : gotM A = (z, m, cs)) (hf : gotE A = 0) (hV : valM z m cs false = V) (hg : valMe z m cs false = 0) (hR : redM V = (z, m, cs)) (hrg : redG V = false) (hre : redE V = 0) (hS : redM s = (sz, sm, scs)) (hsg : redG s = out) (hsl : scs.length ≤ 1000000) (hT : valM sz sm scs out = T) (hse : redE s = 0) (hj : valMe sz sm scs out = 0) (hts : (T == s) = true) :
    Calls Try.prog 4 #[MV z m (.slice a0 cs.length c0), .bool false, .string ⟨s.toArray⟩] w fun e w' => e = .returned (.bool true) ∧ Below w.heap.size w w' := by
  have hd0 : decide ((40 : Int) < cs.length) = false := by rw [decide_eq_false_iff_not]; omega
  have hsh : shortB [s] = true := by simp [shortB, h3]
  have HSH := Lib.hid hsh
  have KH := Lib.hid (short_at s (w.alloc (.cells #[.int .i64 z, .int .i64 m, .slice a0 cs.length c0] 24)) (w.heap.size + 1) (World.size_alloc _ _))
  have KP := Lib.hid (fun W (h : Ints W (.slice a0 cs.length c0) cs) => mPut_calls z m _ cs W h (by omega))
  have KI := Lib.hid (fun W (h : Ints W (.slice a0 cs.length c0) cs) => mIs_calls z m _ cs W h (by omega))
  have KG := Lib.hid (fun W => mGet_calls A (by omega) W)
  have KV := Lib.hid (fun W (h : Ints W (.slice a0 cs.length c0) cs) => mValue_calls z m _ cs false W h (by omega))
  have KR := Lib.hid (fun W => mRead_calls V (by omega) W)
  have KQ := Lib.hid (fun W => mRead_calls s (by omega) W)
  have KU := Lib.hid (fun v W (h : Ints W v scs) => mValue_calls sz sm v scs out W h hsl)
  rw [hP, he] at KP
  rw [hI] at KI
  rw [hG, hf] at KG
  rw [hV, hg] at KV
  rw [hR, hrg, hre] at KR
  rw [hS, hsg, hse] at KQ
  rw [hT, hj] at KU
  have KS := Lib.hid (fun v W (h : Ints W v cs) (h' : Ints W (.slice a0 cs.length c0) cs) => (show Calls Try.prog 20 #[MV z m v, MV z m (.slice a0 cs.length c0)] W fun e w' => e = .returned (.bool true) ∧ Below W.heap.size W w' by
    have K := mSame_calls z m v cs z m _ cs W h h' (by omega)
    rw [sameM_self] at K
    exact K))
  have M0 := Lib.hid (MSt.new z m h0)
  dsimp only at KG KR KQ
  clear h0 hl hAl hVl hP he hI hG hf hV hg hR hrg hre hS hsg hse hT hj hsl hsh
  go_enter Try.func4, Try.ntmps4
  go_wp2_with fail
  refine KH.out.mono ?_
  rintro e w1 ⟨rfl, rfl⟩
  rw [HSH.out]
  have M1 := Lib.hid (M0.out.below (below_alloc _ (.cells #[.string ⟨s.toArray⟩] 9)))
  obtain ⟨p0, p1, p2, _⟩ := M1.out.2.2.three
  go_wp2_with fail
  clear p0 p1 p2
  refine (KP.out _ M1.out.2.1).mono ?_
  rintro e w2 ⟨rfl, hB2⟩
  have M2 := Lib.hid (M1.out.below hB2)
  clear hB2
  obtain ⟨p0, p1, p2, _⟩ := M2.out.2.2.three
  go_wp2_with fail
  clear p0 p1 p2
  refine (KG.out _).mono ?_
  rintro e w3 ⟨v3, rfl, ho3, hB3⟩
  obtain ⟨b3, d3, rfl⟩ := (ints_own ho3).form
  have hb3 := below_alloc w3 (.cells #[.int .i64 z, .int .i64 m, .slice b3 cs.length d3] 24)
  have I3 := Lib.hid ((ints_own ho3).below hb3)
  have X3 := Lib.hid (Cx.new w3 24 [.int .i64 z, .int .i64 m, .slice b3 cs.length d3])
  have M3 := Lib.hid ((M2.out.below hB3).below hb3)
  clear hB3 hb3 ho3
  obtain ⟨p0, p1, p2, _⟩ := M3.out.2.2.three
  obtain ⟨x0, x1, x2, _⟩ := X3.out.three
  go_wp2_with fail
  clear p0 p1 p2
  clear x0 x1 x2
  refine (KS.out _ _ I3.out M3.out.2.1).mono ?_
  rintro e w4 ⟨rfl, hB4⟩
  have M4 := Lib.hid (M3.out.below hB4)
  clear hB4
  obtain ⟨p0, p1, p2, _⟩ := M4.out.2.2.three
  go_wp2_with fail
  clear p0 p1 p2
  refine (KI.out _ M4.out.2.1).mono ?_
  rintro e w5 ⟨rfl, hB5⟩
  have M5 := Lib.hid (M4.out.below hB5)
  clear hB5
  obtain ⟨p0, p1, p2, _⟩ := M5.out.2.2.three
  go_wp2_with fail
  clear p0 p1 p2
  refine (KV.out _ M5.out.2.1).mono ?_
  rintro e w6 ⟨rfl, hB6⟩
  have M6 := Lib.hid (M5.out.below hB6)
  clear hB6
  obtain ⟨p0, p1, p2, _⟩ := M6.out.2.2.three
  go_wp2_with fail
  clear p0 p1 p2
  refine (KR.out _).mono ?_
  rintro e w7 ⟨v7, rfl, ho7, hB7⟩
  obtain ⟨b7, d7, rfl⟩ := (ints_own ho7).form
  have hb7 := below_alloc w7 (.cells #[.int .i64 z, .int .i64 m, .slice b7 cs.length d7] 24)
  have I7 := Lib.hid ((ints_own ho7).below hb7)
  have X7 := Lib.hid (Cx.new w7 24 [.int .i64 z, .int .i64 m, .slice b7 cs.length d7])
  have M7 := Lib.hid ((M6.out.below hB7).below hb7)
  clear hB7 hb7 ho7
  obtain ⟨p0, p1, p2, _⟩ := M7.out.2.2.three
  obtain ⟨x0, x1, x2, _⟩ := X7.out.three
  go_wp2_with fail
  clear p0 p1 p2
  clear x0 x1 x2
  refine (KS.out _ _ I7.out M7.out.2.1).mono ?_
  rintro e w8 ⟨rfl, hB8⟩
  have M8 := Lib.hid (M7.out.below hB8)
  clear hB8
  obtain ⟨p0, p1, p2, _⟩ := M8.out.2.2.three
  go_wp2_with fail
  clear p0 p1 p2
  refine (KQ.out _).mono ?_
  rintro e w9 ⟨v9, rfl, ho9, hB9⟩
  obtain ⟨b9, d9, rfl⟩ := (ints_own ho9).form
  have hb9 := below_alloc w9 (.cells #[.int .i64 sz, .int .i64 sm, .slice b9 scs.length d9] 24)
  have I9 := Lib.hid ((ints_own ho9).below hb9)
  have X9 := Lib.hid (Cx.new w9 24 [.int .i64 sz, .int .i64 sm, .slice b9 scs.length d9])
  have M9 := Lib.hid ((M8.out.below hB9).below hb9)
  clear hB9 hb9 ho9
  obtain ⟨x0, x1, x2, _⟩ := X9.out.three
  go_wp2_with fail
  clear x0 x1 x2
  refine (KU.out _ _ I9.out).mono ?_
  rintro e w10 ⟨rfl, hB10⟩
  have M10 := Lib.hid (M9.out.below hB10)
  clear hB10
  go_wp2_with fail
  refine (mKnown_calls _).mono ?_
  rintro e w11 ⟨rfl, hB11⟩
  have M11 := Lib.hid (M10.out.below hB11)
  clear hB11
  go_wp2_with fail
  go_ret
  exact ⟨rfl, M11.out.1⟩

set_option maxHeartbeats 8000000 in
theorem metaBack_at0 (z m : Int) (a0 : Option Addr) (c0 : Nat) (cs : List Int) (s : List UInt8) (w : World) (h0 : Ints w (.slice a0 cs.length c0) cs) (hl : cs.length ≤ 40) (h3 : s.length ≤ 300) (A V T : List UInt8) (hAl : A.length ≤ 1000000) (hVl : V.length ≤ 1000000) (sz sm : Int) (scs : List Int) (out : Bool) (i j : Int) (hP : putM z m cs = A) (he : putMe z m cs = 0) (hI : metaB z m cs = true) (hG : gotM A = (z, m, cs)) (hf : gotE A = 0) (hV : valM z m cs false = V) (hg : valMe z m cs false = 0) (hR : redM V = (z, m, cs)) (hrg : redG V = false) (hre : redE V = 0) (hS : redM s = (sz, sm, scs)) (hsg : redG s = out) (hsl : scs.length ≤ 1000000) (hT : valM sz sm scs out = T) (hse : redE s = i) (hi : (i != 0) = true) (hj : valMe sz sm scs out = j) :
    Calls Try.prog 4 #[MV z m (.slice a0 cs.length c0), .bool false, .string ⟨s.toArray⟩] w fun e w' => e = .returned (.bool true) ∧ Below w.heap.size w w' := by
  have hd0 : decide ((40 : Int) < cs.length) = false := by rw [decide_eq_false_iff_not]; omega
  have hsh : shortB [s] = true := by simp [shortB, h3]
  have HSH := Lib.hid hsh
  have KH := Lib.hid (short_at s (w.alloc (.cells #[.int .i64 z, .int .i64 m, .slice a0 cs.length c0] 24)) (w.heap.size + 1) (World.size_alloc _ _))
  have KP := Lib.hid (fun W (h : Ints W (.slice a0 cs.length c0) cs) => mPut_calls z m _ cs W h (by omega))
  have KI := Lib.hid (fun W (h : Ints W (.slice a0 cs.length c0) cs) => mIs_calls z m _ cs W h (by omega))
  have KG := Lib.hid (fun W => mGet_calls A (by omega) W)
  have KV := Lib.hid (fun W (h : Ints W (.slice a0 cs.length c0) cs) => mValue_calls z m _ cs false W h (by omega))
  have KR := Lib.hid (fun W => mRead_calls V (by omega) W)
  have KQ := Lib.hid (fun W => mRead_calls s (by omega) W)
  have KU := Lib.hid (fun v W (h : Ints W v scs) => mValue_calls sz sm v scs out W h hsl)
  rw [hP, he] at KP
  rw [hI] at KI
  rw [hG, hf] at KG
  rw [hV, hg] at KV
  rw [hR, hrg, hre] at KR
  rw [hS, hsg, hse] at KQ
  rw [hT, hj] at KU
  have KS := Lib.hid (fun v W (h : Ints W v cs) (h' : Ints W (.slice a0 cs.length c0) cs) => (show Calls Try.prog 20 #[MV z m v, MV z m (.slice a0 cs.length c0)] W fun e w' => e = .returned (.bool true) ∧ Below W.heap.size W w' by
    have K := mSame_calls z m v cs z m _ cs W h h' (by omega)
    rw [sameM_self] at K
    exact K))
  have M0 := Lib.hid (MSt.new z m h0)
  dsimp only at KG KR KQ
  clear h0 hl hAl hVl hP he hI hG hf hV hg hR hrg hre hS hsg hse hT hj hsl hsh
  go_enter Try.func4, Try.ntmps4
  go_wp2_with fail
  refine KH.out.mono ?_
  rintro e w1 ⟨rfl, rfl⟩
  rw [HSH.out]
  have M1 := Lib.hid (M0.out.below (below_alloc _ (.cells #[.string ⟨s.toArray⟩] 9)))
  obtain ⟨p0, p1, p2, _⟩ := M1.out.2.2.three
  go_wp2_with fail
  clear p0 p1 p2
  refine (KP.out _ M1.out.2.1).mono ?_
  rintro e w2 ⟨rfl, hB2⟩
  have M2 := Lib.hid (M1.out.below hB2)
  clear hB2
  obtain ⟨p0, p1, p2, _⟩ := M2.out.2.2.three
  go_wp2_with fail
  clear p0 p1 p2
  refine (KG.out _).mono ?_
  rintro e w3 ⟨v3, rfl, ho3, hB3⟩
  obtain ⟨b3, d3, rfl⟩ := (ints_own ho3).form
  have hb3 := below_alloc w3 (.cells #[.int .i64 z, .int .i64 m, .slice b3 cs.length d3] 24)
  have I3 := Lib.hid ((ints_own ho3).below hb3)
  have X3 := Lib.hid (Cx.new w3 24 [.int .i64 z, .int .i64 m, .slice b3 cs.length d3])
  have M3 := Lib.hid ((M2.out.below hB3).below hb3)
  clear hB3 hb3 ho3
  obtain ⟨p0, p1, p2, _⟩ := M3.out.2.2.three
  obtain ⟨x0, x1, x2, _⟩ := X3.out.three
  go_wp2_with fail
  clear p0 p1 p2
  clear x0 x1 x2
  refine (KS.out _ _ I3.out M3.out.2.1).mono ?_
  rintro e w4 ⟨rfl, hB4⟩
  have M4 := Lib.hid (M3.out.below hB4)
  clear hB4
  obtain ⟨p0, p1, p2, _⟩ := M4.out.2.2.three
  go_wp2_with fail
  clear p0 p1 p2
  refine (KI.out _ M4.out.2.1).mono ?_
  rintro e w5 ⟨rfl, hB5⟩
  have M5 := Lib.hid (M4.out.below hB5)
  clear hB5
  obtain ⟨p0, p1, p2, _⟩ := M5.out.2.2.three
  go_wp2_with fail
  clear p0 p1 p2
  refine (KV.out _ M5.out.2.1).mono ?_
  rintro e w6 ⟨rfl, hB6⟩
  have M6 := Lib.hid (M5.out.below hB6)
  clear hB6
  obtain ⟨p0, p1, p2, _⟩ := M6.out.2.2.three
  go_wp2_with fail
  clear p0 p1 p2
  refine (KR.out _).mono ?_
  rintro e w7 ⟨v7, rfl, ho7, hB7⟩
  obtain ⟨b7, d7, rfl⟩ := (ints_own ho7).form
  have hb7 := below_alloc w7 (.cells #[.int .i64 z, .int .i64 m, .slice b7 cs.length d7] 24)
  have I7 := Lib.hid ((ints_own ho7).below hb7)
  have X7 := Lib.hid (Cx.new w7 24 [.int .i64 z, .int .i64 m, .slice b7 cs.length d7])
  have M7 := Lib.hid ((M6.out.below hB7).below hb7)
  clear hB7 hb7 ho7
  obtain ⟨p0, p1, p2, _⟩ := M7.out.2.2.three
  obtain ⟨x0, x1, x2, _⟩ := X7.out.three
  go_wp2_with fail
  clear p0 p1 p2
  clear x0 x1 x2
  refine (KS.out _ _ I7.out M7.out.2.1).mono ?_
  rintro e w8 ⟨rfl, hB8⟩
  have M8 := Lib.hid (M7.out.below hB8)
  clear hB8
  obtain ⟨p0, p1, p2, _⟩ := M8.out.2.2.three
  go_wp2_with fail
  clear p0 p1 p2
  refine (KQ.out _).mono ?_
  rintro e w9 ⟨v9, rfl, ho9, hB9⟩
  obtain ⟨b9, d9, rfl⟩ := (ints_own ho9).form
  have hb9 := below_alloc w9 (.cells #[.int .i64 sz, .int .i64 sm, .slice b9 scs.length d9] 24)
  have I9 := Lib.hid ((ints_own ho9).below hb9)
  have X9 := Lib.hid (Cx.new w9 24 [.int .i64 sz, .int .i64 sm, .slice b9 scs.length d9])
  have M9 := Lib.hid ((M8.out.below hB9).below hb9)
  clear hB9 hb9 ho9
  obtain ⟨x0, x1, x2, _⟩ := X9.out.three
  go_wp2_with fail
  clear x0 x1 x2
  refine (KU.out _ _ I9.out).mono ?_
  rintro e w10 ⟨rfl, hB10⟩
  have M10 := Lib.hid (M9.out.below hB10)
  clear hB10
  go_wp2_with fail
  refine (mKnown_calls _).mono ?_
  rintro e w11 ⟨rfl, hB11⟩
  have M11 := Lib.hid (M10.out.below hB11)
  clear hB11
  go_wp2_with fail
  go_ret
  exact ⟨rfl, M11.out.1⟩

set_option maxHeartbeats 8000000 in
theorem metaBack_bg1 (z m : Int) (a0 : Option Addr) (c0 : Nat) (cs : List Int) (s : List UInt8) (w : World) (h0 : Ints w (.slice a0 cs.length c0) cs) (hl : cs.length ≤ 40) (h3 : s.length ≤ 300) (A V T : List UInt8) (hAl : A.length ≤ 1000000) (hVl : V.length ≤ 1000000) (sz sm : Int) (scs : List Int) (out : Bool) (gz gm f : Int) (gcs : List Int) (rz rm : Int) (rcs : List Int) (hP : putM z m cs = A) (he : putMe z m cs = 1) (hI : metaB z m cs = false) (hG : gotM A = (gz, gm, gcs)) (hf : gotE A = f) (hV : valM z m cs true = V) (hg : valMe z m cs true = 0) (hR : redM V = (rz, rm, rcs)) (hrg : redG V = true) (hre : redE V = 0) (hS : redM s = (sz, sm, scs)) (hsg : redG s = out) (hsl : scs.length ≤ 1000000) (hT : valM sz sm scs out = T) (hse : redE s = 0) (hj : valMe sz sm scs out = 0) (hts : (T == s) = true) :
    Calls Try.prog 4 #[MV z m (.slice a0 cs.length c0), .bool true, .string ⟨s.toArray⟩] w fun e w' => e = .returned (.bool true) ∧ Below w.heap.size w w' := by
  have hd0 : decide ((40 : Int) < cs.length) = false := by rw [decide_eq_false_iff_not]; omega
  have hsh : shortB [s] = true := by simp [shortB, h3]
  have HSH := Lib.hid hsh
  have KH := Lib.hid (short_at s (w.alloc (.cells #[.int .i64 z, .int .i64 m, .slice a0 cs.length c0] 24)) (w.heap.size + 1) (World.size_alloc _ _))
  have KP := Lib.hid (fun W (h : Ints W (.slice a0 cs.length c0) cs) => mPut_calls z m _ cs W h (by omega))
  have KI := Lib.hid (fun W (h : Ints W (.slice a0 cs.length c0) cs) => mIs_calls z m _ cs W h (by omega))
  have KG := Lib.hid (fun W => mGet_calls A (by omega) W)
  have KV := Lib.hid (fun W (h : Ints W (.slice a0 cs.length c0) cs) => mValue_calls z m _ cs true W h (by omega))
  have KR := Lib.hid (fun W => mRead_calls V (by omega) W)
  have KQ := Lib.hid (fun W => mRead_calls s (by omega) W)
  have KU := Lib.hid (fun v W (h : Ints W v scs) => mValue_calls sz sm v scs out W h hsl)
  rw [hP, he] at KP
  rw [hI] at KI
  rw [hG, hf] at KG
  rw [hV, hg] at KV
  rw [hR, hrg, hre] at KR
  rw [hS, hsg, hse] at KQ
  rw [hT, hj] at KU
  have M0 := Lib.hid (MSt.new z m h0)
  dsimp only at KG KR KQ
  clear h0 hl hAl hVl hP he hI hG hf hV hg hR hrg hre hS hsg hse hT hj hsl hsh
  go_enter Try.func4, Try.ntmps4
  go_wp2_with fail
  refine KH.out.mono ?_
  rintro e w1 ⟨rfl, rfl⟩
  rw [HSH.out]
  have M1 := Lib.hid (M0.out.below (below_alloc _ (.cells #[.string ⟨s.toArray⟩] 9)))
  obtain ⟨p0, p1, p2, _⟩ := M1.out.2.2.three
  go_wp2_with fail
  clear p0 p1 p2
  refine (KP.out _ M1.out.2.1).mono ?_
  rintro e w2 ⟨rfl, hB2⟩
  have M2 := Lib.hid (M1.out.below hB2)
  clear hB2
  obtain ⟨p0, p1, p2, _⟩ := M2.out.2.2.three
  go_wp2_with fail
  clear p0 p1 p2
  refine (KG.out _).mono ?_
  rintro e w3 ⟨v3, rfl, ho3, hB3⟩
  obtain ⟨b3, d3, rfl⟩ := (ints_own ho3).form
  have hb3 := below_alloc w3 (.cells #[.int .i64 gz, .int .i64 gm, .slice b3 gcs.length d3] 24)
  have I3 := Lib.hid ((ints_own ho3).below hb3)
  have X3 := Lib.hid (Cx.new w3 24 [.int .i64 gz, .int .i64 gm, .slice b3 gcs.length d3])
  have M3 := Lib.hid ((M2.out.below hB3).below hb3)
  clear hB3 hb3 ho3
  obtain ⟨p0, p1, p2, _⟩ := M3.out.2.2.three
  obtain ⟨x0, x1, x2, _⟩ := X3.out.three
  go_wp2_with fail
  clear p0 p1 p2
  clear x0 x1 x2
  refine (KI.out _ M3.out.2.1).mono ?_
  rintro e w4 ⟨rfl, hB4⟩
  have M4 := Lib.hid (M3.out.below hB4)
  clear hB4
  obtain ⟨p0, p1, p2, _⟩ := M4.out.2.2.three
  go_wp2_with fail
  clear p0 p1 p2
  refine (KV.out _ M4.out.2.1).mono ?_
  rintro e w5 ⟨rfl, hB5⟩
  have M5 := Lib.hid (M4.out.below hB5)
  clear hB5
  obtain ⟨p0, p1, p2, _⟩ := M5.out.2.2.three
  go_wp2_with fail
  clear p0 p1 p2
  refine (KR.out _).mono ?_
  rintro e w6 ⟨v6, rfl, ho6, hB6⟩
  obtain ⟨b6, d6, rfl⟩ := (ints_own ho6).form
  have hb6 := below_alloc w6 (.cells #[.int .i64 rz, .int .i64 rm, .slice b6 rcs.length d6] 24)
  have I6 := Lib.hid ((ints_own ho6).below hb6)
  have X6 := Lib.hid (Cx.new w6 24 [.int .i64 rz, .int .i64 rm, .slice b6 rcs.length d6])
  have M6 := Lib.hid ((M5.out.below hB6).below hb6)
  clear hB6 hb6 ho6
  obtain ⟨p0, p1, p2, _⟩ := M6.out.2.2.three
  obtain ⟨x0, x1, x2, _⟩ := X6.out.three
  go_wp2_with fail
  clear p0 p1 p2
  clear x0 x1 x2
  refine (KQ.out _).mono ?_
  rintro e w7 ⟨v7, rfl, ho7, hB7⟩
  obtain ⟨b7, d7, rfl⟩ := (ints_own ho7).form
  have hb7 := below_alloc w7 (.cells #[.int .i64 sz, .int .i64 sm, .slice b7 scs.length d7] 24)
  have I7 := Lib.hid ((ints_own ho7).below hb7)
  have X7 := Lib.hid (Cx.new w7 24 [.int .i64 sz, .int .i64 sm, .slice b7 scs.length d7])
  have M7 := Lib.hid ((M6.out.below hB7).below hb7)
  clear hB7 hb7 ho7
  obtain ⟨x0, x1, x2, _⟩ := X7.out.three
  go_wp2_with fail
  clear x0 x1 x2
  refine (KU.out _ _ I7.out).mono ?_
  rintro e w8 ⟨rfl, hB8⟩
  have M8 := Lib.hid (M7.out.below hB8)
  clear hB8
  go_wp2_with fail
  refine (mKnown_calls _).mono ?_
  rintro e w9 ⟨rfl, hB9⟩
  have M9 := Lib.hid (M8.out.below hB9)
  clear hB9
  go_wp2_with fail
  go_ret
  exact ⟨rfl, M9.out.1⟩

set_option maxHeartbeats 8000000 in
theorem metaBack_bg0 (z m : Int) (a0 : Option Addr) (c0 : Nat) (cs : List Int) (s : List UInt8) (w : World) (h0 : Ints w (.slice a0 cs.length c0) cs) (hl : cs.length ≤ 40) (h3 : s.length ≤ 300) (A V T : List UInt8) (hAl : A.length ≤ 1000000) (hVl : V.length ≤ 1000000) (sz sm : Int) (scs : List Int) (out : Bool) (gz gm f : Int) (gcs : List Int) (rz rm : Int) (rcs : List Int) (i j : Int) (hP : putM z m cs = A) (he : putMe z m cs = 1) (hI : metaB z m cs = false) (hG : gotM A = (gz, gm, gcs)) (hf : gotE A = f) (hV : valM z m cs true = V) (hg : valMe z m cs true = 0) (hR : redM V = (rz, rm, rcs)) (hrg : redG V = true) (hre : redE V = 0) (hS : redM s = (sz, sm, scs)) (hsg : redG s = out) (hsl : scs.length ≤ 1000000) (hT : valM sz sm scs out = T) (hse : redE s = i) (hi : (i != 0) = true) (hj : valMe sz sm scs out = j) :
    Calls Try.prog 4 #[MV z m (.slice a0 cs.length c0), .bool true, .string ⟨s.toArray⟩] w fun e w' => e = .returned (.bool true) ∧ Below w.heap.size w w' := by
  have hd0 : decide ((40 : Int) < cs.length) = false := by rw [decide_eq_false_iff_not]; omega
  have hsh : shortB [s] = true := by simp [shortB, h3]
  have HSH := Lib.hid hsh
  have KH := Lib.hid (short_at s (w.alloc (.cells #[.int .i64 z, .int .i64 m, .slice a0 cs.length c0] 24)) (w.heap.size + 1) (World.size_alloc _ _))
  have KP := Lib.hid (fun W (h : Ints W (.slice a0 cs.length c0) cs) => mPut_calls z m _ cs W h (by omega))
  have KI := Lib.hid (fun W (h : Ints W (.slice a0 cs.length c0) cs) => mIs_calls z m _ cs W h (by omega))
  have KG := Lib.hid (fun W => mGet_calls A (by omega) W)
  have KV := Lib.hid (fun W (h : Ints W (.slice a0 cs.length c0) cs) => mValue_calls z m _ cs true W h (by omega))
  have KR := Lib.hid (fun W => mRead_calls V (by omega) W)
  have KQ := Lib.hid (fun W => mRead_calls s (by omega) W)
  have KU := Lib.hid (fun v W (h : Ints W v scs) => mValue_calls sz sm v scs out W h hsl)
  rw [hP, he] at KP
  rw [hI] at KI
  rw [hG, hf] at KG
  rw [hV, hg] at KV
  rw [hR, hrg, hre] at KR
  rw [hS, hsg, hse] at KQ
  rw [hT, hj] at KU
  have M0 := Lib.hid (MSt.new z m h0)
  dsimp only at KG KR KQ
  clear h0 hl hAl hVl hP he hI hG hf hV hg hR hrg hre hS hsg hse hT hj hsl hsh
  go_enter Try.func4, Try.ntmps4
  go_wp2_with fail
  refine KH.out.mono ?_
  rintro e w1 ⟨rfl, rfl⟩
  rw [HSH.out]
  have M1 := Lib.hid (M0.out.below (below_alloc _ (.cells #[.string ⟨s.toArray⟩] 9)))
  obtain ⟨p0, p1, p2, _⟩ := M1.out.2.2.three
  go_wp2_with fail
  clear p0 p1 p2
  refine (KP.out _ M1.out.2.1).mono ?_
  rintro e w2 ⟨rfl, hB2⟩
  have M2 := Lib.hid (M1.out.below hB2)
  clear hB2
  obtain ⟨p0, p1, p2, _⟩ := M2.out.2.2.three
  go_wp2_with fail
  clear p0 p1 p2
  refine (KG.out _).mono ?_
  rintro e w3 ⟨v3, rfl, ho3, hB3⟩
  obtain ⟨b3, d3, rfl⟩ := (ints_own ho3).form
  have hb3 := below_alloc w3 (.cells #[.int .i64 gz, .int .i64 gm, .slice b3 gcs.length d3] 24)
  have I3 := Lib.hid ((ints_own ho3).below hb3)
  have X3 := Lib.hid (Cx.new w3 24 [.int .i64 gz, .int .i64 gm, .slice b3 gcs.length d3])
  have M3 := Lib.hid ((M2.out.below hB3).below hb3)
  clear hB3 hb3 ho3
  obtain ⟨p0, p1, p2, _⟩ := M3.out.2.2.three
  obtain ⟨x0, x1, x2, _⟩ := X3.out.three
  go_wp2_with fail
  clear p0 p1 p2
  clear x0 x1 x2
  refine (KI.out _ M3.out.2.1).mono ?_
  rintro e w4 ⟨rfl, hB4⟩
  have M4 := Lib.hid (M3.out.below hB4)
  clear hB4
  obtain ⟨p0, p1, p2, _⟩ := M4.out.2.2.three
  go_wp2_with fail
  clear p0 p1 p2
  refine (KV.out _ M4.out.2.1).mono ?_
  rintro e w5 ⟨rfl, hB5⟩
  have M5 := Lib.hid (M4.out.below hB5)
  clear hB5
  obtain ⟨p0, p1, p2, _⟩ := M5.out.2.2.three
  go_wp2_with fail
  clear p0 p1 p2
  refine (KR.out _).mono ?_
  rintro e w6 ⟨v6, rfl, ho6, hB6⟩
  obtain ⟨b6, d6, rfl⟩ := (ints_own ho6).form
  have hb6 := below_alloc w6 (.cells #[.int .i64 rz, .int .i64 rm, .slice b6 rcs.length d6] 24)
  have I6 := Lib.hid ((ints_own ho6).below hb6)
  have X6 := Lib.hid (Cx.new w6 24 [.int .i64 rz, .int .i64 rm, .slice b6 rcs.length d6])
  have M6 := Lib.hid ((M5.out.below hB6).below hb6)
  clear hB6 hb6 ho6
  obtain ⟨p0, p1, p2, _⟩ := M6.out.2.2.three
  obtain ⟨x0, x1, x2, _⟩ := X6.out.three
  go_wp2_with fail
  clear p0 p1 p2
  clear x0 x1 x2
  refine (KQ.out _).mono ?_
  rintro e w7 ⟨v7, rfl, ho7, hB7⟩
  obtain ⟨b7, d7, rfl⟩ := (ints_own ho7).form
  have hb7 := below_alloc w7 (.cells #[.int .i64 sz, .int .i64 sm, .slice b7 scs.length d7] 24)
  have I7 := Lib.hid ((ints_own ho7).below hb7)
  have X7 := Lib.hid (Cx.new w7 24 [.int .i64 sz, .int .i64 sm, .slice b7 scs.length d7])
  have M7 := Lib.hid ((M6.out.below hB7).below hb7)
  clear hB7 hb7 ho7
  obtain ⟨x0, x1, x2, _⟩ := X7.out.three
  go_wp2_with fail
  clear x0 x1 x2
  refine (KU.out _ _ I7.out).mono ?_
  rintro e w8 ⟨rfl, hB8⟩
  have M8 := Lib.hid (M7.out.below hB8)
  clear hB8
  go_wp2_with fail
  refine (mKnown_calls _).mono ?_
  rintro e w9 ⟨rfl, hB9⟩
  have M9 := Lib.hid (M8.out.below hB9)
  clear hB9
  go_wp2_with fail
  go_ret
  exact ⟨rfl, M9.out.1⟩

set_option maxHeartbeats 8000000 in
theorem metaBack_bt1 (z m : Int) (a0 : Option Addr) (c0 : Nat) (cs : List Int) (s : List UInt8) (w : World) (h0 : Ints w (.slice a0 cs.length c0) cs) (hl : cs.length ≤ 40) (h3 : s.length ≤ 300) (A V T : List UInt8) (hAl : A.length ≤ 1000000) (hVl : V.length ≤ 1000000) (sz sm : Int) (scs : List Int) (out : Bool) (gz gm f : Int) (gcs : List Int) (rz rm : Int) (rcs : List Int) (was : Bool) (h : Int) (hP : putM z m cs = A) (he : putMe z m cs = 1) (hI : metaB z m cs = false) (hG : gotM A = (gz, gm, gcs)) (hf : gotE A = f) (hV : valM z m cs false = V) (hg : valMe z m cs false = 1) (hR : redM V = (rz, rm, rcs)) (hrg : redG V = was) (hre : redE V = h) (hS : redM s = (sz, sm, scs)) (hsg : redG s = out) (hsl : scs.length ≤ 1000000) (hT : valM sz sm scs out = T) (hse : redE s = 0) (hj : valMe sz sm scs out = 0) (hts : (T == s) = true) :
    Calls Try.prog 4 #[MV z m (.slice a0 cs.length c0), .bool false, .string ⟨s.toArray⟩] w fun e w' => e = .returned (.bool true) ∧ Below w.heap.size w w' := by
  have hd0 : decide ((40 : Int) < cs.length) = false := by rw [decide_eq_false_iff_not]; omega
  have hsh : shortB [s] = true := by simp [shortB, h3]
  have HSH := Lib.hid hsh
  have KH := Lib.hid (short_at s (w.alloc (.cells #[.int .i64 z, .int .i64 m, .slice a0 cs.length c0] 24)) (w.heap.size + 1) (World.size_alloc _ _))
  have KP := Lib.hid (fun W (h : Ints W (.slice a0 cs.length c0) cs) => mPut_calls z m _ cs W h (by omega))
  have KI := Lib.hid (fun W (h : Ints W (.slice a0 cs.length c0) cs) => mIs_calls z m _ cs W h (by omega))
  have KG := Lib.hid (fun W => mGet_calls A (by omega) W)
  have KV := Lib.hid (fun W (h : Ints W (.slice a0 cs.length c0) cs) => mValue_calls z m _ cs false W h (by omega))
  have KR := Lib.hid (fun W => mRead_calls V (by omega) W)
  have KQ := Lib.hid (fun W => mRead_calls s (by omega) W)
  have KU := Lib.hid (fun v W (h : Ints W v scs) => mValue_calls sz sm v scs out W h hsl)
  rw [hP, he] at KP
  rw [hI] at KI
  rw [hG, hf] at KG
  rw [hV, hg] at KV
  rw [hR, hrg, hre] at KR
  rw [hS, hsg, hse] at KQ
  rw [hT, hj] at KU
  have M0 := Lib.hid (MSt.new z m h0)
  dsimp only at KG KR KQ
  clear h0 hl hAl hVl hP he hI hG hf hV hg hR hrg hre hS hsg hse hT hj hsl hsh
  go_enter Try.func4, Try.ntmps4
  go_wp2_with fail
  refine KH.out.mono ?_
  rintro e w1 ⟨rfl, rfl⟩
  rw [HSH.out]
  have M1 := Lib.hid (M0.out.below (below_alloc _ (.cells #[.string ⟨s.toArray⟩] 9)))
  obtain ⟨p0, p1, p2, _⟩ := M1.out.2.2.three
  go_wp2_with fail
  clear p0 p1 p2
  refine (KP.out _ M1.out.2.1).mono ?_
  rintro e w2 ⟨rfl, hB2⟩
  have M2 := Lib.hid (M1.out.below hB2)
  clear hB2
  obtain ⟨p0, p1, p2, _⟩ := M2.out.2.2.three
  go_wp2_with fail
  clear p0 p1 p2
  refine (KG.out _).mono ?_
  rintro e w3 ⟨v3, rfl, ho3, hB3⟩
  obtain ⟨b3, d3, rfl⟩ := (ints_own ho3).form
  have hb3 := below_alloc w3 (.cells #[.int .i64 gz, .int .i64 gm, .slice b3 gcs.length d3] 24)
  have I3 := Lib.hid ((ints_own ho3).below hb3)
  have X3 := Lib.hid (Cx.new w3 24 [.int .i64 gz, .int .i64 gm, .slice b3 gcs.length d3])
  have M3 := Lib.hid ((M2.out.below hB3).below hb3)
  clear hB3 hb3 ho3
  obtain ⟨p0, p1, p2, _⟩ := M3.out.2.2.three
  obtain ⟨x0, x1, x2, _⟩ := X3.out.three
  go_wp2_with fail
  clear p0 p1 p2
  clear x0 x1 x2
  refine (KI.out _ M3.out.2.1).mono ?_
  rintro e w4 ⟨rfl, hB4⟩
  have M4 := Lib.hid (M3.out.below hB4)
  clear hB4
  obtain ⟨p0, p1, p2, _⟩ := M4.out.2.2.three
  go_wp2_with fail
  clear p0 p1 p2
  refine (KV.out _ M4.out.2.1).mono ?_
  rintro e w5 ⟨rfl, hB5⟩
  have M5 := Lib.hid (M4.out.below hB5)
  clear hB5
  obtain ⟨p0, p1, p2, _⟩ := M5.out.2.2.three
  go_wp2_with fail
  clear p0 p1 p2
  refine (KR.out _).mono ?_
  rintro e w6 ⟨v6, rfl, ho6, hB6⟩
  obtain ⟨b6, d6, rfl⟩ := (ints_own ho6).form
  have hb6 := below_alloc w6 (.cells #[.int .i64 rz, .int .i64 rm, .slice b6 rcs.length d6] 24)
  have I6 := Lib.hid ((ints_own ho6).below hb6)
  have X6 := Lib.hid (Cx.new w6 24 [.int .i64 rz, .int .i64 rm, .slice b6 rcs.length d6])
  have M6 := Lib.hid ((M5.out.below hB6).below hb6)
  clear hB6 hb6 ho6
  obtain ⟨p0, p1, p2, _⟩ := M6.out.2.2.three
  obtain ⟨x0, x1, x2, _⟩ := X6.out.three
  go_wp2_with fail
  clear p0 p1 p2
  clear x0 x1 x2
  refine (KQ.out _).mono ?_
  rintro e w7 ⟨v7, rfl, ho7, hB7⟩
  obtain ⟨b7, d7, rfl⟩ := (ints_own ho7).form
  have hb7 := below_alloc w7 (.cells #[.int .i64 sz, .int .i64 sm, .slice b7 scs.length d7] 24)
  have I7 := Lib.hid ((ints_own ho7).below hb7)
  have X7 := Lib.hid (Cx.new w7 24 [.int .i64 sz, .int .i64 sm, .slice b7 scs.length d7])
  have M7 := Lib.hid ((M6.out.below hB7).below hb7)
  clear hB7 hb7 ho7
  obtain ⟨x0, x1, x2, _⟩ := X7.out.three
  go_wp2_with fail
  clear x0 x1 x2
  refine (KU.out _ _ I7.out).mono ?_
  rintro e w8 ⟨rfl, hB8⟩
  have M8 := Lib.hid (M7.out.below hB8)
  clear hB8
  go_wp2_with fail
  refine (mKnown_calls _).mono ?_
  rintro e w9 ⟨rfl, hB9⟩
  have M9 := Lib.hid (M8.out.below hB9)
  clear hB9
  go_wp2_with fail
  go_ret
  exact ⟨rfl, M9.out.1⟩

set_option maxHeartbeats 8000000 in
theorem metaBack_bt0 (z m : Int) (a0 : Option Addr) (c0 : Nat) (cs : List Int) (s : List UInt8) (w : World) (h0 : Ints w (.slice a0 cs.length c0) cs) (hl : cs.length ≤ 40) (h3 : s.length ≤ 300) (A V T : List UInt8) (hAl : A.length ≤ 1000000) (hVl : V.length ≤ 1000000) (sz sm : Int) (scs : List Int) (out : Bool) (gz gm f : Int) (gcs : List Int) (rz rm : Int) (rcs : List Int) (was : Bool) (h : Int) (i j : Int) (hP : putM z m cs = A) (he : putMe z m cs = 1) (hI : metaB z m cs = false) (hG : gotM A = (gz, gm, gcs)) (hf : gotE A = f) (hV : valM z m cs false = V) (hg : valMe z m cs false = 1) (hR : redM V = (rz, rm, rcs)) (hrg : redG V = was) (hre : redE V = h) (hS : redM s = (sz, sm, scs)) (hsg : redG s = out) (hsl : scs.length ≤ 1000000) (hT : valM sz sm scs out = T) (hse : redE s = i) (hi : (i != 0) = true) (hj : valMe sz sm scs out = j) :
    Calls Try.prog 4 #[MV z m (.slice a0 cs.length c0), .bool false, .string ⟨s.toArray⟩] w fun e w' => e = .returned (.bool true) ∧ Below w.heap.size w w' := by
  have hd0 : decide ((40 : Int) < cs.length) = false := by rw [decide_eq_false_iff_not]; omega
  have hsh : shortB [s] = true := by simp [shortB, h3]
  have HSH := Lib.hid hsh
  have KH := Lib.hid (short_at s (w.alloc (.cells #[.int .i64 z, .int .i64 m, .slice a0 cs.length c0] 24)) (w.heap.size + 1) (World.size_alloc _ _))
  have KP := Lib.hid (fun W (h : Ints W (.slice a0 cs.length c0) cs) => mPut_calls z m _ cs W h (by omega))
  have KI := Lib.hid (fun W (h : Ints W (.slice a0 cs.length c0) cs) => mIs_calls z m _ cs W h (by omega))
  have KG := Lib.hid (fun W => mGet_calls A (by omega) W)
  have KV := Lib.hid (fun W (h : Ints W (.slice a0 cs.length c0) cs) => mValue_calls z m _ cs false W h (by omega))
  have KR := Lib.hid (fun W => mRead_calls V (by omega) W)
  have KQ := Lib.hid (fun W => mRead_calls s (by omega) W)
  have KU := Lib.hid (fun v W (h : Ints W v scs) => mValue_calls sz sm v scs out W h hsl)
  rw [hP, he] at KP
  rw [hI] at KI
  rw [hG, hf] at KG
  rw [hV, hg] at KV
  rw [hR, hrg, hre] at KR
  rw [hS, hsg, hse] at KQ
  rw [hT, hj] at KU
  have M0 := Lib.hid (MSt.new z m h0)
  dsimp only at KG KR KQ
  clear h0 hl hAl hVl hP he hI hG hf hV hg hR hrg hre hS hsg hse hT hj hsl hsh
  go_enter Try.func4, Try.ntmps4
  go_wp2_with fail
  refine KH.out.mono ?_
  rintro e w1 ⟨rfl, rfl⟩
  rw [HSH.out]
  have M1 := Lib.hid (M0.out.below (below_alloc _ (.cells #[.string ⟨s.toArray⟩] 9)))
  obtain ⟨p0, p1, p2, _⟩ := M1.out.2.2.three
  go_wp2_with fail
  clear p0 p1 p2
  refine (KP.out _ M1.out.2.1).mono ?_
  rintro e w2 ⟨rfl, hB2⟩
  have M2 := Lib.hid (M1.out.below hB2)
  clear hB2
  obtain ⟨p0, p1, p2, _⟩ := M2.out.2.2.three
  go_wp2_with fail
  clear p0 p1 p2
  refine (KG.out _).mono ?_
  rintro e w3 ⟨v3, rfl, ho3, hB3⟩
  obtain ⟨b3, d3, rfl⟩ := (ints_own ho3).form
  have hb3 := below_alloc w3 (.cells #[.int .i64 gz, .int .i64 gm, .slice b3 gcs.length d3] 24)
  have I3 := Lib.hid ((ints_own ho3).below hb3)
  have X3 := Lib.hid (Cx.new w3 24 [.int .i64 gz, .int .i64 gm, .slice b3 gcs.length d3])
  have M3 := Lib.hid ((M2.out.below hB3).below hb3)
  clear hB3 hb3 ho3
  obtain ⟨p0, p1, p2, _⟩ := M3.out.2.2.three
  obtain ⟨x0, x1, x2, _⟩ := X3.out.three
  go_wp2_with fail
  clear p0 p1 p2
  clear x0 x1 x2
  refine (KI.out _ M3.out.2.1).mono ?_
  rintro e w4 ⟨rfl, hB4⟩
  have M4 := Lib.hid (M3.out.below hB4)
  clear hB4
  obtain ⟨p0, p1, p2, _⟩ := M4.out.2.2.three
  go_wp2_with fail
  clear p0 p1 p2
  refine (KV.out _ M4.out.2.1).mono ?_
  rintro e w5 ⟨rfl, hB5⟩
  have M5 := Lib.hid (M4.out.below hB5)
  clear hB5
  obtain ⟨p0, p1, p2, _⟩ := M5.out.2.2.three
  go_wp2_with fail
  clear p0 p1 p2
  refine (KR.out _).mono ?_
  rintro e w6 ⟨v6, rfl, ho6, hB6⟩
  obtain ⟨b6, d6, rfl⟩ := (ints_own ho6).form
  have hb6 := below_alloc w6 (.cells #[.int .i64 rz, .int .i64 rm, .slice b6 rcs.length d6] 24)
  have I6 := Lib.hid ((ints_own ho6).below hb6)
  have X6 := Lib.hid (Cx.new w6 24 [.int .i64 rz, .int .i64 rm, .slice b6 rcs.length d6])
  have M6 := Lib.hid ((M5.out.below hB6).below hb6)
  clear hB6 hb6 ho6
  obtain ⟨p0, p1, p2, _⟩ := M6.out.2.2.three
  obtain ⟨x0, x1, x2, _⟩ := X6.out.three
  go_wp2_with fail
  clear p0 p1 p2
  clear x0 x1 x2
  refine (KQ.out _).mono ?_
  rintro e w7 ⟨v7, rfl, ho7, hB7⟩
  obtain ⟨b7, d7, rfl⟩ := (ints_own ho7).form
  have hb7 := below_alloc w7 (.cells #[.int .i64 sz, .int .i64 sm, .slice b7 scs.length d7] 24)
  have I7 := Lib.hid ((ints_own ho7).below hb7)
  have X7 := Lib.hid (Cx.new w7 24 [.int .i64 sz, .int .i64 sm, .slice b7 scs.length d7])
  have M7 := Lib.hid ((M6.out.below hB7).below hb7)
  clear hB7 hb7 ho7
  obtain ⟨x0, x1, x2, _⟩ := X7.out.three
  go_wp2_with fail
  clear x0 x1 x2
  refine (KU.out _ _ I7.out).mono ?_
  rintro e w8 ⟨rfl, hB8⟩
  have M8 := Lib.hid (M7.out.below hB8)
  clear hB8
  go_wp2_with fail
  refine (mKnown_calls _).mono ?_
  rintro e w9 ⟨rfl, hB9⟩
  have M9 := Lib.hid (M8.out.below hB9)
  clear hB9
  go_wp2_with fail
  go_ret
  exact ⟨rfl, M9.out.1⟩

theorem metaBack_walk (z m : Int) (u : Value) (cs : List Int) (g : Bool) (s : List UInt8) (w : World) (h0 : Ints w u cs) (_ : cs.length ≤ maxLen) (_ : s.length ≤ maxLen) :
    Calls Try.prog 4 #[MV z m u, .bool g, .string ⟨s.toArray⟩] w fun e w' => e = .returned (.bool true) ∧ Below w.heap.size w w' := by
  obtain ⟨a0, c0, rfl⟩ := h0.form
  by_cases hl0 : 40 < cs.length
  · exact metaBack_far z m a0 c0 cs g s w hl0
  by_cases hl1 : 300 < s.length
  · exact metaBack_long z m a0 c0 cs g s w (by omega) hl1
  have hsl : (redM s).2.2.length ≤ 1000000 := Nat.le_trans (redM_len s) (by decide)
  have hl : cs.length ≤ 40 := by omega
  have h3 : s.length ≤ 300 := by omega
  have hP := putM_len z m cs hl
  have hV := fun g => valM_len z m cs g hl
  by_cases hi : redE s = 0
  · obtain ⟨hj, hts⟩ := red_back hi
    cases hm : metaB z m cs with
    | true =>
      obtain ⟨q1, q2, q3, q4⟩ := put_facts hm
      cases g with
      | true => exact metaBack_ag1 z m a0 c0 cs s w h0 hl h3 _ _ _ hP (hV true) _ _ _ _ 0 0 [] rfl q1 hm q2 q3 rfl rfl rfl rfl rfl rfl rfl hsl rfl hi hj hts
      | false =>
        obtain ⟨q5, q6, q7, q8⟩ := val_facts hm
        exact metaBack_at1 z m a0 c0 cs s w h0 hl h3 _ _ _ hP (hV false) _ _ _ _ rfl q1 hm q2 q3 rfl q5 q6 q7 q8 rfl rfl hsl rfl hi hj hts
    | false =>
      have q1 : putMe z m cs = 1 := by simp [putMe, hm]
      cases g with
      | true => exact metaBack_bg1 z m a0 c0 cs s w h0 hl h3 _ _ _ hP (hV true) _ _ _ _ _ _ _ _ 0 0 [] rfl q1 hm rfl rfl rfl rfl rfl rfl rfl rfl rfl hsl rfl hi hj hts
      | false => exact metaBack_bt1 z m a0 c0 cs s w h0 hl h3 _ _ _ hP (hV false) _ _ _ _ _ _ _ _ _ _ _ _ _ rfl q1 hm rfl rfl rfl q1 rfl rfl rfl rfl rfl hsl rfl hi hj hts
  · have hi' : (redE s != 0) = true := by rw [bne_iff_ne]; exact hi
    cases hm : metaB z m cs with
    | true =>
      obtain ⟨q1, q2, q3, q4⟩ := put_facts hm
      cases g with
      | true => exact metaBack_ag0 z m a0 c0 cs s w h0 hl h3 _ _ _ hP (hV true) _ _ _ _ 0 0 [] _ _ rfl q1 hm q2 q3 rfl rfl rfl rfl rfl rfl rfl hsl rfl rfl hi' rfl
      | false =>
        obtain ⟨q5, q6, q7, q8⟩ := val_facts hm
        exact metaBack_at0 z m a0 c0 cs s w h0 hl h3 _ _ _ hP (hV false) _ _ _ _ _ _ rfl q1 hm q2 q3 rfl q5 q6 q7 q8 rfl rfl hsl rfl rfl hi' rfl
    | false =>
      have q1 : putMe z m cs = 1 := by simp [putMe, hm]
      cases g with
      | true => exact metaBack_bg0 z m a0 c0 cs s w h0 hl h3 _ _ _ hP (hV true) _ _ _ _ _ _ _ _ 0 0 [] _ _ rfl q1 hm rfl rfl rfl rfl rfl rfl rfl rfl rfl hsl rfl rfl hi' rfl
      | false => exact metaBack_bt0 z m a0 c0 cs s w h0 hl h3 _ _ _ hP (hV false) _ _ _ _ _ _ _ _ _ _ _ _ _ _ _ rfl q1 hm rfl rfl rfl q1 rfl rfl rfl rfl rfl hsl rfl rfl hi' rfl

end Go.Proofs.Ytijhbnkfkjfcfaa
