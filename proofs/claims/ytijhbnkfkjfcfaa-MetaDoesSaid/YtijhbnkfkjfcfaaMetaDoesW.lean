/-
  sextonlaw12.MetaDoes: the walk.
-/
import Derived.Test.YtijhbnkfkjfcfaaMeKnown
import Derived.Test.YtijhbnkfkjfcfaaMeOne
import Derived.Test.YtijhbnkfkjfcfaaMeRefV
import Derived.Test.YtijhbnkfkjfcfaaMeRefR
import Derived.Deep.RegionHeld3
import Derived.Deep.DeepCutAuto
namespace Go.Proofs.Ytijhbnkfkjfcfaa
set_option maxRecDepth 100000
open Go.RowKit

set_option maxHeartbeats 2000000 in
theorem metaDoes_far (z m : Int) (a0 : Option Addr) (c0 : Nat) (cs : List Int) (g : Bool) (s : List UInt8) (w : World) (hl : 40 < cs.length) :
    Calls Try.prog 3 #[MV z m (.slice a0 cs.length c0), .bool g, .string ⟨s.toArray⟩] w fun e w' => e = .returned (.bool true) ∧ Below w.heap.size w w' := by
  have hd : decide ((40 : Int) < cs.length) = true := by rw [decide_eq_true_eq]; omega
  clear hl
  go_enter Try.func3, Try.ntmps3
  go_wp2_with fail
  go_ret
  exact ⟨rfl, below_alloc _ _⟩
set_option maxHeartbeats 2000000 in
theorem metaDoes_long (z m : Int) (a0 : Option Addr) (c0 : Nat) (cs : List Int) (g : Bool) (s : List UInt8) (w : World) (hl : cs.length ≤ 40) (h3 : 300 < s.length) :
    Calls Try.prog 3 #[MV z m (.slice a0 cs.length c0), .bool g, .string ⟨s.toArray⟩] w fun e w' => e = .returned (.bool true) ∧ Below w.heap.size w w' := by
  have hd : decide ((40 : Int) < cs.length) = false := by rw [decide_eq_false_iff_not]; omega
  have HSH := Lib.hid (show shortB [s] = false by simp [shortB]; omega)
  have KH := Lib.hid (short_at s (w.alloc (.cells #[.int .i64 z, .int .i64 m, .slice a0 cs.length c0] 24)) (w.heap.size + 1) (World.size_alloc _ _))
  clear hl h3
  go_enter Try.func3, Try.ntmps3
  go_wp2_with fail
  refine KH.out.mono ?_
  rintro e w1 ⟨rfl, rfl⟩
  rw [HSH.out]
  go_wp2_with fail
  go_ret
  exact ⟨rfl, below_alloc2 _ _ _⟩

/-- A meta in a box. -/
def BSt (b : Nat) (z m : Int) (v : Value) (cs : List Int) (W : World) : Prop := Ints W v cs ∧ Cx W b 24 [.int .i64 z, .int .i64 m, v]
theorem BSt.below {b : Nat} {z m : Int} {v : Value} {cs : List Int} {W W' : World} (h : BSt b z m v cs W) (hB : Below W.heap.size W W') : BSt b z m v cs W' := ⟨h.1.below hB, h.2.below hB⟩
theorem BSt.new {z m : Int} {v : Value} {cs : List Int} {W : World} (h : Ints W v cs) : BSt W.heap.size z m v cs (W.alloc (.cells #[.int .i64 z, .int .i64 m, v] 24)) :=
  ⟨h.below (below_alloc _ _), Cx.new W 24 [.int .i64 z, .int .i64 m, v]⟩

set_option maxHeartbeats 16000000 in
theorem metaDoes_main (z m : Int) (a0 : Option Addr) (c0 : Nat) (cs : List Int) (g : Bool) (s : List UInt8) (w : World) (h0 : Ints w (.slice a0 cs.length c0) cs) (hl : cs.length ≤ 40) (h3 : s.length ≤ 300)
    (A V : List UInt8) (ae ve : Int) (ib : Bool) (gz gm ge : Int) (gcs : List Int) (rz rm re : Int) (rcs : List Int) (was : Bool) (hgl : gcs.length ≤ 1000000) (hrl : rcs.length ≤ 1000000)
    (hI : metaB z m cs = ib) (hP : putM z m cs = A) (he : putMe z m cs = ae) (hV : valM z m cs g = V) (hve : valMe z m cs g = ve) (hG : gotM s = (gz, gm, gcs)) (hge : gotE s = ge) (hR : redM s = (rz, rm, rcs)) (hrg : redG s = was) (hre : redE s = re) :
    Calls Try.prog 3 #[MV z m (.slice a0 cs.length c0), .bool g, .string ⟨s.toArray⟩] w fun e w' => e = .returned (.bool true) ∧ Below w.heap.size w w' := by
  have hd0 : decide ((40 : Int) < cs.length) = false := by rw [decide_eq_false_iff_not]; omega
  have HSH := Lib.hid (show shortB [s] = true by simp [shortB, h3])
  have KH := Lib.hid (short_at s (w.alloc (.cells #[.int .i64 z, .int .i64 m, .slice a0 cs.length c0] 24)) (w.heap.size + 1) (World.size_alloc _ _))
  have KO := Lib.hid (fun W (h : Ints W (.slice a0 cs.length c0) cs) => mOwn_calls z m _ cs W h (by omega))
  have KP := Lib.hid (fun v W (h : Ints W v cs) => mPut_calls z m v cs W h (by omega))
  have KP2 := Lib.hid (fun v W (h : Ints W v cs) => rPut_calls z m v cs W h (by omega))
  have KI := Lib.hid (fun v W (h : Ints W v cs) => mIs_calls z m v cs W h (by omega))
  have KI2 := Lib.hid (fun v W (h : Ints W v cs) => rIs_calls z m v cs W h (by omega))
  have KG := Lib.hid (fun W => mGet_calls s (by omega) W)
  have KG2 := Lib.hid (fun W => rGet_calls s (by omega) W)
  have KV := Lib.hid (fun v W (h : Ints W v cs) => mValue_calls z m v cs g W h (by omega))
  have KV2 := Lib.hid (fun v W (h : Ints W v cs) => rValue_calls z m v cs g W h (by omega))
  have KR := Lib.hid (fun W => mRead_calls s (by omega) W)
  have KR2 := Lib.hid (fun W => rRead_calls s (by omega) W)
  have KS := Lib.hid (fun z m (cs : List Int) (hl : cs.length ≤ 1000000) v v' W (h : Ints W v cs) (h' : Ints W v' cs) => (show Calls Try.prog 20 #[MV z m v, MV z m v'] W fun e w' => e = .returned (.bool true) ∧ Below W.heap.size W w' by
    have K := mSame_calls z m v cs z m v' cs W h h' hl
    rw [sameM_self] at K
    exact K))
  rw [hP, he] at KP KP2
  rw [hI] at KI KI2
  rw [hV, hve] at KV KV2
  rw [hG, hge] at KG KG2
  rw [hR, hrg, hre] at KR KR2
  have hcl : cs.length ≤ 1000000 := by omega
  have KS1 := Lib.hid (KS.out gz gm gcs hgl)
  have KS2 := Lib.hid (KS.out rz rm rcs hrl)
  have KS3 := Lib.hid (KS.out z m cs hcl)
  have M := Lib.hid (MSt.new z m h0)
  dsimp only at KG KG2 KR KR2
  clear h0 hl h3 hP he hI hV hve hG hge hR hrg hre hgl hrl hcl KS
  go_enter Try.func3, Try.ntmps3
  go_wp2_with fail
  refine KH.out.mono ?_
  rintro e w1 ⟨rfl, rfl⟩
  rw [HSH.out]
  replace M := Lib.hid (M.out.below (below_alloc _ (.cells #[.string ⟨s.toArray⟩] 9)))
  obtain ⟨p0, p1, p2, _⟩ := M.out.2.2.three
  go_wp2_with fail
  clear p0 p1 p2
  refine (KO.out _ M.out.2.1).mono ?_
  rintro e w2 ⟨v2, rfl, ho2, hB2⟩
  obtain ⟨b2, d2, rfl⟩ := (ints_own ho2).form
  have hb2 := below_alloc w2 (.cells #[.int .i64 z, .int .i64 m, .slice b2 cs.length d2] 24)
  replace M := Lib.hid ((M.out.below hB2).below hb2)
  have B2 := Lib.hid (BSt.new (z := z) (m := m) (ints_own ho2))
  clear hB2 hb2 ho2
  obtain ⟨p0, p1, p2, _⟩ := M.out.2.2.three
  go_wp2_with fail
  clear p0 p1 p2
  refine (KP.out _ _ M.out.2.1).mono ?_
  rintro e w3 ⟨rfl, hB3⟩
  replace M := Lib.hid (M.out.below hB3)
  replace B2 := Lib.hid (B2.out.below hB3)
  clear hB3
  obtain ⟨q0, q1, q2, _⟩ := B2.out.2.three
  go_wp2_with fail
  clear q0 q1 q2
  refine (KP2.out _ _ B2.out.1).mono ?_
  rintro e w4 ⟨rfl, hB4⟩
  replace M := Lib.hid (M.out.below hB4)
  replace B2 := Lib.hid (B2.out.below hB4)
  clear hB4
  go_wp2_with fail
  refine (KG.out _).mono ?_
  rintro e w5 ⟨v5, rfl, ho5, hB5⟩
  obtain ⟨b5, d5, rfl⟩ := (ints_own ho5).form
  have hb5 := below_alloc w5 (.cells #[.int .i64 gz, .int .i64 gm, .slice b5 gcs.length d5] 24)
  replace M := Lib.hid ((M.out.below hB5).below hb5)
  replace B2 := Lib.hid ((B2.out.below hB5).below hb5)
  have B5 := Lib.hid (BSt.new (z := gz) (m := gm) (ints_own ho5))
  clear hB5 hb5 ho5
  go_wp2_with fail
  refine (KG2.out _).mono ?_
  rintro e w6 ⟨v6, rfl, ho6, hB6⟩
  obtain ⟨b6, d6, rfl⟩ := (ints_own ho6).form
  have hb6 := below_alloc w6 (.cells #[.int .i64 gz, .int .i64 gm, .slice b6 gcs.length d6] 24)
  replace M := Lib.hid ((M.out.below hB6).below hb6)
  replace B2 := Lib.hid ((B2.out.below hB6).below hb6)
  replace B5 := Lib.hid ((B5.out.below hB6).below hb6)
  have B6 := Lib.hid (BSt.new (z := gz) (m := gm) (ints_own ho6))
  clear hB6 hb6 ho6
  obtain ⟨p0, p1, p2, _⟩ := M.out.2.2.three
  go_wp2_with fail
  clear p0 p1 p2
  refine (KV.out _ _ M.out.2.1).mono ?_
  rintro e w7 ⟨rfl, hB7⟩
  replace M := Lib.hid (M.out.below hB7)
  replace B2 := Lib.hid (B2.out.below hB7)
  replace B5 := Lib.hid (B5.out.below hB7)
  replace B6 := Lib.hid (B6.out.below hB7)
  clear hB7
  obtain ⟨q0, q1, q2, _⟩ := B2.out.2.three
  go_wp2_with fail
  clear q0 q1 q2
  refine (KV2.out _ _ B2.out.1).mono ?_
  rintro e w8 ⟨rfl, hB8⟩
  replace M := Lib.hid (M.out.below hB8)
  replace B2 := Lib.hid (B2.out.below hB8)
  replace B5 := Lib.hid (B5.out.below hB8)
  replace B6 := Lib.hid (B6.out.below hB8)
  clear hB8
  go_wp2_with fail
  refine (KR.out _).mono ?_
  rintro e w9 ⟨v9, rfl, ho9, hB9⟩
  obtain ⟨b9, d9, rfl⟩ := (ints_own ho9).form
  have hb9 := below_alloc w9 (.cells #[.int .i64 rz, .int .i64 rm, .slice b9 rcs.length d9] 24)
  replace M := Lib.hid ((M.out.below hB9).below hb9)
  replace B2 := Lib.hid ((B2.out.below hB9).below hb9)
  replace B5 := Lib.hid ((B5.out.below hB9).below hb9)
  replace B6 := Lib.hid ((B6.out.below hB9).below hb9)
  have B9 := Lib.hid (BSt.new (z := rz) (m := rm) (ints_own ho9))
  clear hB9 hb9 ho9
  go_wp2_with fail
  refine (KR2.out _).mono ?_
  rintro e w10 ⟨v10, rfl, ho10, hB10⟩
  obtain ⟨b10, d10, rfl⟩ := (ints_own ho10).form
  have hb10 := below_alloc w10 (.cells #[.int .i64 rz, .int .i64 rm, .slice b10 rcs.length d10] 24)
  replace M := Lib.hid ((M.out.below hB10).below hb10)
  replace B2 := Lib.hid ((B2.out.below hB10).below hb10)
  replace B5 := Lib.hid ((B5.out.below hB10).below hb10)
  replace B6 := Lib.hid ((B6.out.below hB10).below hb10)
  replace B9 := Lib.hid ((B9.out.below hB10).below hb10)
  have B10 := Lib.hid (BSt.new (z := rz) (m := rm) (ints_own ho10))
  clear hB10 hb10 ho10
  obtain ⟨WL, hWL⟩ : ∃ WL, WL = (w10.alloc (.cells #[.int .i64 rz, .int .i64 rm, .slice b10 rcs.length d10] 24)) := ⟨_, rfl⟩
  have HWL := Lib.hid hWL
  rw [← hWL] at M
  rw [← hWL] at B2
  rw [← hWL] at B5
  rw [← hWL] at B6
  rw [← hWL] at B9
  rw [← hWL] at B10
  clear hWL
  have HS : Hid (∀ W, Below WL.heap.size WL W → W.cell? ⟨w.heap.size, 0, none⟩ = some (.int .i64 z) ∧ W.cell? ⟨w.heap.size, 1, none⟩ = some (.int .i64 m) ∧ W.cell? ⟨w.heap.size, 2, none⟩ = some (.slice a0 cs.length c0) ∧ W.cell? ⟨w2.heap.size, 0, none⟩ = some (.int .i64 z) ∧ W.cell? ⟨w2.heap.size, 1, none⟩ = some (.int .i64 m) ∧ W.cell? ⟨w2.heap.size, 2, none⟩ = some (.slice b2 cs.length d2) ∧ W.cell? ⟨w5.heap.size, 0, none⟩ = some (.int .i64 gz) ∧ W.cell? ⟨w5.heap.size, 1, none⟩ = some (.int .i64 gm) ∧ W.cell? ⟨w5.heap.size, 2, none⟩ = some (.slice b5 gcs.length d5) ∧ W.cell? ⟨w6.heap.size, 0, none⟩ = some (.int .i64 gz) ∧ W.cell? ⟨w6.heap.size, 1, none⟩ = some (.int .i64 gm) ∧ W.cell? ⟨w6.heap.size, 2, none⟩ = some (.slice b6 gcs.length d6) ∧ W.cell? ⟨w9.heap.size, 0, none⟩ = some (.int .i64 rz) ∧ W.cell? ⟨w9.heap.size, 1, none⟩ = some (.int .i64 rm) ∧ W.cell? ⟨w9.heap.size, 2, none⟩ = some (.slice b9 rcs.length d9) ∧ W.cell? ⟨w10.heap.size, 0, none⟩ = some (.int .i64 rz) ∧ W.cell? ⟨w10.heap.size, 1, none⟩ = some (.int .i64 rm) ∧ W.cell? ⟨w10.heap.size, 2, none⟩ = some (.slice b10 rcs.length d10)) := by
    obtain ⟨x0, y0, u0, _⟩ := M.out.2.2.three
    obtain ⟨x1, y1, u1, _⟩ := B2.out.2.three
    obtain ⟨x2, y2, u2, _⟩ := B5.out.2.three
    obtain ⟨x3, y3, u3, _⟩ := B6.out.2.three
    obtain ⟨x4, y4, u4, _⟩ := B9.out.2.three
    obtain ⟨x5, y5, u5, _⟩ := B10.out.2.three
    exact Lib.hid (fun W hB => ⟨look_below hB x0, look_below hB y0, look_below hB u0, look_below hB x1, look_below hB y1, look_below hB u1, look_below hB x2, look_below hB y2, look_below hB u2, look_below hB x3, look_below hB y3, look_below hB u3, look_below hB x4, look_below hB y4, look_below hB u4, look_below hB x5, look_below hB y5, look_below hB u5⟩)
  have JM := Lib.hid (fun W (hB : Below WL.heap.size WL W) => M.out.2.1.below hB)
  have JB2 := Lib.hid (fun W (hB : Below WL.heap.size WL W) => B2.out.1.below hB)
  have JB5 := Lib.hid (fun W (hB : Below WL.heap.size WL W) => B5.out.1.below hB)
  have JB6 := Lib.hid (fun W (hB : Below WL.heap.size WL W) => B6.out.1.below hB)
  have JB9 := Lib.hid (fun W (hB : Below WL.heap.size WL W) => B9.out.1.below hB)
  have JB10 := Lib.hid (fun W (hB : Below WL.heap.size WL W) => B10.out.1.below hB)
  have hbr := drew_below WL
  go_upto_region 12 with fail
  rw [← HWL.out]
  go_region_held3 (fun W => W.cell? ⟨w.heap.size, 0, none⟩ = some (.int .i64 z) ∧ W.cell? ⟨w.heap.size, 1, none⟩ = some (.int .i64 m) ∧ W.cell? ⟨w.heap.size, 2, none⟩ = some (.slice a0 cs.length c0) ∧ W.cell? ⟨w2.heap.size, 0, none⟩ = some (.int .i64 z) ∧ W.cell? ⟨w2.heap.size, 1, none⟩ = some (.int .i64 m) ∧ W.cell? ⟨w2.heap.size, 2, none⟩ = some (.slice b2 cs.length d2) ∧ W.cell? ⟨w5.heap.size, 0, none⟩ = some (.int .i64 gz) ∧ W.cell? ⟨w5.heap.size, 1, none⟩ = some (.int .i64 gm) ∧ W.cell? ⟨w5.heap.size, 2, none⟩ = some (.slice b5 gcs.length d5) ∧ W.cell? ⟨w6.heap.size, 0, none⟩ = some (.int .i64 gz) ∧ W.cell? ⟨w6.heap.size, 1, none⟩ = some (.int .i64 gm) ∧ W.cell? ⟨w6.heap.size, 2, none⟩ = some (.slice b6 gcs.length d6) ∧ W.cell? ⟨w9.heap.size, 0, none⟩ = some (.int .i64 rz) ∧ W.cell? ⟨w9.heap.size, 1, none⟩ = some (.int .i64 rm) ∧ W.cell? ⟨w9.heap.size, 2, none⟩ = some (.slice b9 rcs.length d9) ∧ W.cell? ⟨w10.heap.size, 0, none⟩ = some (.int .i64 rz) ∧ W.cell? ⟨w10.heap.size, 1, none⟩ = some (.int .i64 rm) ∧ W.cell? ⟨w10.heap.size, 2, none⟩ = some (.slice b10 rcs.length d10)) (exact HS.out _ hbr) (first
    | (go_at_call 17; (with_reducible refine (mKnown_calls _).mono ?_); rintro e x1 ⟨rfl, hC1⟩; have hbr := below2 hbr hC1)
    | ((with_reducible refine (KI.out _ _ (JM.out _ hbr)).mono ?_); rintro e x2 ⟨rfl, hC2⟩; have hbr := below2 hbr hC2)
    | ((with_reducible refine (KI2.out _ _ (JB2.out _ hbr)).mono ?_); rintro e x3 ⟨rfl, hC3⟩; have hbr := below2 hbr hC3)
    | ((with_reducible refine (KS1.out _ _ _ (JB5.out _ hbr) (JB6.out _ hbr)).mono ?_); rintro e x4 ⟨rfl, hC4⟩; have hbr := below2 hbr hC4)
    | ((with_reducible refine (KS2.out _ _ _ (JB9.out _ hbr) (JB10.out _ hbr)).mono ?_); rintro e x5 ⟨rfl, hC5⟩; have hbr := below2 hbr hC5)
    | ((with_reducible refine (KS3.out _ _ _ (JM.out _ hbr) (JB2.out _ hbr)).mono ?_); rintro e x6 ⟨rfl, hC6⟩; have hbr := below2 hbr hC6))
  all_goals
    go_wp2_with fail
    go_ret
    exact ⟨rfl, below2 M.out.1 hbr⟩

theorem metaDoes_walk (z m : Int) (u : Value) (cs : List Int) (g : Bool) (s : List UInt8) (w : World) (h0 : Ints w u cs) (_ : cs.length ≤ maxLen) (_ : s.length ≤ maxLen) :
    Calls Try.prog 3 #[MV z m u, .bool g, .string ⟨s.toArray⟩] w fun e w' => e = .returned (.bool true) ∧ Below w.heap.size w w' := by
  obtain ⟨a0, c0, rfl⟩ := h0.form
  by_cases hl0 : 40 < cs.length
  · exact metaDoes_far z m a0 c0 cs g s w hl0
  by_cases hl1 : 300 < s.length
  · exact metaDoes_long z m a0 c0 cs g s w (by omega) hl1
  exact metaDoes_main z m a0 c0 cs g s w h0 (by omega) (by omega) _ _ _ _ _ _ _ _ _ _ _ _ _ _ (Nat.le_trans (gotM_len s) (by decide)) (Nat.le_trans (redM_len s) (by decide)) rfl rfl rfl rfl rfl rfl rfl rfl rfl rfl

end Go.Proofs.Ytijhbnkfkjfcfaa
