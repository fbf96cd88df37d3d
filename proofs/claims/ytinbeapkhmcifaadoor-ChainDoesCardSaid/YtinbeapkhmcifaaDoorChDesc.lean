/-
  chain.Describe; the document's own.
-/
import Derived.Test.YtinbeapkhmcifaaDoorChRefCut
import Derived.Test.YtinbeapkhmcifaaDoorChSums
import Derived.Test.YtinbeapkhmcifaaDoorMeRefI
namespace Go.Proofs.YtinbeapkhmcifaaDoor
set_option maxRecDepth 100000
open Go.RowKit

/-- What Describe answers. -/
def DescP (w : World) (s : List UInt8) (n d : Int) (e : Ending) (w' : World) : Prop :=
  ∃ u v, e = .returned (.tuple #[MV (descZ s n d) (descD s n d) u, v, .int .i64 (descE s n d)]) ∧ OwnI w' w.heap.size u (descS s n d) ∧ OwnL w' w.heap.size v (descL s n d) ∧ Below w.heap.size w w'

theorem chop_lens {n : Nat} {s : List UInt8} {m : Nat} (h : s.length ≤ m) : LenL m (chopN n s) := by
  intro t ht
  obtain ⟨i, hi, rfl⟩ := List.getElem_of_mem ht
  have e : (chopN n s)[i] = (s.drop (i * n)).take n := pcs_get n s _ i hi
  rw [e, List.length_take, List.length_drop]
  omega
theorem cut_lens {s : List UInt8} {n : Int} {m : Nat} (h : s.length ≤ m) : LenL m (cutL s n) := by
  rcases cut_cases s n with ⟨_, h2, _⟩ | ⟨_, h2, _⟩ | ⟨_, h2, _⟩
  · rw [h2]; intro t ht; simp at ht
  · rw [h2]; intro t ht; simp at ht
  · rw [h2]; exact chop_lens h

theorem box3 (w : World) (v0 v1 v2 : Value) : Cx (w.alloc (.cells #[v0, v1, v2] 24)) w.heap.size 24 [v0, v1, v2] := Cx.new w _ _
theorem desc_zero {w w1 : World} {s : List UInt8} {n d E : Int} (hB : Below w.heap.size w w1) (h : descE s n d = E ∧ descL s n d = [] ∧ descZ s n d = 0 ∧ descD s n d = 0 ∧ descS s n d = []) :
    DescP w s n d (.returned (.tuple #[MV 0 0 (.slice none 0 0), .slice none 0 0, .int .i64 E])) w1 := by
  obtain ⟨h1, h2, h3, h4, h5⟩ := h
  unfold DescP
  rw [h1, h2, h3, h4, h5]
  exact ⟨_, _, rfl, ownI_nil _ _, ownL_nil _ _, hB⟩
theorem below_box3 {w w1 : World} (h : Below w.heap.size w w1) (x y z : Value) : Below w.heap.size w (((w1.setCell ⟨w.heap.size, 0, none⟩ x).setCell ⟨w.heap.size, 1, none⟩ y).setCell ⟨w.heap.size, 2, none⟩ z) := below_sets3 h (Nat.le_refl _) x y z

theorem desc_is {w w1 : World} {o : Obj} {s : List UInt8} {n d : Int} {L : List (List UInt8)} {S : List Int} {u v x y z : Value} (hB : Below w.heap.size w w1) (hI : OwnI w1 (w.alloc o).heap.size u S) (hL : OwnL w1 (w.alloc o).heap.size v L)
    (h : descE s n d = 0 ∧ descL s n d = L ∧ descZ s n d = s.length ∧ descD s n d = d ∧ descS s n d = S) :
    DescP w s n d (.returned (.tuple #[MV s.length d u, v, .int .i64 0])) (((w1.setCell ⟨w.heap.size, 0, none⟩ x).setCell ⟨w.heap.size, 1, none⟩ y).setCell ⟨w.heap.size, 2, none⟩ z) := by
  obtain ⟨h1, h2, h3, h4, h5⟩ := h
  unfold DescP
  rw [h1, h2, h3, h4, h5]
  have hz : w.heap.size < (w.alloc o).heap.size := by rw [World.size_alloc]; omega
  exact ⟨_, _, rfl, own_weak (own_above (own_above (own_above hI hz 0 _) hz 1 _) hz 2 _) (by omega), own_weak (own_above (own_above (own_above hL hz 0 _) hz 1 _) hz 2 _) (by omega), below_box3 hB _ _ _⟩

set_option maxHeartbeats 2000000 in
theorem cdesc_calls (s : List UInt8) (n d : Int) (hs : s.length ≤ 1000000) (w : World) (hT : TabOk w) :
    Calls Tryd.prog 12 #[.string ⟨s.toArray⟩, .int .i64 n, .int .i64 d] w (DescP w s n d) := by
  have hB0 := below_alloc w (.cells #[.int .i64 0, .int .i64 0, .slice none 0 0] 24)
  have K := Lib.hid (ccut_calls s n (w.alloc (.cells #[.int .i64 0, .int .i64 0, .slice none 0 0] 24)))
  have HB0 := Lib.hid hB0
  have HT := Lib.hid (hT.below hB0)
  have HX := Lib.hid (box3 w (.int .i64 0) (.int .i64 0) (.slice none 0 0))
  clear hB0 hT
  cases hE : (cutE s n != 0) with
  | true =>
    have HD := Lib.hid (desc_cut (d := d) (bne_iff_ne.1 hE))
    obtain ⟨E, hEE⟩ : ∃ E, E = cutE s n := ⟨_, rfl⟩
    rw [← hEE] at hE K HD
    clear hEE
    go_enter Tryd.func12, Tryd.ntmps12
    go_wp2_with fail
    refine K.out.mono ?_
    rintro e w1 ⟨v, rfl, _, hB1⟩
    obtain ⟨c0, c1, c2, f0, f1, f2, _⟩ := (HX.out.below hB1).three
    have HX1 := Lib.hid (HX.out.below hB1)
    go_wp2_with fail
    obtain ⟨x0, x1, x2, _⟩ := (HX1.out.sets3 (.int .i64 0) (.int .i64 0) (.slice none 0 0)).three
    exact ret_meta3 rfl rfl w.heap.size _ _ _ _ _ rfl rfl rfl x0 x1 x2 (desc_zero (below_box3 (below2 HB0.out hB1) _ _ _) HD.out)
  | false =>
    have h0 : cutE s n = 0 := by simpa using hE
    have hlen := cut_lens (n := n) hs
    have hfew := cut_few s n
    have hsl := sums_len (cutL s n)
    rw [h0] at K
    have hsf : (sumsL (cutL s n)).length ≤ 16 := by omega
    clear hsl
    cases hm : metaB s.length d (sumsL (cutL s n)) with
    | false =>
      have HD := Lib.hid (desc_bad h0 hm)
      have HM := Lib.hid hm
      clear hm hE h0
      obtain ⟨L, hL0⟩ : ∃ L, L = cutL s n := ⟨_, rfl⟩
      obtain ⟨S, hS0⟩ : ∃ S, S = sumsL L := ⟨_, rfl⟩
      have HS0 := Lib.hid hS0
      rw [← hL0, ← hS0] at HM
      rw [← hL0] at K hlen hfew
      rw [← hL0, ← hS0] at hsf
      clear hL0 hS0
      go_enter Tryd.func12, Tryd.ntmps12
      go_wp2_with fail
      refine K.out.mono ?_
      rintro e w1 ⟨v, rfl, hL, hB1⟩
      have K2 := Lib.hid (csums_calls v L w1 (ownL_txts hL).strs (by omega) hlen (HT.out.below hB1))
      go_wp2_with fail
      refine K2.out.mono ?_
      rintro e w2 ⟨u, rfl, hI, hB2⟩
      rw [← HS0.out] at hI
      obtain ⟨ao, cap, rfl⟩ := (ints_own hI).form
      have hB3 := below_alloc w2 (.cells #[.int .i64 s.length, .int .i64 d, .slice ao S.length cap] 24)
      have K3 := Lib.hid (mIs_calls s.length d _ S _ ((ints_own hI).below hB3) (by omega))
      rw [HM.out] at K3
      have HB3 := Lib.hid (below2 (below3 HB0.out hB1 hB2) hB3)
      have HX3 := Lib.hid (HX.out.below (below2 (below2 hB1 hB2) hB3))
      clear hB3 K K2 hI hL
      go_wp2_with fail
      refine K3.out.mono ?_
      rintro e w3 ⟨rfl, hB4⟩
      obtain ⟨c0, c1, c2, f0, f1, f2, _⟩ := (HX3.out.below hB4).three
      have HX4 := Lib.hid (HX3.out.below hB4)
      go_wp2_with fail
      obtain ⟨x0, x1, x2, _⟩ := (HX4.out.sets3 (.int .i64 0) (.int .i64 0) (.slice none 0 0)).three
      exact ret_meta3 rfl rfl w.heap.size _ _ _ _ _ rfl rfl rfl x0 x1 x2 (desc_zero (below_box3 (below2 HB3.out hB4) _ _ _) HD.out)
    | true =>
      have HD := Lib.hid (desc_ok h0 hm)
      have HM := Lib.hid hm
      clear hm hE h0
      obtain ⟨L, hL0⟩ : ∃ L, L = cutL s n := ⟨_, rfl⟩
      obtain ⟨S, hS0⟩ : ∃ S, S = sumsL L := ⟨_, rfl⟩
      have HS0 := Lib.hid hS0
      rw [← hL0, ← hS0] at HD HM
      rw [← hL0] at K hlen hfew
      rw [← hL0, ← hS0] at hsf
      clear hL0 hS0
      go_enter Tryd.func12, Tryd.ntmps12
      go_wp2_with fail
      refine K.out.mono ?_
      rintro e w1 ⟨v, rfl, hL, hB1⟩
      have K2 := Lib.hid (csums_calls v L w1 (ownL_txts hL).strs (by omega) hlen (HT.out.below hB1))
      go_wp2_with fail
      refine K2.out.mono ?_
      rintro e w2 ⟨u, rfl, hI, hB2⟩
      rw [← HS0.out] at hI
      obtain ⟨ao, cap, rfl⟩ := (ints_own hI).form
      have hB3 := below_alloc w2 (.cells #[.int .i64 s.length, .int .i64 d, .slice ao S.length cap] 24)
      have K3 := Lib.hid (mIs_calls s.length d _ S _ ((ints_own hI).below hB3) (by omega))
      rw [HM.out] at K3
      have HB3 := Lib.hid (below2 (below3 HB0.out hB1 hB2) hB3)
      have HX3 := Lib.hid (HX.out.below (below2 (below2 hB1 hB2) hB3))
      have HY3 := Lib.hid (box3 w2 (.int .i64 s.length) (.int .i64 d) (.slice ao S.length cap))
      have HI3 := Lib.hid (own_weak (ownI_below hI hB3) hB1.size)
      have HL3 := Lib.hid (ownL_below hL (below2 hB2 hB3))
      clear hB3 K K2 hI hL
      go_wp2_with fail
      refine K3.out.mono ?_
      rintro e w3 ⟨rfl, hB4⟩
      obtain ⟨c0, c1, c2, f0, f1, f2, _⟩ := (HX3.out.below hB4).three
      obtain ⟨d0, d1, d2, _, _, _, _⟩ := (HY3.out.below hB4).three
      have HX4 := Lib.hid (HX3.out.below hB4)
      go_wp2_with fail
      obtain ⟨x0, x1, x2, _⟩ := (HX4.out.sets3 (.int .i64 s.length) (.int .i64 d) (.slice ao S.length cap)).three
      exact ret_meta3 rfl rfl w.heap.size _ _ _ _ _ rfl rfl rfl x0 x1 x2 (desc_is (below2 HB3.out hB4) (ownI_below HI3.out hB4) (ownL_below HL3.out hB4) HD.out)

set_option maxHeartbeats 2000000 in
theorem rdesc_calls (s : List UInt8) (n d : Int) (hs : s.length ≤ 1000) (w : World) :
    Calls Tryd.prog 13 #[.string ⟨s.toArray⟩, .int .i64 n, .int .i64 d] w (DescP w s n d) := by
  have hB0 := below_alloc w (.cells #[.int .i64 0, .int .i64 0, .slice none 0 0] 24)
  have K := Lib.hid (rcut_calls s n hs (w.alloc (.cells #[.int .i64 0, .int .i64 0, .slice none 0 0] 24)))
  have HB0 := Lib.hid hB0
  have HX := Lib.hid (box3 w (.int .i64 0) (.int .i64 0) (.slice none 0 0))
  clear hB0
  cases hE : (cutE s n != 0) with
  | true =>
    have HD := Lib.hid (desc_cut (d := d) (bne_iff_ne.1 hE))
    obtain ⟨E, hEE⟩ : ∃ E, E = cutE s n := ⟨_, rfl⟩
    rw [← hEE] at hE K HD
    clear hEE
    go_enter Tryd.func13, Tryd.ntmps13
    go_wp2_with fail
    refine K.out.mono ?_
    rintro e w1 ⟨v, rfl, _, hB1⟩
    obtain ⟨c0, c1, c2, f0, f1, f2, _⟩ := (HX.out.below hB1).three
    have HX1 := Lib.hid (HX.out.below hB1)
    go_wp2_with fail
    obtain ⟨x0, x1, x2, _⟩ := (HX1.out.sets3 (.int .i64 0) (.int .i64 0) (.slice none 0 0)).three
    exact ret_meta3 rfl rfl w.heap.size _ _ _ _ _ rfl rfl rfl x0 x1 x2 (desc_zero (below_box3 (below2 HB0.out hB1) _ _ _) HD.out)
  | false =>
    have h0 : cutE s n = 0 := by simpa using hE
    have hlen := cut_lens (n := n) (m := 1000000) (s := s) (by omega)
    have hfew := cut_few s n
    have hsl := sums_len (cutL s n)
    rw [h0] at K
    have hsf : (sumsL (cutL s n)).length ≤ 16 := by omega
    clear hsl
    cases hm : metaB s.length d (sumsL (cutL s n)) with
    | false =>
      have HD := Lib.hid (desc_bad h0 hm)
      have HM := Lib.hid hm
      clear hm hE h0
      obtain ⟨L, hL0⟩ : ∃ L, L = cutL s n := ⟨_, rfl⟩
      obtain ⟨S, hS0⟩ : ∃ S, S = sumsL L := ⟨_, rfl⟩
      have HS0 := Lib.hid hS0
      rw [← hL0, ← hS0] at HM
      rw [← hL0] at K hlen hfew
      rw [← hL0, ← hS0] at hsf
      clear hL0 hS0
      go_enter Tryd.func13, Tryd.ntmps13
      go_wp2_with fail
      refine K.out.mono ?_
      rintro e w1 ⟨v, rfl, hL, hB1⟩
      have K2 := Lib.hid (rsums_calls v L w1 (ownL_txts hL).strs (by omega) hlen)
      go_wp2_with fail
      refine K2.out.mono ?_
      rintro e w2 ⟨u, rfl, hI, hB2⟩
      rw [← HS0.out] at hI
      obtain ⟨ao, cap, rfl⟩ := (ints_own hI).form
      have hB3 := below_alloc w2 (.cells #[.int .i64 s.length, .int .i64 d, .slice ao S.length cap] 24)
      have K3 := Lib.hid (rIs_calls s.length d _ S _ ((ints_own hI).below hB3) (by omega))
      rw [HM.out] at K3
      have HB3 := Lib.hid (below2 (below3 HB0.out hB1 hB2) hB3)
      have HX3 := Lib.hid (HX.out.below (below2 (below2 hB1 hB2) hB3))
      clear hB3 K K2 hI hL
      go_wp2_with fail
      refine K3.out.mono ?_
      rintro e w3 ⟨rfl, hB4⟩
      obtain ⟨c0, c1, c2, f0, f1, f2, _⟩ := (HX3.out.below hB4).three
      have HX4 := Lib.hid (HX3.out.below hB4)
      go_wp2_with fail
      obtain ⟨x0, x1, x2, _⟩ := (HX4.out.sets3 (.int .i64 0) (.int .i64 0) (.slice none 0 0)).three
      exact ret_meta3 rfl rfl w.heap.size _ _ _ _ _ rfl rfl rfl x0 x1 x2 (desc_zero (below_box3 (below2 HB3.out hB4) _ _ _) HD.out)
    | true =>
      have HD := Lib.hid (desc_ok h0 hm)
      have HM := Lib.hid hm
      clear hm hE h0
      obtain ⟨L, hL0⟩ : ∃ L, L = cutL s n := ⟨_, rfl⟩
      obtain ⟨S, hS0⟩ : ∃ S, S = sumsL L := ⟨_, rfl⟩
      have HS0 := Lib.hid hS0
      rw [← hL0, ← hS0] at HD HM
      rw [← hL0] at K hlen hfew
      rw [← hL0, ← hS0] at hsf
      clear hL0 hS0
      go_enter Tryd.func13, Tryd.ntmps13
      go_wp2_with fail
      refine K.out.mono ?_
      rintro e w1 ⟨v, rfl, hL, hB1⟩
      have K2 := Lib.hid (rsums_calls v L w1 (ownL_txts hL).strs (by omega) hlen)
      go_wp2_with fail
      refine K2.out.mono ?_
      rintro e w2 ⟨u, rfl, hI, hB2⟩
      rw [← HS0.out] at hI
      obtain ⟨ao, cap, rfl⟩ := (ints_own hI).form
      have hB3 := below_alloc w2 (.cells #[.int .i64 s.length, .int .i64 d, .slice ao S.length cap] 24)
      have K3 := Lib.hid (rIs_calls s.length d _ S _ ((ints_own hI).below hB3) (by omega))
      rw [HM.out] at K3
      have HB3 := Lib.hid (below2 (below3 HB0.out hB1 hB2) hB3)
      have HX3 := Lib.hid (HX.out.below (below2 (below2 hB1 hB2) hB3))
      have HY3 := Lib.hid (box3 w2 (.int .i64 s.length) (.int .i64 d) (.slice ao S.length cap))
      have HI3 := Lib.hid (own_weak (ownI_below hI hB3) hB1.size)
      have HL3 := Lib.hid (ownL_below hL (below2 hB2 hB3))
      clear hB3 K K2 hI hL
      go_wp2_with fail
      refine K3.out.mono ?_
      rintro e w3 ⟨rfl, hB4⟩
      obtain ⟨c0, c1, c2, f0, f1, f2, _⟩ := (HX3.out.below hB4).three
      obtain ⟨d0, d1, d2, _, _, _, _⟩ := (HY3.out.below hB4).three
      have HX4 := Lib.hid (HX3.out.below hB4)
      go_wp2_with fail
      obtain ⟨x0, x1, x2, _⟩ := (HX4.out.sets3 (.int .i64 s.length) (.int .i64 d) (.slice ao S.length cap)).three
      exact ret_meta3 rfl rfl w.heap.size _ _ _ _ _ rfl rfl rfl x0 x1 x2 (desc_is (below2 HB3.out hB4) (ownI_below HI3.out hB4) (ownL_below HL3.out hB4) HD.out)

end Go.Proofs.YtinbeapkhmcifaaDoor
