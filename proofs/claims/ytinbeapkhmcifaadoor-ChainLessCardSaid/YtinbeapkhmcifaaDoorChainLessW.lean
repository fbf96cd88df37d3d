/-
  The walk of ChainLess.
-/
import Derived.Test.YtinbeapkhmcifaaDoorChLaw
namespace Go.Proofs.YtinbeapkhmcifaaDoor
set_option maxRecDepth 100000
open Go.RowKit

set_option maxHeartbeats 1000000 in
theorem chainLess_far (s : List UInt8) (n d a : Int) (w : World) (h : 200 < s.length) (hl : s.length ≤ 9223372036854775807) :
    Calls Tryd.prog 6 #[.string ⟨s.toArray⟩, .int .i64 n, .int .i64 d, .int .i64 a] w fun e w' => e = .returned (.bool true) ∧ Below w.heap.size w w' := by
  go_enter Tryd.func6, Tryd.ntmps6
  go_wp2_with fail
  go_ret
  exact ⟨rfl, Below.refl _ _⟩

set_option maxHeartbeats 2000000 in
theorem chainLess_not (s : List UInt8) (n d a : Int) (w : World) (h : s.length ≤ 200) (hT : TabOk w) (hE : descE s n d ≠ 0) :
    Calls Tryd.prog 6 #[.string ⟨s.toArray⟩, .int .i64 n, .int .i64 d, .int .i64 a] w fun e w' => e = .returned (.bool true) ∧ Below w.heap.size w w' := by
  obtain ⟨E, hEE⟩ : ∃ E, E = descE s n d := ⟨_, rfl⟩
  have K := Lib.hid (cdesc_not (s := s) (n := n) (d := d) (by omega) hT hE hEE)
  have hne : (E != 0) = true := by rw [bne_iff_ne, hEE]; exact hE
  have HT := Lib.hid hT
  clear hE hEE hT
  go_enter Tryd.func6, Tryd.ntmps6
  go_wp2_with fail
  refine K.out.mono ?_
  rintro e w1 ⟨au, cu, av, vc, rfl, hB1⟩
  have HB := Lib.hid (below2 hB1 (below_alloc w1 (.cells #[.int .i64 0, .int .i64 0, .slice au 0 cu] 24)))
  go_wp2_with fail
  refine (chKnown_calls _ (HT.out.below HB.out)).mono ?_
  rintro e w2 ⟨rfl, hB2⟩
  go_wp2_with fail
  go_ret
  exact ⟨rfl, below2 HB.out hB2⟩

set_option maxHeartbeats 2000000 in
theorem chainLess_out (s : List UInt8) (n d a : Int) (w : World) (h : s.length ≤ 200) (hT : TabOk w) (hE : descE s n d = 0) (L : List (List UInt8)) (hL : L = cutL s n) (ha : a < 0 ∨ (L.length : Int) ≤ a) :
    Calls Tryd.prog 6 #[.string ⟨s.toArray⟩, .int .i64 n, .int .i64 d, .int .i64 a] w fun e w' => e = .returned (.bool true) ∧ Below w.heap.size w w' := by
  have K := Lib.hid (cdesc_yes (s := s) (n := n) (d := d) (by omega) hT hE hL)
  have HT := Lib.hid hT
  clear hE hL hT
  by_cases h0 : a < 0
  · clear ha
    go_enter Tryd.func6, Tryd.ntmps6
    go_wp2_with fail
    refine K.out.mono ?_
    rintro e w1 ⟨ao, cap, av, vc, rfl, _, _, hB1⟩
    have HB := Lib.hid (below2 hB1 (below_alloc w1 (.cells #[.int .i64 s.length, .int .i64 d, .slice ao L.length cap] 24)))
    go_wp2_with fail
    refine (chKnown_calls _ (HT.out.below HB.out)).mono ?_
    rintro e w2 ⟨rfl, hB2⟩
    go_wp2_with fail
    go_ret
    exact ⟨rfl, below2 HB.out hB2⟩
  · have h1 : (L.length : Int) ≤ a := by omega
    have h0 : 0 ≤ a := by omega
    clear ha
    go_enter Tryd.func6, Tryd.ntmps6
    go_wp2_with fail
    refine K.out.mono ?_
    rintro e w1 ⟨ao, cap, av, vc, rfl, _, _, hB1⟩
    have HB := Lib.hid (below2 hB1 (below_alloc w1 (.cells #[.int .i64 s.length, .int .i64 d, .slice ao L.length cap] 24)))
    go_wp2_with fail
    refine (chKnown_calls _ (HT.out.below HB.out)).mono ?_
    rintro e w2 ⟨rfl, hB2⟩
    go_wp2_with fail
    go_ret
    exact ⟨rfl, below2 HB.out hB2⟩

set_option maxHeartbeats 4000000 in
theorem chainLess_main (s : List UInt8) (n d : Int) (a : Nat) (w : World) (h : s.length ≤ 200) (hT : TabOk w) (hE : descE s n d = 0) (L : List (List UInt8)) (hL : L = cutL s n) (ha : a < L.length) (S : List Int) (hS : S = sumsL L)
    (c : Int) (hc : c = ((sumN L[a] : Nat) : Int)) :
    Calls Tryd.prog 6 #[.string ⟨s.toArray⟩, .int .i64 n, .int .i64 d, .int .i64 a] w fun e w' => e = .returned (.bool true) ∧ Below w.heap.size w w' := by
  have K := Lib.hid (cdesc_yes (s := s) (n := n) (d := d) (by omega) hT hE hL)
  rw [← hS] at K
  have hlen : LenL 1000000 L := hL ▸ cut_lens (by omega)
  have hfew : L.length ≤ 16 := hL ▸ cut_few s n
  have HM := Lib.hid (show metaB s.length d S = true by rw [hS, hL]; exact (desc_yes hE).2)
  have HA := Lib.hid (show allB (lessL L c) S = false by rw [hS]; exact less_all ha hc)
  have hSl : S.length = L.length := by rw [hS, sums_len]
  have HSl := Lib.hid hSl
  have hsb : ∀ x ∈ S, (Lit.int .i64 x).wf = true := fun x hx => by
    have := (metaB_iff.1 HM.out).2.2.2 x hx
    exact WalkArith.wf_i64 (by omega)
  have HT := Lib.hid hT
  have HC := Lib.hid hc
  have hll := less_lens hlen c
  have hln := less_len L c
  clear hE hL hT hS hc hSl
  go_enter Tryd.func6, Tryd.ntmps6
  go_wp2_with fail
  refine K.out.mono ?_
  rintro e w1 ⟨ao, cap, av, vc, rfl, hI, hL, hB1⟩
  have hA1 := below_alloc w1 (.cells #[.int .i64 s.length, .int .i64 d, .slice ao L.length cap] 24)
  have HX := Lib.hid (box3 w1 (.int .i64 s.length) (.int .i64 d) (.slice ao L.length cap))
  have HI := Lib.hid (hI.below hA1)
  have HL := Lib.hid (hL.below hA1)
  have HB := Lib.hid (below2 hB1 hA1)
  obtain ⟨b, off, rfl, hca⟩ := HL.out.strs.at ha
  have hla := lens_at hlen ha
  obtain ⟨t, ht⟩ : ∃ t, t = L[a] := ⟨_, rfl⟩
  rw [← ht] at hca hla HC
  clear ht hA1 hI hL hB1 K
  go_wp2_with fail
  refine (sum_calls t (by omega) _ (HT.out.below HB.out)).mono ?_
  rintro e w2 ⟨rfl, hB2⟩
  rw [← HC.out]
  have HX2 := Lib.hid (HX.out.below hB2)
  have HI2 := Lib.hid (HI.out.below hB2)
  have HL2 := Lib.hid (HL.out.below hB2)
  have HB2 := Lib.hid (below2 HB.out hB2)
  clear hca hB2 HX HI HL HB
  go_wp2_with fail
  go_loopw [12, 14] (fun q x wr => ∃ k : Nat, x = .int .i64 k ∧ k ≤ L.length ∧ OwnL wr w2.heap.size q (lessL (L.take k) c) ∧ Hid (Below w2.heap.size w2 wr)) (fun _ x _ => L.length - (intOf x).toNat)
  case atStart => exact ⟨0, rfl, Nat.zero_le _, ownL_nil _ _, Lib.hid (Below.refl _ _)⟩
  case round =>
    obtain ⟨k, rfl, hk, hown, hB⟩ := hrel
    by_cases hlt : k < L.length
    · obtain ⟨b2, off2, he, hc⟩ := (HL2.out.below hB.out).strs.at hlt
      cases he
      have hx := lens_at hlen hlt
      have hst := less_take (c := c) hlt
      have hpl := Nat.le_trans (less_len (L.take k) c) (by rw [List.length_take]; omega : (L.take k).length ≤ 1000000)
      generalize L[k] = x at *
      by_cases hq : ((sumN x : Nat) : Int) = c
      · rw [if_pos hq] at hst
        have HS := Lib.hid hst
        have hne : (((sumN x : Nat) : Int) != c) = false := by rw [bne_eq_false_iff_eq]; exact hq
        clear hst hq
        go_wp2_with fail
        refine (sum_calls x (by omega) _ (HT.out.below (below2 HB2.out hB.out))).mono ?_
        rintro e w3 ⟨rfl, hB3⟩
        go_wp2_with fail
        go_roundw
        case rel => exact ⟨k + 1, by go_num, by omega, by rw [HS.out]; exact ownL_below hown hB3, Lib.hid (below2 hB.out hB3)⟩
        case measure => simp [intOf]; omega
      · rw [if_neg hq] at hst
        have HS := Lib.hid hst
        have hne : (((sumN x : Nat) : Int) != c) = true := by rw [bne_iff_ne]; exact hq
        clear hst hq
        go_wp2_with fail
        refine (sum_calls x (by omega) _ (HT.out.below (below2 HB2.out hB.out))).mono ?_
        rintro e w3 ⟨rfl, hB3⟩
        have hc3 := look_below hB3 hc
        have hsz := (below2 hB.out hB3).size
        go_wp2_with (at_builtin; refine app_text rfl _ _ rfl w2.heap.size _ (lessL (L.take k) c) rfl (ownL_below hown hB3) x rfl hpl hsz ?_; intro v4 w4 ho4 hB4)
        go_roundw
        case rel => exact ⟨k + 1, by go_num, by omega, by rw [HS.out]; exact ho4, Lib.hid (hB4 _ (below2 hB.out hB3))⟩
        case measure => simp [intOf]; omega
    · obtain rfl : k = L.length := by omega
      rw [List.take_length] at hown
      have hts := (ownL_txts hown).strs
      have HX3 := Lib.hid (HX2.out.below hB.out)
      have HI3 := Lib.hid (HI2.out.below hB.out)
      have HS3 := Lib.hid hts
      have HB3 := Lib.hid (below2 HB2.out hB.out)
      have KW := Lib.hid (cwhole_calls s.length d _ S _ (lessL L c) wr HI3.out (by have := HSl.out; omega) hts (by omega) hll (HT.out.below HB3.out))
      rw [(whole_lacks HM.out HA.out).1, (whole_lacks HM.out HA.out).2] at KW
      obtain ⟨c0, c1, c2, _, _, _, _⟩ := HX3.out.three
      clear hown hts HX2 HI2 HL2 HB2 hB
      go_wp2_with fail
      refine KW.out.mono ?_
      rintro e w4 ⟨rfl, hB4⟩
      have HX4 := Lib.hid (HX3.out.below hB4)
      have HI4 := Lib.hid (HI3.out.below hB4)
      have HS4 := Lib.hid (HS3.out.below hB4)
      have HB4 := Lib.hid (below2 HB3.out hB4)
      clear c0 c1 c2 hB4
      go_wp2_with fail
      refine (chKnown_calls _ (HT.out.below HB4.out)).mono ?_
      rintro e w5 ⟨rfl, hB5⟩
      have HI5 := Lib.hid (HI4.out.below hB5)
      have HX5 := Lib.hid (HX4.out.below hB5)
      have HB5 := Lib.hid (below2 HB4.out hB5)
      have KH := Lib.hid (chave_calls s.length d _ S _ (lessL L c) w5 HI5.out (by have := HSl.out; omega) hsb (HS4.out.below hB5) (by omega) hll (HT.out.below HB5.out))
      obtain ⟨c0, c1, c2, _, _, _, _⟩ := HX5.out.three
      clear hB5
      go_wp2_with fail
      refine KH.out.mono ?_
      rintro e w6 ⟨p, rfl, hp, hB6⟩
      have hls := have_less HA.out
      rw [HSl.out] at hls hp
      obtain ⟨ap, pc, rfl⟩ := (ints_own hp).form
      obtain ⟨c0, c1, c2, _, _, _, _⟩ := (HX5.out.below hB6).three
      have hd : decide (((haveL (lessL L c) S L.length).length : Int) < (L.length : Int)) = true := by rw [decide_eq_true_eq]; omega
      generalize haveL (lessL L c) S L.length = P at *
      go_wp2_with fail
      go_ret
      exact ⟨rfl, below2 HB5.out hB6⟩

theorem chainLess_walk (s : List UInt8) (n d a : Int) (w : World) (hl : s.length ≤ 9223372036854775807) (hT : TabOk w) :
    Calls Tryd.prog 6 #[.string ⟨s.toArray⟩, .int .i64 n, .int .i64 d, .int .i64 a] w fun e w' => e = .returned (.bool true) ∧ Below w.heap.size w w' := by
  by_cases h1 : 200 < s.length
  · exact chainLess_far s n d a w h1 hl
  by_cases hE : descE s n d = 0
  · by_cases ha : a < 0 ∨ ((cutL s n).length : Int) ≤ a
    · exact chainLess_out s n d a w (by omega) hT hE _ rfl ha
    · obtain ⟨k, rfl⟩ : ∃ k : Nat, a = k := ⟨a.toNat, by omega⟩
      exact chainLess_main s n d k w (by omega) hT hE _ rfl (by omega) _ rfl _ rfl
  · exact chainLess_not s n d a w (by omega) hT hE

end Go.Proofs.YtinbeapkhmcifaaDoor
