/-
  The walk of ChainWhole.
-/
import Derived.Test.YtinbeapkhmcifaaDoorChLaw
import Derived.Test.YtinbeapkhmcifaaDoorOwn
namespace Go.Proofs.YtinbeapkhmcifaaDoor
set_option maxRecDepth 100000
open Go.RowKit

/-- Among texts of which no two unlike ones have one sum, a text's sum finds it. -/
theorem of_own {A : List (List UInt8)} (h : NoTw A) {t : List UInt8} (ht : t ∈ A) : hasSum A (sumN t : Nat) = true ∧ ofSum A (sumN t : Nat) = t := by
  have h1 : hasSum A (sumN t : Nat) = true := by
    rw [hasSum, List.any_eq_true]
    exact ⟨t, ht, by simp⟩
  obtain ⟨h2, h3⟩ := of_mem h1
  exact ⟨h1, h _ h2 _ ht (by omega)⟩
theorem got_own {A L : List (List UInt8)} (h : NoTw A) (hL : ∀ t ∈ L, t ∈ A) : gotL A (sumsL L) = L ∧ allB A (sumsL L) = true := by
  constructor
  · unfold gotL sumsL
    rw [List.map_map]
    conv => rhs; rw [← List.map_id L]
    apply List.map_congr_left
    intro t ht
    exact (of_own h (hL t ht)).2
  · unfold allB sumsL
    rw [List.all_map, List.all_eq_true]
    intro t ht
    exact (of_own h (hL t ht)).1
/-- Whole finds the text, if no two unlike texts have one sum. -/
theorem whole_own {s : List UInt8} {d : Int} {A L : List (List UInt8)} (h : NoTw A) (hL : ∀ t ∈ L, t ∈ A) (hf : L.flatten = s) (hm : metaB s.length d (sumsL L) = true) : wholeT s.length d (sumsL L) A = s ∧ wholeE s.length d (sumsL L) A = 0 := by
  obtain ⟨h1, h2⟩ := got_own h hL
  have := whole_is hm h2 (by rw [h1, hf])
  rw [h1, hf] at this
  exact this
theorem whole_all {z d : Int} {cs : List Int} {A : List (List UInt8)} (h : wholeE z d cs A = 0) : allB A cs = true := by
  cases hb : metaB z d cs with
  | false => rw [(whole_bad hb).2] at h; cases h
  | true =>
    cases ha : allB A cs with
    | true => rfl
    | false => rw [(whole_lacks hb ha).2] at h; cases h

theorem chainWhole_long (s : List UInt8) (n d : Int) (v : Value) (w : World) (h : 200 < s.length) (hl : s.length ≤ 9223372036854775807) :
    Calls Tryd.prog 5 #[.string ⟨s.toArray⟩, .int .i64 n, .int .i64 d, v] w fun e w' => e = .returned (.bool true) ∧ Below w.heap.size w w' := by
  go_enter Tryd.func5, Tryd.ntmps5
  go_wp2_with fail
  go_ret
  exact ⟨rfl, Below.refl _ _⟩
theorem chainWhole_far (s : List UInt8) (n d : Int) (v : Value) (l : List (List UInt8)) (w : World) (h : s.length ≤ 200) (hv : Strs w v l) (hl : l.length ≤ 9223372036854775807) (hf : chFar l = true) :
    Calls Tryd.prog 5 #[.string ⟨s.toArray⟩, .int .i64 n, .int .i64 d, v] w fun e w' => e = .returned (.bool true) ∧ Below w.heap.size w w' := by
  have K := Lib.hid (chFar_calls v l w hv hl)
  rw [hf] at K
  clear hf hv
  go_enter Tryd.func5, Tryd.ntmps5
  go_wp2_with fail
  refine K.out.mono ?_
  rintro e w1 ⟨rfl, rfl⟩
  go_wp2_with fail
  go_ret
  exact ⟨rfl, Below.refl _ _⟩

set_option maxHeartbeats 2000000 in
theorem chainWhole_not (s : List UInt8) (n d : Int) (v : Value) (l : List (List UInt8)) (w : World) (h : s.length ≤ 200) (hv : Strs w v l) (hl : l.length ≤ 9223372036854775807) (hf : chFar l = false) (hT : TabOk w) (hE : descE s n d ≠ 0) :
    Calls Tryd.prog 5 #[.string ⟨s.toArray⟩, .int .i64 n, .int .i64 d, v] w fun e w' => e = .returned (.bool true) ∧ Below w.heap.size w w' := by
  have KF := Lib.hid (chFar_calls v l w hv hl)
  rw [hf] at KF
  obtain ⟨E, hEE⟩ : ∃ E, E = descE s n d := ⟨_, rfl⟩
  have K := Lib.hid (cdesc_not (s := s) (n := n) (d := d) (by omega) hT hE hEE)
  have hne : (E != 0) = true := by rw [bne_iff_ne, hEE]; exact hE
  have HT := Lib.hid hT
  clear hE hEE hT hf hv
  go_enter Tryd.func5, Tryd.ntmps5
  go_wp2_with fail
  refine KF.out.mono ?_
  rintro e w0 ⟨rfl, rfl⟩
  go_wp2_with fail
  refine K.out.mono ?_
  rintro e w1 ⟨au, cu, av, vc, rfl, hB1⟩
  have HB := Lib.hid (below2 hB1 (below_alloc w1 (.cells #[.int .i64 0, .int .i64 0, .slice au 0 cu] 24)))
  go_wp2_with fail
  refine (chKnown_calls _ (HT.out.below HB.out)).mono ?_
  rintro e w2 ⟨rfl, hB2⟩
  go_wp2_with fail
  go_ret
  exact ⟨rfl, below2 HB.out hB2⟩

set_option maxHeartbeats 4000000 in
theorem chainWhole_main (s : List UInt8) (n d : Int) (v : Value) (l : List (List UInt8)) (w : World) (h : s.length ≤ 200) (hv : Strs w v l) (hf : chFar l = false) (hT : TabOk w) (hE : descE s n d = 0) (L : List (List UInt8)) (hL : L = cutL s n)
    (S : List Int) (hS : S = sumsL L) (A : List (List UInt8)) (hA : A = l ++ L.reverse) (T : List UInt8) (E : Int) (hTT : T = wholeT s.length d S A) (hEE : E = wholeE s.length d S A) :
    Calls Tryd.prog 5 #[.string ⟨s.toArray⟩, .int .i64 n, .int .i64 d, v] w fun e w' => e = .returned (.bool true) ∧ Below w.heap.size w w' := by
  obtain ⟨hl2, hl30⟩ := far_not hf
  have KF := Lib.hid (chFar_calls v l w hv (by omega))
  rw [hf] at KF
  have K := Lib.hid (cdesc_yes (s := s) (n := n) (d := d) (by omega) hT hE hL)
  rw [← hS] at K
  have hlen : LenL 1000000 L := hL ▸ cut_lens (by omega)
  have hfew : L.length ≤ 16 := hL ▸ cut_few s n
  have hmeta : metaB s.length d S = true := by rw [hS, hL]; exact (desc_yes hE).2
  have hSl : S.length = L.length := by rw [hS, sums_len]
  have hflat : L.flatten = s := by
    rw [hL]
    rcases cut_cases s n with ⟨x, _⟩ | ⟨x, _⟩ | ⟨_, x, y, _⟩
    · have := (desc_yes hE).1; omega
    · have := (desc_yes hE).1; omega
    · rw [x]; exact chop_flat (by omega) s
  have HN := Lib.hid (show NoTw A → T = s ∧ E = 0 by
    intro hn
    rw [hTT, hEE, hS]
    exact whole_own hn (fun t ht => by rw [hA]; exact List.mem_append_right _ (List.mem_reverse.2 ht)) hflat (hS ▸ hmeta))
  have HAl := Lib.hid (show E = 0 → allB A S = true from fun e => whole_all (hEE ▸ e))
  have HM := Lib.hid hmeta
  have HSl := Lib.hid hSl
  have hAl : A.length ≤ 46 := by rw [hA, List.length_append, List.length_reverse]; omega
  have hAm : LenL 1000000 A := by
    intro t ht
    rw [hA] at ht
    rcases List.mem_append.1 ht with ht | ht
    · have := hl2 t ht; omega
    · exact hlen t (List.mem_reverse.1 ht)
  have hsb : ∀ x ∈ S, (Lit.int .i64 x).wf = true := fun x hx => by
    have := (metaB_iff.1 HM.out).2.2.2 x hx
    exact WalkArith.wf_i64 (by omega)
  have HT := Lib.hid hT
  have HV := Lib.hid hv
  have HA := Lib.hid hA
  have HTT := Lib.hid hTT
  have HEE := Lib.hid hEE
  clear hE hL hT hS hSl hf hv hA hTT hEE hmeta hflat
  go_enter Tryd.func5, Tryd.ntmps5
  go_wp2_with fail
  refine KF.out.mono ?_
  rintro e w0 ⟨rfl, rfl⟩
  go_wp2_with fail
  refine K.out.mono ?_
  rintro e w1 ⟨ao, cap, av, vc, rfl, hI, hL, hB1⟩
  have hA1 := below_alloc w1 (.cells #[.int .i64 s.length, .int .i64 d, .slice ao L.length cap] 24)
  have HX := Lib.hid (box3 w1 (.int .i64 s.length) (.int .i64 d) (.slice ao L.length cap))
  have HI := Lib.hid (hI.below hA1)
  have HL := Lib.hid (hL.below hA1)
  have HB := Lib.hid (below2 hB1 hA1)
  have KO := Lib.hid (own_row v l _ (HV.out.below HB.out) (by omega))
  clear hA1 hI hL hB1 K KF HV
  go_wp2_with fail
  refine KO.out.mono ?_
  rintro e w2 ⟨q0, rfl, hq0, hB2⟩
  have HX2 := Lib.hid (HX.out.below hB2)
  have HI2 := Lib.hid (HI.out.below hB2)
  have HL2 := Lib.hid (HL.out.below hB2)
  have HB2 := Lib.hid (below2 HB.out hB2)
  have hbz := hB2.size
  obtain ⟨B0, hB0⟩ : ∃ B0, B0 = (w1.alloc (.cells #[.int .i64 s.length, .int .i64 d, .slice ao L.length cap] 24)).heap.size := ⟨_, rfl⟩
  obtain ⟨W0, hW0⟩ : ∃ W0, W0 = w1.alloc (.cells #[.int .i64 s.length, .int .i64 d, .slice ao L.length cap] 24) := ⟨_, rfl⟩
  rw [← hW0] at hB0 hq0 hB2 HX HI HL HB hbz
  have HWB := Lib.hid (And.intro hB0 hB2)
  have hq1 : OwnL w2 W0.heap.size q0 l := hq0
  have HQ1 := Lib.hid hq1
  clear HX2 HI2 HL2 HB2 hB0 hB2 hq0 hq1 KO hW0
  go_wp2_with fail
  go_loopw [12, 13] (fun q x wr => ∃ (j : Nat) (x0 : Int), x = .int .i64 x0 ∧ Hid (x0 = (j : Int) - 1) ∧ j ≤ L.length ∧ OwnL wr W0.heap.size q (l ++ (L.drop j).reverse) ∧ Hid (Below W0.heap.size W0 wr)) (fun _ x _ => (intOf x + 1).toNat)
  case atStart => exact ⟨L.length, _, rfl, Lib.hid rfl, Nat.le_refl _, by simpa using HQ1.out, Lib.hid HWB.out.2⟩
  case round =>
    obtain ⟨j, x0, rfl, hx0, hj, hown, hB⟩ := hrel
    rcases Nat.eq_zero_or_pos j with rfl | hjp
    · obtain rfl : x0 = -1 := by have := hx0.out; omega
      rw [List.drop_zero, ← HA.out] at hown
      have hts := (ownL_txts hown).strs
      have HX3 := Lib.hid (HX.out.below hB.out)
      have HI3 := Lib.hid (HI.out.below hB.out)
      have HS3 := Lib.hid hts
      have HB3 := Lib.hid (below2 HB.out hB.out)
      have KW := Lib.hid (cwhole_calls s.length d _ S _ A wr HI3.out (by have := HSl.out; omega) hts (by omega) hAm (HT.out.below HB3.out))
      rw [← HTT.out, ← HEE.out] at KW
      obtain ⟨c0, c1, c2, _, _, _, _⟩ := HX3.out.three
      clear hown hts HX HI HL HB hB HQ1 HWB
      go_wp2_with fail
      refine KW.out.mono ?_
      rintro e w4 ⟨rfl, hB4⟩
      have HX4 := Lib.hid (HX3.out.below hB4)
      have HI4 := Lib.hid (HI3.out.below hB4)
      have HS4 := Lib.hid (HS3.out.below hB4)
      have HB4 := Lib.hid (below2 HB3.out hB4)
      clear c0 c1 c2 hB4
      go_wp2_with fail
      refine (chKnown_calls _ (HT.out.below HB4.out)).mono ?_
      rintro e w5 ⟨rfl, hB5⟩
      have HI5 := Lib.hid (HI4.out.below hB5)
      have HX5 := Lib.hid (HX4.out.below hB5)
      have HS5 := Lib.hid (HS4.out.below hB5)
      have HB5 := Lib.hid (below2 HB4.out hB5)
      have KT := Lib.hid (twins_calls _ A w5 HS5.out (by omega) hAm (HT.out.below HB5.out))
      clear hB5
      by_cases hE0 : E = 0
      · by_cases hTs : T = s
        · have hal := HAl.out hE0
          have KH := Lib.hid (chave_calls s.length d _ S _ A w5 HI5.out (by have := HSl.out; omega) hsb HS5.out (by omega) hAm (HT.out.below HB5.out))
          obtain ⟨c0, c1, c2, _, _, _, _⟩ := HX5.out.three
          have hhl := have_all hal
          rw [HSl.out] at hhl KH
          have b1 : (E == 0) = true := by rw [hE0]; rfl
          have b2 : (T == s) = true := by rw [hTs]; simp
          clear KT hal hE0 hTs
          go_wp2_with fail
          refine KH.out.mono ?_
          rintro e w6 ⟨p, rfl, hp, hB6⟩
          obtain ⟨ap, pc, rfl⟩ := (ints_own hp).form
          rw [hhl]
          go_wp2_with fail
          go_ret
          exact ⟨rfl, below2 HB5.out hB6⟩
        · have b1 : (E == 0) = true := by rw [hE0]; rfl
          have b2 : (T == s) = false := by rw [beq_eq_false_iff_ne]; exact hTs
          have HR := Lib.hid (show ¬ NoTw A from fun hn => hTs (HN.out hn).1)
          clear hE0 hTs
          go_wp2_with fail
          refine KT.out.mono ?_
          rintro e w6 ⟨r, rfl, hr, hB6⟩
          obtain rfl : r = true := by cases r with | true => rfl | false => exact absurd (hr rfl) HR.out
          go_wp2_with fail
          go_ret
          exact ⟨rfl, below2 HB5.out hB6⟩
      · have b1 : (E == 0) = false := by rw [beq_eq_false_iff_ne]; exact hE0
        have HR := Lib.hid (show ¬ NoTw A from fun hn => hE0 (HN.out hn).2)
        clear hE0
        go_wp2_with fail
        refine KT.out.mono ?_
        rintro e w6 ⟨r, rfl, hr, hB6⟩
        obtain rfl : r = true := by cases r with | true => rfl | false => exact absurd (hr rfl) HR.out
        go_wp2_with fail
        go_ret
        exact ⟨rfl, below2 HB5.out hB6⟩
    · obtain ⟨k, rfl⟩ : ∃ k, j = k + 1 := ⟨j - 1, by omega⟩
      obtain rfl : x0 = (k : Int) := by have := hx0.out; omega
      have hlt : k < L.length := by omega
      obtain ⟨b2, off2, rfl, hc⟩ := (HL.out.below hB.out).strs.at hlt
      have hdr : (L.drop k).reverse = (L.drop (k + 1)).reverse ++ [L[k]] := by rw [List.drop_eq_getElem_cons hlt, List.reverse_cons]
      have HD := Lib.hid (show l ++ (L.drop k).reverse = (l ++ (L.drop (k + 1)).reverse) ++ [L[k]] by rw [hdr, List.append_assoc])
      have hll : (l ++ (L.drop (k + 1)).reverse).length ≤ 1000000 := by rw [List.length_append, List.length_reverse, List.length_drop]; omega
      have hsz := hB.out.size
      generalize L[k] = t at *
      clear hdr
      go_wp2_with (at_builtin; refine app_text rfl _ _ rfl W0.heap.size _ (l ++ (L.drop (k + 1)).reverse) rfl hown t rfl hll hsz ?_; intro v4 w4 ho4 hB4)
      go_roundw
      case rel => exact ⟨k, (k : Int) - 1, by go_num, Lib.hid rfl, by omega, by rw [HD.out]; exact ho4, Lib.hid (hB4 _ hB.out)⟩
      case measure => simp [intOf]

theorem chainWhole_walk (s : List UInt8) (n d : Int) (v : Value) (l : List (List UInt8)) (w : World) (hl : s.length ≤ 9223372036854775807) (hv : Strs w v l) (hll : l.length ≤ 9223372036854775807) (hT : TabOk w) :
    Calls Tryd.prog 5 #[.string ⟨s.toArray⟩, .int .i64 n, .int .i64 d, v] w fun e w' => e = .returned (.bool true) ∧ Below w.heap.size w w' := by
  by_cases h1 : 200 < s.length
  · exact chainWhole_long s n d v w h1 hl
  cases hf : chFar l with
  | true => exact chainWhole_far s n d v l w (by omega) hv hll hf
  | false =>
    by_cases hE : descE s n d = 0
    · exact chainWhole_main s n d v l w (by omega) hv hf hT hE _ rfl _ rfl _ rfl _ _ rfl rfl
    · exact chainWhole_not s n d v l w (by omega) hv hll hf hT hE

end Go.Proofs.YtinbeapkhmcifaaDoor
