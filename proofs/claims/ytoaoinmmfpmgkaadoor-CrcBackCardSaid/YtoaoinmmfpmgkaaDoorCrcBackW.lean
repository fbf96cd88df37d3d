/-
  The walk of CrcBack.
-/
import Derived.Test.YtoaoinmmfpmgkaaDoorSummed
import Derived.Test.YtoaoinmmfpmgkaaDoorTexts
namespace Go.Proofs.YtoaoinmmfpmgkaaDoor
open Go.RowKit
attribute [local go_sem] app_mk

theorem all_frames (ls : List (List UInt8)) (h : ∀ t ∈ ls, t.length ≤ 300) (hl : ls.length ≤ 12) (w : World) (hT : TabOk w) :
    Calls Tryd.prog 17 #[.string ⟨(framesB ls).toArray⟩] w fun e w' => ∃ v, e = .returned (.tuple #[v, .int .i64 ((framesB ls).length : Nat)]) ∧ Below w.heap.size w w' ∧ Txts w' v ls := by
  have hs := framesB_small ls h
  have e := allF_frames ls [] (fun t ht => by have := h t ht; omega)
  rw [List.append_nil, show allF [] = ([], []) from rfl] at e
  simp only [List.append_nil] at e
  refine (all_calls (framesB ls) (by omega) w hT).mono ?_
  rintro x w' ⟨v, rfl, hB, ho⟩
  rw [e] at ho ⊢
  exact ⟨v, by simp, hB, Txts.own ho⟩
theorem all_more (ls : List (List UInt8)) (r : List UInt8) (h : ∀ t ∈ ls, t.length ≤ 300) (hl : ls.length ≤ 12) (hr : r.length ≤ 300) (w : World) (hT : TabOk w) :
    Calls Tryd.prog 17 #[.string ⟨(framesB ls ++ r).toArray⟩] w fun e w' => ∃ a m c n, e = .returned (.tuple #[.slice a m c, .int .i64 n]) ∧ ((framesB ls).length : Int) ≤ n ∧ ls.length ≤ m ∧ m ≤ 312 ∧ m ≤ c ∧ Below w.heap.size w w' ∧ Txts w' (.slice a ls.length c) ls := by
  have hs := framesB_small ls h
  have e := allF_frames ls r (fun t ht => by have := h t ht; omega)
  have h1 := allF_rest r
  have h2 := allF_many r
  refine (all_calls (framesB ls ++ r) (by rw [List.length_append]; omega) w hT).mono ?_
  rintro x w' ⟨v, rfl, hB, ho⟩
  rw [e] at ho ⊢
  have ht := Txts.own ho
  obtain ⟨a, c, rfl, hc, _⟩ := id ht
  have ht2 := ht.take ls.length (by simp)
  rw [List.take_left] at ht2
  refine ⟨a, _, c, _, rfl, ?_, by simp, by rw [List.length_append]; omega, hc, hB, ht2⟩
  simp only [List.length_append]
  omega

set_option maxHeartbeats 1000000 in
theorem back_long (v : Value) (ls : List (List UInt8)) (r : List UInt8) (w : World) (hs : Strs w v ls) (hm : ls.length ≤ 9223372036854775807) (hl : 12 < ls.length) :
    Calls Tryd.prog 5 #[v, .string ⟨r.toArray⟩] w fun e w' => e = .returned (.bool true) ∧ w = w' := by
  obtain ⟨ao, cap, rfl⟩ := hs.form
  clear hs
  go_enter Tryd.func5, Tryd.ntmps5
  go_wp2_with fail
  go_ret
  exact ⟨rfl, rfl⟩
set_option maxHeartbeats 1000000 in
theorem back_far (v : Value) (ls : List (List UInt8)) (r : List UInt8) (w : World) (hs : Strs w v ls) (hl : ls.length ≤ 12) (hr : 300 < r.length) (hm : r.length ≤ 9223372036854775807) :
    Calls Tryd.prog 5 #[v, .string ⟨r.toArray⟩] w fun e w' => e = .returned (.bool true) ∧ w = w' := by
  obtain ⟨ao, cap, rfl⟩ := hs.form
  have hd : decide ((12 : Int) < (ls.length : Int)) = false := by simp; omega
  clear hs
  go_enter Tryd.func5, Tryd.ntmps5
  go_wp2_with fail
  go_ret
  exact ⟨rfl, rfl⟩

set_option maxRecDepth 100000 in
set_option maxHeartbeats 4000000 in
theorem back_in (v : Value) (ls : List (List UInt8)) (r : List UInt8) (w : World) (hs : Txts w v ls) (hl : ls.length ≤ 12) (hr : r.length ≤ 300) (hT : TabOk w) :
    Calls Tryd.prog 5 #[v, .string ⟨r.toArray⟩] w fun e w' => e = .returned (.bool true) ∧ Below w.heap.size w w' := by
  obtain ⟨ao, cap, rfl⟩ := hs.strs.form
  have HS := Lib.hid hs
  have hd : decide ((12 : Int) < (ls.length : Int)) = false := by simp; omega
  have hd2 : decide ((300 : Int) < (r.length : Int)) = false := by simp; omega
  clear hs
  go_enter Tryd.func5, Tryd.ntmps5
  go_wp2_with fail
  go_loopw [5, 6, 7, 8, 9, 10, 11] (fun q i _ _ _ _ _ wr => ∃ k : Nat, k ≤ ls.length ∧ i = .int .i64 k ∧ q = .string ⟨(framesB (ls.take k)).toArray⟩ ∧ lowTo ls k ∧ Below w.heap.size w wr) (fun _ i _ _ _ _ _ _ => ls.length - (intOf i).toNat)
  case atStart => exact ⟨0, Nat.zero_le _, rfl, by simp [framesB], lowTo_zero _, Below.refl _ _⟩
  case round =>
    obtain ⟨k, hk, rfl, rfl, hlow, hB⟩ := hrel
    have hTk := hT.below hB
    have hfs := framesTo_small hlow (by omega)
    by_cases hlt : k < ls.length
    · obtain ⟨b, off, rfl, hcell⟩ := (HS.out.strs.below hB).at hlt
      have hsucc := framesTo_succ hlt
      have hls := @lowTo_succ ls k hlow hlt
      generalize ls[k] = s at hcell hsucc hls
      have HSU := Lib.hid hsucc
      have HLS := Lib.hid hls
      clear hsucc hls
      by_cases h3 : 300 < s.length
      · go_wp2_with fail
        go_ret
        exact ⟨rfl, hB⟩
      · have h4 : s.length ≤ 300 := by omega
        have hd3 : decide ((300 : Int) < (s.length : Int)) = false := by simp; omega
        have hfl : (frameB s).length ≤ 309 := by rw [frameB_length]; have := wid_le s.length; omega
        have hsb : (s == s) = true := by simp
        have hrb : (r == r) = true := by simp
        clear h3
        go_wp2_with fail
        refine (put_ok s (by omega) _ hTk).mono ?_
        rintro e w1 ⟨rfl, hB1⟩
        go_wp2_with fail
        refine (get_some (frameB s ++ r) (by rw [List.length_append]; omega) (laid_getF s (by omega) r) _ (hTk.below hB1)).mono ?_
        rintro e w2 ⟨rfl, hB2⟩
        have hB12 := below2 hB1 hB2
        have hcell2 := (hB12.cell (p := ⟨b, off + k, none⟩) (World.block_lt_of_cell? wr _ hcell)).trans hcell
        go_wp2_with fail
        go_roundw
        case rel => exact ⟨k + 1, by omega, by go_num, by rw [HSU.out], HLS.out h4, below2 hB hB12⟩
        case measure => simp [intOf]; omega
    · obtain rfl : k = ls.length := by omega
      rw [List.take_length] at hfs ⊢
      have hlow' := low_all hlow
      clear hlow
      go_wp2_with fail
      refine (all_frames ls hlow' hl _ hTk).mono ?_
      rintro e w1 ⟨v1, rfl, hB1, ht1⟩
      obtain ⟨a1, c1, rfl⟩ := ht1.strs.form
      have HT1 := Lib.hid ht1
      have hT1 := hTk.below hB1
      clear ht1
      go_wp2_with fail
      refine (all_more ls r hlow' hl hr _ hT1).mono ?_
      rintro e w2 ⟨a2, m2, c2, n2, rfl, hn2, hm2, hm3, hc2, hB2, ht2⟩
      have hT2 := hT1.below hB2
      have HT2 := Lib.hid ht2
      have hc3 : ls.length ≤ c2 := by omega
      clear ht2
      go_wp2_with fail
      refine (summed_calls _ hT2).mono ?_
      rintro e w3 ⟨rfl, hB3⟩
      have hBA := below2 (below2 (below2 hB hB1) hB2) hB3
      go_wp2_with fail
      refine (texts_calls _ _ ls ls _ (HT1.out.strs.below (below2 hB2 hB3)) (HS.out.strs.below hBA) (by omega)).mono ?_
      rintro e w4 ⟨rfl, hB4⟩
      go_wp2_with fail
      refine (texts_calls _ _ ls ls _ (HT2.out.strs.below (below2 hB3 hB4)) (HS.out.strs.below (below2 hBA hB4)) (by omega)).mono ?_
      rintro e w5 ⟨rfl, hB5⟩
      go_wp2_with fail
      go_ret
      exact ⟨by simp, below2 (below2 hBA hB4) hB5⟩

theorem back_crc (v : Value) (ls : List (List UInt8)) (r : List UInt8) (w : World) (hs : Txts w v ls) (hm : ls.length ≤ maxLen) (hr : r.length ≤ reachBytes) (hT : TabOk w) :
    Calls Tryd.prog 5 #[v, .string ⟨r.toArray⟩] w fun e w' => e = .returned (.bool true) ∧ Below w.heap.size w w' := by
  unfold maxLen at hm
  unfold reachBytes at hr
  by_cases hl : 12 < ls.length
  · exact (back_long v ls r w hs.strs hm hl).mono fun e w' ⟨he, hw⟩ => ⟨he, hw ▸ Below.refl _ _⟩
  · by_cases h3 : 300 < r.length
    · exact (back_far v ls r w hs.strs (by omega) h3 (by omega)).mono fun e w' ⟨he, hw⟩ => ⟨he, hw ▸ Below.refl _ _⟩
    · exact back_in v ls r w hs (by omega) (by omega) hT

end Go.Proofs.YtoaoinmmfpmgkaaDoor
