/-
  The walk of CrcCut.
-/
import Derived.Test.YtoaoinmmfpmgkaaDoorCutSpec
import Derived.Test.YtoaoinmmfpmgkaaDoorSummed
import Derived.Test.YtoaoinmmfpmgkaaDoorTexts
namespace Go.Proofs.YtoaoinmmfpmgkaaDoor
open Go.RowKit
attribute [local go_sem] app_mk ext_take

theorem all_cut (ls : List (List UInt8)) (n m : Nat) (hc : CutAt ls n ls.length m) (hn : n ≤ (framesB ls).length) (h : ∀ t ∈ ls, t.length ≤ 300) (hl : ls.length ≤ 12) (w : World) (hT : TabOk w) :
    Calls Tryd.prog 17 #[.string ⟨((framesB ls).take n).toArray⟩] w fun e w' => ∃ a c, e = .returned (.tuple #[.slice a m c, .int .i64 ((framesB (ls.take m)).length : Nat)]) ∧ Below w.heap.size w w' ∧ Txts w' (.slice a m c) (ls.take m) := by
  have hs := framesB_small ls h
  obtain ⟨r, e, hr⟩ := cut_end hc hn h
  refine (all_calls _ (by rw [List.length_take]; omega) w hT).mono ?_
  rintro x w' ⟨v, rfl, hB, ho⟩
  rw [e] at ho ⊢
  have ht := Txts.own ho
  obtain ⟨a, c, rfl, _⟩ := id ht
  have hml : (ls.take m).length = m := by rw [List.length_take]; have := hc.1; omega
  rw [hml] at ht ⊢
  refine ⟨a, c, ?_, hB, ht⟩
  have : (((framesB ls).take n).length : Int) - (r.length : Int) = ((framesB (ls.take m)).length : Nat) := by rw [List.length_take]; omega
  simp only [this]

set_option maxHeartbeats 1000000 in
theorem cut_long (v : Value) (ls : List (List UInt8)) (p : Int) (w : World) (hs : Strs w v ls) (hm : ls.length ≤ 9223372036854775807) (hl : 12 < ls.length) :
    Calls Tryd.prog 6 #[v, .int .i64 p] w fun e w' => e = .returned (.bool true) ∧ w = w' := by
  obtain ⟨ao, cap, rfl⟩ := hs.form
  clear hs
  go_enter Tryd.func6, Tryd.ntmps6
  go_wp2_with fail
  go_ret
  exact ⟨rfl, rfl⟩

set_option maxRecDepth 100000 in
set_option maxHeartbeats 4000000 in
theorem cut_in (v : Value) (ls : List (List UInt8)) (p : Int) (w : World) (hs : Txts w v ls) (hl : ls.length ≤ 12) (hT : TabOk w) :
    Calls Tryd.prog 6 #[v, .int .i64 p] w fun e w' => e = .returned (.bool true) ∧ Below w.heap.size w w' := by
  obtain ⟨ao, cap, rfl, hcap, _⟩ := id hs
  have HS := Lib.hid hs
  have hd : decide ((12 : Int) < (ls.length : Int)) = false := by simp; omega
  clear hs
  go_enter Tryd.func6, Tryd.ntmps6
  go_wp2_with fail
  go_loopw [5, 6, 7, 8, 9, 10] (fun q y z i _ _ wr => ∃ k m : Nat, k ≤ ls.length ∧ i = .int .i64 k ∧ q = .string ⟨(framesB (ls.take k)).toArray⟩ ∧ y = .int .i64 m ∧ z = .int .i64 ((framesB (ls.take m)).length : Nat) ∧ CutAt ls p k m ∧ lowTo ls k ∧ Below w.heap.size w wr) (fun _ _ _ i _ _ _ => ls.length - (intOf i).toNat)
  case atStart => exact ⟨0, 0, Nat.zero_le _, rfl, by simp [framesB], rfl, by simp [framesB], cutAt_zero _ _, lowTo_zero _, Below.refl _ _⟩
  case round =>
    obtain ⟨k, m, hk, rfl, rfl, rfl, rfl, hcut, hlow, hB⟩ := hrel
    have hTk := hT.below hB
    have hfs := framesTo_small hlow (by omega)
    have hmk := hcut.1
    have HC := Lib.hid hcut
    clear hcut
    by_cases hlt : k < ls.length
    · obtain ⟨b, off, rfl, hcell⟩ := (HS.out.strs.below hB).at hlt
      have hsucc := framesTo_succ hlt
      have hls := @lowTo_succ ls k hlow hlt
      generalize ls[k] = s at hcell hsucc hls
      have HSU := Lib.hid hsucc
      have HLS := Lib.hid hls
      clear hsucc hls
      by_cases h3 : 300 < s.length
      · go_wp2_with fail
        go_ret
        exact ⟨rfl, hB⟩
      · have h4 : s.length ≤ 300 := by omega
        have hd3 : decide ((300 : Int) < (s.length : Int)) = false := by simp; omega
        have hfl : (frameB s).length ≤ 309 := by rw [frameB_length]; have := wid_le s.length; omega
        clear h3
        have hlen : (framesB (ls.take k)).length + (frameB s).length = (framesB (ls.take (k + 1))).length := by rw [HSU.out, List.length_append]
        have HLEN := Lib.hid hlen
        clear hlen
        by_cases hp : ((framesB (ls.take k)).length : Int) + ((frameB s).length : Int) ≤ p
        · go_wp2_with fail
          refine (put_ok s (by omega) _ hTk).mono ?_
          rintro e w1 ⟨rfl, hB1⟩
          go_wp2_with fail
          go_roundw
          case rel =>
            obtain ⟨rfl, hcut⟩ := cutAt_yes HC.out (by rw [← HLEN.out]; omega)
            exact ⟨m + 1, m + 1, by omega, by go_num, by rw [HSU.out], by go_num, by rw [← HLEN.out]; simp, hcut, HLS.out h4, below2 hB hB1⟩
          case measure => simp [intOf]; omega
        · have hp2 : p < ((framesB (ls.take k)).length : Int) + ((frameB s).length : Int) := by omega
          clear hp
          go_wp2_with fail
          refine (put_ok s (by omega) _ hTk).mono ?_
          rintro e w1 ⟨rfl, hB1⟩
          go_wp2_with fail
          go_roundw
          case rel => exact ⟨k + 1, m, by omega, by go_num, by rw [HSU.out], rfl, rfl, cutAt_no HC.out (by rw [← HLEN.out]; omega), HLS.out h4, below2 hB hB1⟩
          case measure => simp [intOf]; omega
    · obtain rfl : k = ls.length := by omega
      rw [List.take_length] at hfs ⊢
      have hlow' := low_all hlow
      clear hlow
      by_cases hp0 : p < 0
      · go_wp2_with fail
        refine (summed_calls _ hTk).mono ?_
        rintro e w1 ⟨rfl, hB1⟩
        go_wp2_with fail
        go_ret
        exact ⟨rfl, below2 hB hB1⟩
      · obtain ⟨n, rfl⟩ := Int.eq_ofNat_of_zero_le (show 0 ≤ p by omega)
        clear hp0
        by_cases hn : (framesB ls).length < n
        · go_wp2_with fail
          refine (summed_calls _ hTk).mono ?_
          rintro e w1 ⟨rfl, hB1⟩
          go_wp2_with fail
          go_ret
          exact ⟨rfl, below2 hB hB1⟩
        · have hn2 : n ≤ (framesB ls).length := by omega
          clear hn
          go_wp2_with fail
          refine (all_cut ls n m HC.out hn2 hlow' hl _ hTk).mono ?_
          rintro e w1 ⟨a1, c1, rfl, hB1, ht1⟩
          have HT1 := Lib.hid ht1
          have hT1 := hTk.below hB1
          have hmc : m ≤ cap := by omega
          clear ht1
          go_wp2_with fail
          refine (summed_calls _ hT1).mono ?_
          rintro e w2 ⟨rfl, hB2⟩
          have hBA := below2 (below2 hB hB1) hB2
          go_wp2_with fail
          refine (texts_calls _ _ (ls.take m) (ls.take m) _ (HT1.out.strs.below hB2) ((HS.out.take m hmk).strs.below hBA) (by rw [List.length_take]; omega)).mono ?_
          rintro e w3 ⟨rfl, hB3⟩
          go_wp2_with fail
          go_ret
          exact ⟨by simp, below2 hBA hB3⟩

theorem cut_crc (v : Value) (ls : List (List UInt8)) (p : Int) (w : World) (hs : Txts w v ls) (hm : ls.length ≤ maxLen) (_ : (Lit.int .i64 p).wf = true) (hT : TabOk w) :
    Calls Tryd.prog 6 #[v, .int .i64 p] w fun e w' => e = .returned (.bool true) ∧ Below w.heap.size w w' := by
  unfold maxLen at hm
  by_cases hl : 12 < ls.length
  · exact (cut_long v ls p w hs.strs hm hl).mono fun e w' ⟨he, hw⟩ => ⟨he, hw ▸ Below.refl _ _⟩
  · exact cut_in v ls p w hs (by omega) hT

end Go.Proofs.YtoaoinmmfpmgkaaDoor
