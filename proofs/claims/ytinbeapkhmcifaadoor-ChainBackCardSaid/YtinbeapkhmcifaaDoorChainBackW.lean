/-
  The walk of ChainBack.
-/
import Derived.Test.YtinbeapkhmcifaaDoorChLaw
import Derived.Test.YtinbeapkhmcifaaDoorChainFewerW
namespace Go.Proofs.YtinbeapkhmcifaaDoor
set_option maxRecDepth 100000
open Go.RowKit
attribute [local go_sem] app_mk

theorem chainBack_far (s : List UInt8) (n : Int) (w : World) (h : 5000 < s.length) (hl : s.length ≤ 9223372036854775807) :
    Calls Tryd.prog 4 #[.string ⟨s.toArray⟩, .int .i64 n] w fun e w' => e = .returned (.bool true) ∧ Below w.heap.size w w' := by
  go_enter Tryd.func4, Tryd.ntmps4
  go_wp2_with fail
  go_ret
  exact ⟨rfl, Below.refl _ _⟩

set_option maxHeartbeats 2000000 in
theorem chainBack_no (s : List UInt8) (n : Int) (w : World) (h : s.length ≤ 5000) (hT : TabOk w) (E : Int) (hE : E = cutE s n) (h0 : E ≠ 0) :
    Calls Tryd.prog 4 #[.string ⟨s.toArray⟩, .int .i64 n] w fun e w' => e = .returned (.bool true) ∧ Below w.heap.size w w' := by
  have hc := cut_cases s n
  rw [← hE] at hc
  have K1 := Lib.hid (ccut_form hE (L := cutL s n) rfl w)
  have hz : (cutL s n).length = 0 := by
    rcases hc with ⟨_, x, _⟩ | ⟨_, x, _⟩ | ⟨x, _⟩
    · rw [x]; rfl
    · rw [x]; rfl
    · exact absurd x h0
  rw [hz] at K1
  have hw : n < 1 ∨ 4000 < n ∨ (1 ≤ n ∧ n ≤ 4000 ∧ 16 * n < s.length) := by omega
  have hne : (E != 0) = true := by rw [bne_iff_ne]; exact h0
  have HT := Lib.hid hT
  clear hc hz hE h0 hT
  rcases hw with h1 | h1 | ⟨h1, h2, h3⟩
  · go_enter Tryd.func4, Tryd.ntmps4
    go_wp2_with fail
    refine K1.out.mono ?_
    rintro e w1 ⟨a1, c1, rfl, _, hB1⟩
    go_wp2_with fail
    refine (chKnown_calls _ (HT.out.below hB1)).mono ?_
    rintro e w3 ⟨rfl, hB3⟩
    go_wp2_with fail
    go_ret
    exact ⟨rfl, below2 hB1 hB3⟩
  · have h0 : 1 ≤ n := by omega
    go_enter Tryd.func4, Tryd.ntmps4
    go_wp2_with fail
    refine K1.out.mono ?_
    rintro e w1 ⟨a1, c1, rfl, _, hB1⟩
    go_wp2_with fail
    refine (chKnown_calls _ (HT.out.below hB1)).mono ?_
    rintro e w3 ⟨rfl, hB3⟩
    go_wp2_with fail
    go_ret
    exact ⟨rfl, below2 hB1 hB3⟩
  · have hd : decide (16 * n < (s.length : Int)) = true := by rw [decide_eq_true_eq]; exact h3
    go_enter Tryd.func4, Tryd.ntmps4
    go_wp2_with fail
    refine K1.out.mono ?_
    rintro e w1 ⟨a1, c1, rfl, _, hB1⟩
    go_wp2_with fail
    refine (chKnown_calls _ (HT.out.below hB1)).mono ?_
    rintro e w3 ⟨rfl, hB3⟩
    go_wp2_with fail
    go_ret
    exact ⟨rfl, below2 hB1 hB3⟩

/-- How long the chunks are. -/
theorem chop_sizes {n : Nat} (hn : 0 < n) (s : List UInt8) {i : Nat} (hi : i < (chopN n s).length) : 0 < (chopN n s)[i].length ∧ (chopN n s)[i].length ≤ n ∧ (i + 1 < (chopN n s).length → (chopN n s)[i].length = n) := by
  have e : (chopN n s)[i] = (s.drop (i * n)).take n := pcs_get n s _ i hi
  have hl := chop_len n s
  have h1 := (cnt_lt (m := s.length) (k := i) hn).1 (by omega)
  rw [e, List.length_take, List.length_drop]
  refine ⟨by omega, by omega, fun h => ?_⟩
  have h2 := (cnt_lt (m := s.length) (k := i + 1) hn).1 (by omega)
  rw [Nat.succ_mul] at h2
  omega
theorem flat_more {L : List (List UInt8)} {k : Nat} (hk : k < L.length) : (L.take (k + 1)).flatten = (L.take k).flatten ++ L[k] := by
  rw [List.take_succ_eq_append_getElem hk, List.flatten_append]
  simp

theorem flat_le (L : List (List UInt8)) (k : Nat) : ((L.take k).flatten).length ≤ L.flatten.length := by
  have h : L.flatten = (L.take k).flatten ++ (L.drop k).flatten := by rw [← List.flatten_append, List.take_append_drop]
  rw [h, List.length_append]
  omega

set_option maxHeartbeats 4000000 in
theorem chainBack_main (s : List UInt8) (n : Int) (w : World) (h : s.length ≤ 5000) (hT : TabOk w) (L : List (List UInt8)) (hL : L = cutL s n) (hE : 0 = cutE s n) (m : Nat) (hm : n = m)
    (hf : L.flatten = s) (hl : L.length ≤ 16) (hm4 : m ≤ 4000) (hsz : ∀ (i : Nat) (hi : i < L.length), 0 < L[i].length ∧ L[i].length ≤ m ∧ (i + 1 < L.length → L[i].length = m)) :
    Calls Tryd.prog 4 #[.string ⟨s.toArray⟩, .int .i64 n] w fun e w' => e = .returned (.bool true) ∧ Below w.heap.size w w' := by
  have K1 := Lib.hid (ccut_form hE hL w)
  subst hm
  have HT := Lib.hid hT
  have HF := Lib.hid hf
  clear hL hT hE hf
  go_enter Tryd.func4, Tryd.ntmps4
  go_wp2_with fail
  refine K1.out.mono ?_
  rintro e w1 ⟨a1, c1, rfl, hS, hB1⟩
  have HS := Lib.hid hS
  have HB := Lib.hid hB1
  clear hS hB1
  go_wp2_with fail
  go_loopw [7, 8] (fun q x wr => ∃ (k : Nat) (r : List UInt8), x = .int .i64 k ∧ k ≤ L.length ∧ q = .string ⟨r.toArray⟩ ∧ Hid (r = (L.take k).flatten) ∧ Hid (Below w1.heap.size w1 wr)) (fun _ x _ => L.length - (intOf x).toNat)
  case atStart => exact ⟨0, [], rfl, Nat.zero_le _, rfl, Lib.hid rfl, Lib.hid (Below.refl _ _)⟩
  case round =>
    obtain ⟨k, r, rfl, hk, rfl, hr, hB⟩ := hrel
    by_cases hlt : k < L.length
    · obtain ⟨b, off, rfl, hc⟩ := (HS.out.below hB.out).at hlt
      obtain ⟨z1, z2, z3⟩ := hsz k hlt
      have hfm := flat_more hlt
      have hrl := flat_le L k
      rw [HF.out, ← hr.out] at hrl
      rw [← hr.out] at hfm
      generalize L[k] = t at *
      have HM := Lib.hid hfm
      have d1 : ((t.length : Int) == 0) = false := by rw [beq_eq_false_iff_ne]; omega
      have d2 : decide (m < t.length) = false := by rw [decide_eq_false_iff_not]; omega
      clear hfm
      by_cases hlast : k + 1 < L.length
      · have hz := z3 hlast
        have d3 : decide ((k : Int) < (L.length : Int) - 1) = true := by rw [decide_eq_true_eq]; omega
        have d4 : ((t.length : Int) != (m : Int)) = false := by rw [bne_eq_false_iff_eq]; omega
        have HZ := Lib.hid hz
        clear z3 hz
        go_wp2_with fail
        go_roundw
        case rel => exact ⟨k + 1, r ++ t, by go_num, by omega, rfl, Lib.hid HM.out.symm, hB⟩
        case measure => simp [intOf]; omega
      · have d3 : decide ((k : Int) < (L.length : Int) - 1) = false := by rw [decide_eq_false_iff_not]; omega
        clear z3
        go_wp2_with fail
        go_roundw
        case rel => exact ⟨k + 1, r ++ t, by go_num, by omega, rfl, Lib.hid HM.out.symm, hB⟩
        case measure => simp [intOf]; omega
    · obtain rfl : k = L.length := by omega
      rw [List.take_length, HF.out] at hr
      have hrs : (r == s) = true := by rw [hr.out]; simp
      have d5 : decide ((L.length : Int) ≤ 16) = true := by rw [decide_eq_true_eq]; omega
      go_wp2_with fail
      have HB2 := Lib.hid (below2 HB.out hB.out)
      refine (chKnown_calls _ (HT.out.below HB2.out)).mono ?_
      rintro e w3 ⟨rfl, hB3⟩
      go_wp2_with fail
      go_ret
      exact ⟨rfl, below2 HB2.out hB3⟩

theorem chainBack_walk (s : List UInt8) (n : Int) (w : World) (hl : s.length ≤ 9223372036854775807) (hT : TabOk w) :
    Calls Tryd.prog 4 #[.string ⟨s.toArray⟩, .int .i64 n] w fun e w' => e = .returned (.bool true) ∧ Below w.heap.size w w' := by
  by_cases h1 : 5000 < s.length
  · exact chainBack_far s n w h1 hl
  rcases cut_cases s n with ⟨x, _⟩ | ⟨x, _⟩ | ⟨x, y, z, u, _⟩
  · exact chainBack_no s n w (by omega) hT _ rfl (by omega)
  · exact chainBack_no s n w (by omega) hT _ rfl (by omega)
  · refine chainBack_main s n w (by omega) hT _ rfl x.symm n.toNat (by omega) ?_ (cut_few s n) (by omega) ?_
    · rw [y]; exact chop_flat (by omega) s
    · rw [y]; exact fun i hi => chop_sizes (by omega) s hi

end Go.Proofs.YtinbeapkhmcifaaDoor
