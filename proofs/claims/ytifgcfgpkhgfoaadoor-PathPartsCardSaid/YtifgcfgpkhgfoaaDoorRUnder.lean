/-
  The document's own Under.
-/
import Derived.Test.YtifgcfgpkhgfoaaDoorRNames
import Derived.Deep.QuietTactic
import Derived.BigQuiet
namespace Go.Proofs.YtifgcfgpkhgfoaaDoor
open Go.RowKit

theorem below_drew {B : Nat} {w w' : World} (h : Below B w w') (q : Nat) : Below B w (w'.drewN q) := ⟨h.os, h.tape, h.output, h.size, h.block⟩
/-- The first k texts are the same. -/
def sameTo (la lb : List (List UInt8)) (k : Nat) : Prop := la.take k = lb.take k
theorem sameTo_succ {la lb : List (List UInt8)} {k : Nat} (h : sameTo la lb k) (ha : k < la.length) (hb : k < lb.length) (he : la[k] = lb[k]) : sameTo la lb (k + 1) := by
  unfold sameTo at h ⊢
  rw [List.take_succ_eq_append_getElem ha, List.take_succ_eq_append_getElem hb, h, he]
theorem same_prefix {la lb : List (List UInt8)} (h : sameTo la lb la.length) : la.isPrefixOf lb = true := by
  unfold sameTo at h
  rw [List.take_length] at h
  exact List.isPrefixOf_iff_prefix.2 (List.prefix_iff_eq_take.2 h)
theorem not_prefix {la lb : List (List UInt8)} {k : Nat} (ha : k < la.length) (hb : k < lb.length) (he : la[k] ≠ lb[k]) : la.isPrefixOf lb = false := by
  rw [Bool.eq_false_iff]
  intro hp
  obtain ⟨r, rfl⟩ := List.isPrefixOf_iff_prefix.1 hp
  exact he (by rw [List.getElem_append_left ha])

set_option maxHeartbeats 8000000 in
theorem refUnder_some {d s : List UInt8} {a b : List (List UInt8)} (hn : namesOf d = some a) (hn2 : namesOf s = some b) (hle : a.length ≤ b.length) (w : World) :
    Calls Tryd.prog 24 #[.string ⟨d.toArray⟩, .string ⟨s.toArray⟩] w fun e w' => e = .returned (.bool (a.isPrefixOf b)) ∧ Below w.heap.size w w' := by
  obtain ⟨hal, _⟩ := names_len hn
  obtain ⟨hbl, _⟩ := names_len hn2
  have H := Lib.hid hn
  have H2 := Lib.hid hn2
  clear hn hn2
  have hgt : decide ((b.length : Int) < (a.length : Int)) = false := by simp; omega
  go_enter Tryd.func24, Tryd.ntmps24
  go_wp2_with fail
  refine (refNames_is H.out _).mono ?_
  rintro e w1 ⟨v, rfl, hT, hB⟩
  go_wp2_with fail
  refine (refNames_is H2.out _).mono ?_
  rintro e w2 ⟨v2, rfl, hT2, hB2⟩
  have HT := Lib.hid (hT.below hB2)
  have HT2 := Lib.hid hT2
  obtain ⟨ao, cap, rfl⟩ := hT.strs.form
  obtain ⟨ao2, cap2, rfl⟩ := hT2.strs.form
  clear hT hT2
  go_wp2_with fail
  go_loopw [9] (fun i wr => ∃ k : Nat, k ≤ a.length ∧ i = .int .i64 k ∧ sameTo a b k ∧ Below w2.heap.size w2 wr) (fun i _ => a.length - (intOf i).toNat)
  case atStart => exact ⟨0, Nat.zero_le _, rfl, by simp [sameTo], Below.refl _ _⟩
  case round =>
    obtain ⟨k, hk, rfl, hf, hBr⟩ := hrel
    by_cases hlt : k < a.length
    · have hlt2 : k < b.length := by omega
      obtain ⟨b1, o1, rfl, hc1⟩ := (HT.out.strs.below hBr).at hlt
      obtain ⟨b2, o2, rfl, hc2⟩ := (HT2.out.strs.below hBr).at hlt2
      generalize hs1 : a[k] = s1 at hc1
      generalize hs2 : b[k] = s2 at hc2
      have HS1 := Lib.hid hs1
      have HS2 := Lib.hid hs2
      clear hs1 hs2
      by_cases hs : s1 = s2
      · have hsb : (s1 == s2) = true := by simp [hs]
        have HS := Lib.hid hs
        clear hs
        go_wp2_with fail
        go_quiet (fail)
        go_wp2_with fail
        go_roundw
        case rel => exact ⟨k + 1, by omega, by go_num, sameTo_succ hf hlt hlt2 (by rw [HS1.out, HS2.out]; exact HS.out), below_drew hBr _⟩
        case measure => simp [intOf]; omega
      · have hsb : (s1 == s2) = false := by simp [hs]
        have HS := Lib.hid hs
        clear hs
        go_wp2_with fail
        go_quiet (fail)
        go_wp2_with fail
        go_ret
        exact ⟨by rw [not_prefix hlt hlt2 (by rw [HS1.out, HS2.out]; exact HS.out)]; rfl, below2 (below2 hB hB2) (below_drew hBr _)⟩
    · obtain rfl : k = a.length := by omega
      have hr := Lib.hid (same_prefix hf)
      go_wp2_with fail
      go_ret
      exact ⟨by rw [hr.out]; rfl, below3 hB hB2 hBr⟩

set_option maxHeartbeats 2000000 in
theorem refUnder_calls (d s : List UInt8) (hl : d.length ≤ 1000000) (hl2 : s.length ≤ 1000000) (w : World) :
    Calls Tryd.prog 24 #[.string ⟨d.toArray⟩, .string ⟨s.toArray⟩] w fun e w' => e = .returned (.bool (underOf d s)) ∧ Below w.heap.size w w' := by
  cases hn : namesOf d with
  | none =>
    have hu : underOf d s = false := by simp [underOf, hn]
    rw [hu]
    have H := Lib.hid hn
    clear hn hu
    cases hn2 : namesOf s with
    | none =>
      have H2 := Lib.hid hn2
      clear hn2
      go_enter Tryd.func24, Tryd.ntmps24
      go_wp2_with fail
      refine (refNames_not H.out hl _).mono ?_
      rintro e w1 ⟨_, _, _, rfl, hB⟩
      go_wp2_with fail
      refine (refNames_not H2.out hl2 _).mono ?_
      rintro e w2 ⟨_, _, _, rfl, hB2⟩
      go_wp2_with fail
      go_ret
      exact ⟨rfl, below2 hB hB2⟩
    | some b =>
      have H2 := Lib.hid hn2
      clear hn2
      go_enter Tryd.func24, Tryd.ntmps24
      go_wp2_with fail
      refine (refNames_not H.out hl _).mono ?_
      rintro e w1 ⟨_, _, _, rfl, hB⟩
      go_wp2_with fail
      refine (refNames_is H2.out _).mono ?_
      rintro e w2 ⟨v, rfl, hT, hB2⟩
      go_wp2_with fail
      go_ret
      exact ⟨rfl, below2 hB hB2⟩
  | some a =>
    cases hn2 : namesOf s with
    | none =>
      have hu : underOf d s = false := by simp [underOf, hn, hn2]
      rw [hu]
      have H := Lib.hid hn
      have H2 := Lib.hid hn2
      clear hn hn2 hu
      go_enter Tryd.func24, Tryd.ntmps24
      go_wp2_with fail
      refine (refNames_is H.out _).mono ?_
      rintro e w1 ⟨v, rfl, hT, hB⟩
      go_wp2_with fail
      refine (refNames_not H2.out hl2 _).mono ?_
      rintro e w2 ⟨_, _, _, rfl, hB2⟩
      go_wp2_with fail
      go_ret
      exact ⟨rfl, below2 hB hB2⟩
    | some b =>
      rw [under_some hn hn2]
      by_cases hle : a.length ≤ b.length
      · exact refUnder_some hn hn2 hle w
      · have hlt : b.length < a.length := by omega
        obtain ⟨hal, _⟩ := names_len hn
        rw [prefix_long a b hlt]
        have H := Lib.hid hn
        have H2 := Lib.hid hn2
        clear hle hn hn2
        go_enter Tryd.func24, Tryd.ntmps24
        go_wp2_with fail
        refine (refNames_is H.out _).mono ?_
        rintro e w1 ⟨v, rfl, hT, hB⟩
        obtain ⟨ao, cap, rfl, _⟩ := hT
        go_wp2_with fail
        refine (refNames_is H2.out _).mono ?_
        rintro e w2 ⟨v2, rfl, hT2, hB2⟩
        obtain ⟨ao2, cap2, rfl, _⟩ := hT2
        go_wp2_with fail
        go_ret
        exact ⟨rfl, below2 hB hB2⟩

end Go.Proofs.YtifgcfgpkhgfoaaDoor
