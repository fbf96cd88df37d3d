/-
  path.Under.
-/
import Derived.Test.YtaoiiocgnnjnnaaDoorPName
import Derived.Test.YtaoiiocgnnjnnaaDoorPEq
namespace Go.Proofs.YtaoiiocgnnjnnaaDoor
open Go.RowKit

theorem prefix_take (a b : List (List UInt8)) : decide (a = b.take a.length) = a.isPrefixOf b := by
  cases hp : a.isPrefixOf b with
  | true =>
    have := List.prefix_iff_eq_take.1 (List.isPrefixOf_iff_prefix.1 hp)
    simpa using this
  | false =>
    rw [decide_eq_false_iff_not]
    intro e
    have := List.isPrefixOf_iff_prefix.2 (List.prefix_iff_eq_take.2 e)
    rw [hp] at this; cases this
theorem prefix_long (a b : List (List UInt8)) (h : b.length < a.length) : a.isPrefixOf b = false := by
  rw [Bool.eq_false_iff]
  intro hp
  have := (List.isPrefixOf_iff_prefix.1 hp).length_le
  omega

set_option maxHeartbeats 2000000 in
theorem under_calls (d s : List UInt8) (hl : d.length ≤ 9223372036854775807) (hl2 : s.length ≤ 9223372036854775807) (w : World) (hm : Ml w) :
    Calls Tryd.prog 22 #[.string ⟨d.toArray⟩, .string ⟨s.toArray⟩] w fun e w' => e = .returned (.bool (underOf d s)) ∧ Below w.heap.size w w' := by
  cases hn : namesOf d with
  | none =>
    have hu : underOf d s = false := by simp [underOf, hn]
    rw [hu]
    have H := Lib.hid hn
    clear hn hu
    cases hn2 : namesOf s with
    | none =>
      have H2 := Lib.hid hn2
      clear hn2
      go_enter Tryd.func22, Tryd.ntmps22
      go_wp2_with fail
      refine (names_not H.out hl _ hm).mono ?_
      rintro e w1 ⟨rfl, hB⟩
      have hm1 := hm.below hB
      go_wp2_with fail
      refine (names_not H2.out hl2 _ hm1).mono ?_
      rintro e w2 ⟨rfl, hB2⟩
      go_wp2_with fail
      go_ret
      exact ⟨rfl, below2 hB hB2⟩
    | some b =>
      have H2 := Lib.hid hn2
      clear hn2
      go_enter Tryd.func22, Tryd.ntmps22
      go_wp2_with fail
      refine (names_not H.out hl _ hm).mono ?_
      rintro e w1 ⟨rfl, hB⟩
      have hm1 := hm.below hB
      go_wp2_with fail
      refine (names_is H2.out _ hm1).mono ?_
      rintro e w2 ⟨v, rfl, hT, hB2⟩
      go_wp2_with fail
      go_ret
      exact ⟨rfl, below2 hB hB2⟩
  | some a =>
    obtain ⟨hal, _⟩ := names_len hn
    cases hn2 : namesOf s with
    | none =>
      have hu : underOf d s = false := by simp [underOf, hn, hn2]
      rw [hu]
      have H := Lib.hid hn
      have H2 := Lib.hid hn2
      clear hn hn2 hu
      go_enter Tryd.func22, Tryd.ntmps22
      go_wp2_with fail
      refine (names_is H.out _ hm).mono ?_
      rintro e w1 ⟨v, rfl, hT, hB⟩
      obtain ⟨ao, cap, rfl, hcap, _⟩ := hT
      have hm1 := hm.below hB
      go_wp2_with fail
      refine (names_not H2.out hl2 _ hm1).mono ?_
      rintro e w2 ⟨rfl, hB2⟩
      go_wp2_with fail
      go_ret
      exact ⟨rfl, below2 hB hB2⟩
    | some b =>
      obtain ⟨hbl, _⟩ := names_len hn2
      have hu := under_some hn hn2
      rw [hu]
      have H := Lib.hid hn
      have H2 := Lib.hid hn2
      clear hn hn2 hu
      by_cases hle : a.length ≤ b.length
      · have HP := Lib.hid (prefix_take a b)
        go_enter Tryd.func22, Tryd.ntmps22
        go_wp2_with fail
        refine (names_is H.out _ hm).mono ?_
        rintro e w1 ⟨v, rfl, hT, hB⟩
        have HT := Lib.hid hT
        obtain ⟨ao, cap, rfl, hcap, _⟩ := hT
        have hm1 := hm.below hB
        go_wp2_with fail
        refine (names_is H2.out _ hm1).mono ?_
        rintro e w2 ⟨v2, rfl, hT2, hB2⟩
        have HT2 := Lib.hid hT2
        obtain ⟨ao2, cap2, rfl, hcap2, hc2⟩ := hT2
        clear hc2
        go_wp2_with fail
        refine (equal_calls _ _ a (b.take a.length) _ (HT.out.below hB2) (HT2.out.take a.length hle) (by omega) (by simp; omega)).mono ?_
        rintro e w3 ⟨rfl, hB3⟩
        rw [HP.out]
        go_wp2_with fail
        go_ret
        exact ⟨rfl, below3 hB hB2 hB3⟩
      · have hlt : b.length < a.length := by omega
        have HP := Lib.hid (prefix_long a b hlt)
        clear hle
        go_enter Tryd.func22, Tryd.ntmps22
        go_wp2_with fail
        refine (names_is H.out _ hm).mono ?_
        rintro e w1 ⟨v, rfl, hT, hB⟩
        obtain ⟨ao, cap, rfl, hcap, _⟩ := hT
        have hm1 := hm.below hB
        go_wp2_with fail
        refine (names_is H2.out _ hm1).mono ?_
        rintro e w2 ⟨v2, rfl, hT2, hB2⟩
        obtain ⟨ao2, cap2, rfl, hcap2, _⟩ := hT2
        go_wp2_with fail
        go_ret
        exact ⟨by rw [HP.out]; rfl, below2 hB hB2⟩

end Go.Proofs.YtaoiiocgnnjnnaaDoor
