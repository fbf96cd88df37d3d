/-
  path.Is, Parent, Base, Under, Depth.
-/
import Derived.Test.YtifgcfgpkhgfoaaDoorPName
namespace Go.Proofs.YtifgcfgpkhgfoaaDoor
open Go.RowKit

theorem is_calls (s : List UInt8) (hl : s.length ≤ 9223372036854775807) (w : World) (hm : Ml w) :
    Calls Tryd.prog 14 #[.string ⟨s.toArray⟩] w fun e w' => e = .returned (.bool (isP s)) ∧ Below w.heap.size w w' := by
  cases hn : namesOf s with
  | none =>
    rw [isP_none hn]
    have H := Lib.hid hn
    clear hn
    go_enter Tryd.func14, Tryd.ntmps14
    go_wp2_with (go_at_call 31; refine (names_not H.out hl _ hm).mono ?_; rintro e w1 ⟨rfl, hB⟩)
    go_ret
    exact ⟨rfl, hB⟩
  | some l =>
    rw [isP_of hn]
    have H := Lib.hid hn
    clear hn
    go_enter Tryd.func14, Tryd.ntmps14
    go_wp2_with (go_at_call 31; refine (names_is H.out _ hm).mono ?_; rintro e w1 ⟨v, rfl, _, hB⟩)
    go_ret
    exact ⟨rfl, hB⟩

theorem depth_calls (s : List UInt8) (hl : s.length ≤ 9223372036854775807) (w : World) (hm : Ml w) :
    Calls Tryd.prog 21 #[.string ⟨s.toArray⟩] w fun e w' => e = .returned (.int .i64 (depthOf s)) ∧ Below w.heap.size w w' := by
  cases hn : namesOf s with
  | none =>
    have hd : depthOf s = -1 := by simp [depthOf, hn]
    rw [hd]
    have H := Lib.hid hn
    clear hn hd
    go_enter Tryd.func21, Tryd.ntmps21
    go_wp2_with (go_at_call 31; refine (names_not H.out hl _ hm).mono ?_; rintro e w1 ⟨rfl, hB⟩)
    go_ret
    exact ⟨rfl, hB⟩
  | some l =>
    have hd : depthOf s = l.length := by simp [depthOf, hn]
    rw [hd]
    have H := Lib.hid hn
    clear hn hd
    go_enter Tryd.func21, Tryd.ntmps21
    go_wp2_with (go_at_call 31; refine (names_is H.out _ hm).mono ?_; rintro e w1 ⟨v, rfl, hT, hB⟩; obtain ⟨ao, cap, rfl, _⟩ := hT)
    go_ret
    exact ⟨rfl, hB⟩

/-- The slice is not empty: it has an address. -/
theorem Txts.some {w : World} {v : Value} {ls : List (List UInt8)} (h : Txts w v ls) (h0 : ls ≠ []) : ∃ b off cap, v = .slice (some ⟨b, off, none⟩) ls.length cap ∧ ls.length ≤ cap ∧ ∀ i (h : i < ls.length), w.cell? ⟨b, off + i, none⟩ = some (SV ls[i]) := by
  obtain ⟨ao, cap, rfl, hc, h⟩ := h
  obtain ⟨b, off, rfl, hcs⟩ := h.resolve_left h0
  exact ⟨b, off, cap, rfl, hc, hcs⟩

theorem take_last (l : List (List UInt8)) : l.take (l.length - 1) = l.dropLast := (List.dropLast_eq_take ..).symm

set_option maxHeartbeats 1000000 in
theorem parent_some {s : List UInt8} {l : List (List UInt8)} (hn : namesOf s = some l) (h0 : l ≠ []) (w : World) (hm : Ml w) :
    Calls Tryd.prog 17 #[.string ⟨s.toArray⟩] w fun e w' => e = .returned (.tuple #[.string ⟨(gl l.dropLast).toArray⟩, .bool true]) ∧ Below w.heap.size w w' := by
  have H := Lib.hid hn
  obtain ⟨hll, hsl⟩ := names_len hn
  have hpos := List.length_pos_iff.2 h0
  have hgl : (gl l.dropLast).length ≤ 1000000 := by
    have h1 := gl_le (mass_drop l) h0
    rw [(names_fine hn).2.1] at h1
    omega
  have H0 := Lib.hid h0
  clear hn h0
  have hb : ((l.length : Int) == 0) = false := by rw [beq_eq_false_iff_ne]; omega
  go_enter Tryd.func17, Tryd.ntmps17
  go_wp2_with (first | (go_at_call 31; refine (names_is H.out _ hm).mono ?_; rintro e w1 ⟨v, rfl, hT, hB⟩; obtain ⟨b, off, cap, rfl, hcap, hcs⟩ := hT.some H0.out; clear hcs) | (go_at_call 26; refine (join_calls _ l.dropLast _ (take_last l ▸ hT.take (l.length - 1) (by omega)) (by simp; omega) hgl).mono ?_; rintro e w2 ⟨rfl, hB2⟩))
  go_ret2
  exact ⟨rfl, below2 hB hB2⟩

/-- No names: the root, or no path. -/
theorem noNames {s : List UInt8} (h : ∀ l, namesOf s = some l → l = []) (hl : s.length ≤ 9223372036854775807) (w : World) (hm : Ml w) :
    Calls Tryd.prog 31 #[.string ⟨s.toArray⟩] w fun e w' => ∃ ao cap ok, e = .returned (.tuple #[.slice ao 0 cap, .bool ok]) ∧ Below w.heap.size w w' := by
  cases hn : namesOf s with
  | none => exact (names_not hn hl w hm).mono fun e w' ⟨he, hB⟩ => ⟨_, _, _, he, hB⟩
  | some l =>
    have := h l hn
    subst this
    refine (names_is hn w hm).mono fun e w' ⟨v, he, hT, hB⟩ => ?_
    obtain ⟨ao, cap, rfl, _⟩ := hT
    exact ⟨_, _, _, he, hB⟩

set_option maxHeartbeats 1000000 in
theorem parent_none {s : List UInt8} (h : ∀ l, namesOf s = some l → l = []) (hl : s.length ≤ 9223372036854775807) (w : World) (hm : Ml w) :
    Calls Tryd.prog 17 #[.string ⟨s.toArray⟩] w fun e w' => e = .returned (.tuple #[.string ⟨#[]⟩, .bool false]) ∧ Below w.heap.size w w' := by
  have H := Lib.hid h
  clear h
  go_enter Tryd.func17, Tryd.ntmps17
  go_wp2_with (go_at_call 31; refine (noNames H.out hl _ hm).mono ?_; rintro e w1 ⟨ao, cap, ok, rfl, hB⟩)
  go_ret2
  exact ⟨rfl, hB⟩

set_option maxHeartbeats 1000000 in
theorem base_none {s : List UInt8} (h : ∀ l, namesOf s = some l → l = []) (hl : s.length ≤ 9223372036854775807) (w : World) (hm : Ml w) :
    Calls Tryd.prog 19 #[.string ⟨s.toArray⟩] w fun e w' => e = .returned (.tuple #[.string ⟨#[]⟩, .bool false]) ∧ Below w.heap.size w w' := by
  have H := Lib.hid h
  clear h
  go_enter Tryd.func19, Tryd.ntmps19
  go_wp2_with (go_at_call 31; refine (noNames H.out hl _ hm).mono ?_; rintro e w1 ⟨ao, cap, ok, rfl, hB⟩)
  go_ret2
  exact ⟨rfl, hB⟩

set_option maxHeartbeats 1000000 in
theorem base_some {s : List UInt8} {l : List (List UInt8)} (hn : namesOf s = some l) (h0 : l ≠ []) (w : World) (hm : Ml w) :
    Calls Tryd.prog 19 #[.string ⟨s.toArray⟩] w fun e w' => e = .returned (.tuple #[.string ⟨(l.getLast h0).toArray⟩, .bool true]) ∧ Below w.heap.size w w' := by
  have H := Lib.hid hn
  obtain ⟨hll, hsl⟩ := names_len hn
  have hpos := List.length_pos_iff.2 h0
  obtain ⟨n, hn1⟩ : ∃ n, l.length = n + 1 := ⟨l.length - 1, by omega⟩
  have hlast : l[n]'(by omega) = l.getLast h0 := by
    rw [List.getLast_eq_getElem]
    congr 1; omega
  have H0 := Lib.hid h0
  have hx : ∃ x, l.getLast h0 = x := ⟨_, rfl⟩
  obtain ⟨x, hx⟩ := hx
  rw [hx] at hlast ⊢
  have HL := Lib.hid hlast
  have HN := Lib.hid hn1
  clear hn h0 hlast hx
  have hb : ((n : Int) + 1 == 0) = false := by rw [beq_eq_false_iff_ne]; omega
  go_enter Tryd.func19, Tryd.ntmps19
  go_wp2_with (go_at_call 31; refine (names_is H.out _ hm).mono ?_; rintro e w1 ⟨v, rfl, hT, hB⟩; obtain ⟨b, off, cap, rfl, hcap, hcs⟩ := hT.some H0.out; have hc1 : w1.cell? ⟨b, off + n, none⟩ = some (.string ⟨x.toArray⟩) := (hcs n (by omega)).trans (by rw [HL.out]; rfl); clear hcs)
  go_ret2
  exact ⟨rfl, hB⟩

theorem prefix_take (a b : List (List UInt8)) : decide (a = b.take a.length) = a.isPrefixOf b := by
  cases hp : a.isPrefixOf b with
  | true =>
    have := List.prefix_iff_eq_take.1 (List.isPrefixOf_iff_prefix.1 hp)
    simpa using this
  | false =>
    rw [decide_eq_false_iff_not]
    intro e
    have := List.isPrefixOf_iff_prefix.2 (List.prefix_iff_eq_take.2 e)
    rw [hp] at this; cases this
theorem prefix_long (a b : List (List UInt8)) (h : b.length < a.length) : a.isPrefixOf b = false := by
  rw [Bool.eq_false_iff]
  intro hp
  have := (List.isPrefixOf_iff_prefix.1 hp).length_le
  omega

set_option maxHeartbeats 2000000 in
theorem under_calls (d s : List UInt8) (hl : d.length ≤ 9223372036854775807) (hl2 : s.length ≤ 9223372036854775807) (w : World) (hm : Ml w) :
    Calls Tryd.prog 23 #[.string ⟨d.toArray⟩, .string ⟨s.toArray⟩] w fun e w' => e = .returned (.bool (underOf d s)) ∧ Below w.heap.size w w' := by
  cases hn : namesOf d with
  | none =>
    have hu : underOf d s = false := by simp [underOf, hn]
    rw [hu]
    have H := Lib.hid hn
    clear hn hu
    cases hn2 : namesOf s with
    | none =>
      have H2 := Lib.hid hn2
      clear hn2
      go_enter Tryd.func23, Tryd.ntmps23
      go_wp2_with fail
      refine (names_not H.out hl _ hm).mono ?_
      rintro e w1 ⟨rfl, hB⟩
      have hm1 := hm.below hB
      go_wp2_with fail
      refine (names_not H2.out hl2 _ hm1).mono ?_
      rintro e w2 ⟨rfl, hB2⟩
      go_wp2_with fail
      go_ret
      exact ⟨rfl, below2 hB hB2⟩
    | some b =>
      have H2 := Lib.hid hn2
      clear hn2
      go_enter Tryd.func23, Tryd.ntmps23
      go_wp2_with fail
      refine (names_not H.out hl _ hm).mono ?_
      rintro e w1 ⟨rfl, hB⟩
      have hm1 := hm.below hB
      go_wp2_with fail
      refine (names_is H2.out _ hm1).mono ?_
      rintro e w2 ⟨v, rfl, hT, hB2⟩
      go_wp2_with fail
      go_ret
      exact ⟨rfl, below2 hB hB2⟩
  | some a =>
    obtain ⟨hal, _⟩ := names_len hn
    cases hn2 : namesOf s with
    | none =>
      have hu : underOf d s = false := by simp [underOf, hn, hn2]
      rw [hu]
      have H := Lib.hid hn
      have H2 := Lib.hid hn2
      clear hn hn2 hu
      go_enter Tryd.func23, Tryd.ntmps23
      go_wp2_with fail
      refine (names_is H.out _ hm).mono ?_
      rintro e w1 ⟨v, rfl, hT, hB⟩
      obtain ⟨ao, cap, rfl, hcap, _⟩ := hT
      have hm1 := hm.below hB
      go_wp2_with fail
      refine (names_not H2.out hl2 _ hm1).mono ?_
      rintro e w2 ⟨rfl, hB2⟩
      go_wp2_with fail
      go_ret
      exact ⟨rfl, below2 hB hB2⟩
    | some b =>
      obtain ⟨hbl, _⟩ := names_len hn2
      have hu := under_some hn hn2
      rw [hu]
      have H := Lib.hid hn
      have H2 := Lib.hid hn2
      clear hn hn2 hu
      by_cases hle : a.length ≤ b.length
      · have HP := Lib.hid (prefix_take a b)
        go_enter Tryd.func23, Tryd.ntmps23
        go_wp2_with fail
        refine (names_is H.out _ hm).mono ?_
        rintro e w1 ⟨v, rfl, hT, hB⟩
        have HT := Lib.hid hT
        obtain ⟨ao, cap, rfl, hcap, _⟩ := hT
        have hm1 := hm.below hB
        go_wp2_with fail
        refine (names_is H2.out _ hm1).mono ?_
        rintro e w2 ⟨v2, rfl, hT2, hB2⟩
        have HT2 := Lib.hid hT2
        obtain ⟨ao2, cap2, rfl, hcap2, hc2⟩ := hT2
        clear hc2
        go_wp2_with fail
        refine (equal_calls _ _ a (b.take a.length) _ (HT.out.below hB2) (HT2.out.take a.length hle) (by omega) (by simp; omega)).mono ?_
        rintro e w3 ⟨rfl, hB3⟩
        rw [HP.out]
        go_wp2_with fail
        go_ret
        exact ⟨rfl, below3 hB hB2 hB3⟩
      · have hlt : b.length < a.length := by omega
        have HP := Lib.hid (prefix_long a b hlt)
        clear hle
        go_enter Tryd.func23, Tryd.ntmps23
        go_wp2_with fail
        refine (names_is H.out _ hm).mono ?_
        rintro e w1 ⟨v, rfl, hT, hB⟩
        obtain ⟨ao, cap, rfl, hcap, _⟩ := hT
        have hm1 := hm.below hB
        go_wp2_with fail
        refine (names_is H2.out _ hm1).mono ?_
        rintro e w2 ⟨v2, rfl, hT2, hB2⟩
        obtain ⟨ao2, cap2, rfl, hcap2, _⟩ := hT2
        go_wp2_with fail
        go_ret
        exact ⟨by rw [HP.out]; rfl, below2 hB hB2⟩

end Go.Proofs.YtifgcfgpkhgfoaaDoor
