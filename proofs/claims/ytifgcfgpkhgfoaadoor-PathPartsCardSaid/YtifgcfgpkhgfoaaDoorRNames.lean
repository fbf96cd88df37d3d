/-
  The document's own names, Is, Parent, Base, Under, Depth.
-/
import Derived.Test.YtifgcfgpkhgfoaaDoorRParts
namespace Go.Proofs.YtifgcfgpkhgfoaaDoor
open Go.RowKit

theorem refNames_root (w : World) :
    Calls Tryd.prog 32 #[.string ⟨#[]⟩] w fun e w' => e = .returned (.tuple #[.slice none 0 0, .bool true]) ∧ w = w' := by
  go_enter Tryd.func32, Tryd.ntmps32
  go_wp2_with fail
  go_ret2
  exact ⟨rfl, rfl⟩

set_option maxHeartbeats 4000000 in
theorem refNames_some (s : List UInt8) (h : s.length ≤ 1000000) (h0 : s ≠ []) (hall : (cut s).all isNm = true) (w : World) :
    Calls Tryd.prog 32 #[.string ⟨s.toArray⟩] w fun e w' => ∃ v, e = .returned (.tuple #[v, .bool (decide ((s.length : Int) ≤ 100))]) ∧ Txts w' v (cut s) ∧ Below w.heap.size w w' := by
  have b0 : (s == []) = false := by simpa using h0
  have hcl := cut_len s
  have HA := Lib.hid hall
  clear hall h0
  go_enter Tryd.func32, Tryd.ntmps32
  go_wp2_with (go_at_call 28; refine (parts_calls s h _).mono ?_; rintro e w1 ⟨v, rfl, hown, hB⟩; have hT := Txts.own hown; have HT := Lib.hid hT; obtain ⟨ao, cap, rfl⟩ := hT.strs.form; clear hown hT)
  go_loop [5] (fun i => ∃ k : Nat, k ≤ (cut s).length ∧ i = .int .i64 k) (fun i => (cut s).length - (intOf i).toNat)
  case atStart => exact ⟨0, Nat.zero_le _, rfl⟩
  case round =>
    obtain ⟨k, hk, rfl⟩ := hrel
    by_cases hlt : k < (cut s).length
    · obtain ⟨b, off, rfl, hcell⟩ := HT.out.strs.at hlt
      have hpl := part_le hlt
      have hcl2 := cut_clean s _ (List.getElem_mem hlt)
      have hnm := List.all_eq_true.1 HA.out _ (List.getElem_mem hlt)
      generalize (cut s)[k] = p at hcell hpl hnm hcl2
      go_wp2_with (go_at_call 29; refine (name_calls p (by omega) hcl2 _).mono ?_; rintro e w1 ⟨rfl, rfl⟩; rw [hnm])
      go_round
      case rel => exact ⟨k + 1, by omega, by go_num⟩
      case measure => simp [intOf]; omega
    · obtain rfl : k = (cut s).length := by omega
      go_wp2_with fail
      go_ret2
      exact ⟨_, rfl, HT.out, hB⟩

set_option maxHeartbeats 4000000 in
theorem refNames_none (s : List UInt8) (h : s.length ≤ 1000000) (h0 : s ≠ []) (hall : (cut s).all isNm = false) (w : World) :
    Calls Tryd.prog 32 #[.string ⟨s.toArray⟩] w fun e w' => e = .returned (.tuple #[.slice none 0 0, .bool false]) ∧ Below w.heap.size w w' := by
  have b0 : (s == []) = false := by simpa using h0
  have hcl := cut_len s
  have HA := Lib.hid hall
  clear hall h0
  go_enter Tryd.func32, Tryd.ntmps32
  go_wp2_with (go_at_call 28; refine (parts_calls s h _).mono ?_; rintro e w1 ⟨v, rfl, hown, hB⟩; have hT := Txts.own hown; have HT := Lib.hid hT; obtain ⟨ao, cap, rfl⟩ := hT.strs.form; clear hown hT)
  go_loop [5] (fun i => ∃ k : Nat, k ≤ (cut s).length ∧ i = .int .i64 k ∧ nmTo (cut s) k) (fun i => (cut s).length - (intOf i).toNat)
  case atStart => exact ⟨0, Nat.zero_le _, rfl, by simp [nmTo]⟩
  case round =>
    obtain ⟨k, hk, rfl, hn⟩ := hrel
    by_cases hlt : k < (cut s).length
    · obtain ⟨b, off, rfl, hcell⟩ := HT.out.strs.at hlt
      have hpl := part_le hlt
      have hcl2 := cut_clean s _ (List.getElem_mem hlt)
      cases hnm : isNm (cut s)[k] with
      | true =>
        have hsucc := nmTo_succ hn hlt hnm
        generalize (cut s)[k] = p at hcell hpl hnm hcl2
        go_wp2_with (go_at_call 29; refine (name_calls p (by omega) hcl2 _).mono ?_; rintro e w1 ⟨rfl, rfl⟩; rw [hnm])
        go_round
        case rel => exact ⟨k + 1, by omega, by go_num, hsucc⟩
        case measure => simp [intOf]; omega
      | false =>
        generalize (cut s)[k] = p at hcell hpl hnm hcl2
        go_wp2_with (go_at_call 29; refine (name_calls p (by omega) hcl2 _).mono ?_; rintro e w1 ⟨rfl, rfl⟩; rw [hnm])
        go_ret2
        exact ⟨rfl, hB⟩
    · obtain rfl : k = (cut s).length := by omega
      exact absurd (nmTo_all hn) (by rw [HA.out]; simp)

theorem refNames_is {s : List UInt8} {l : List (List UInt8)} (h : namesOf s = some l) (w : World) :
    Calls Tryd.prog 32 #[.string ⟨s.toArray⟩] w fun e w' => ∃ v, e = .returned (.tuple #[v, .bool true]) ∧ Txts w' v l ∧ Below w.heap.size w w' := by
  unfold namesOf at h
  split at h
  · cases h
  · split at h
    · rename_i h1 h2
      subst h2
      cases h
      exact (refNames_root w).mono fun e w' ⟨he, hw⟩ => ⟨_, he, Txts.nil _, hw ▸ Below.refl _ _⟩
    · split at h
      · rename_i h1 h2 h3
        cases h
        refine (refNames_some s (by omega) h2 h3 w).mono fun e w' ⟨v, he, hT, hB⟩ => ⟨v, ?_, hT, hB⟩
        have : decide ((s.length : Int) ≤ 100) = true := by simp; omega
        rw [he, this]
      · cases h
theorem refNames_not {s : List UInt8} (h : namesOf s = none) (hl : s.length ≤ 1000000) (w : World) :
    Calls Tryd.prog 32 #[.string ⟨s.toArray⟩] w fun e w' => ∃ ao n cap, e = .returned (.tuple #[.slice ao n cap, .bool false]) ∧ Below w.heap.size w w' := by
  by_cases h0 : s = []
  · subst h0; cases h
  cases hall : (cut s).all isNm with
  | false => exact (refNames_none s hl h0 hall w).mono fun e w' ⟨he, hB⟩ => ⟨none, 0, 0, he, hB⟩
  | true =>
    have hlen : 100 < s.length := by
      unfold namesOf at h
      split at h
      · assumption
      · cases h
    refine (refNames_some s hl h0 hall w).mono fun e w' ⟨v, he, hT, hB⟩ => ?_
    obtain ⟨ao, cap, rfl⟩ := hT.strs.form
    have : decide ((s.length : Int) ≤ 100) = false := by simp; omega
    rw [this] at he
    exact ⟨ao, _, cap, he, hB⟩

theorem refIs_calls (s : List UInt8) (hl : s.length ≤ 1000000) (w : World) :
    Calls Tryd.prog 15 #[.string ⟨s.toArray⟩] w fun e w' => e = .returned (.bool (isP s)) ∧ Below w.heap.size w w' := by
  cases hn : namesOf s with
  | none =>
    rw [isP_none hn]
    have H := Lib.hid hn
    clear hn
    go_enter Tryd.func15, Tryd.ntmps15
    go_wp2_with (go_at_call 32; refine (refNames_not H.out hl _).mono ?_; rintro e w1 ⟨ao, n, cap, rfl, hB⟩)
    go_ret
    exact ⟨rfl, hB⟩
  | some l =>
    rw [isP_of hn]
    have H := Lib.hid hn
    clear hn
    go_enter Tryd.func15, Tryd.ntmps15
    go_wp2_with (go_at_call 32; refine (refNames_is H.out _).mono ?_; rintro e w1 ⟨v, rfl, _, hB⟩)
    go_ret
    exact ⟨rfl, hB⟩

theorem refDepth_calls (s : List UInt8) (hl : s.length ≤ 1000000) (w : World) :
    Calls Tryd.prog 22 #[.string ⟨s.toArray⟩] w fun e w' => e = .returned (.int .i64 (depthOf s)) ∧ Below w.heap.size w w' := by
  cases hn : namesOf s with
  | none =>
    have hd : depthOf s = -1 := by simp [depthOf, hn]
    rw [hd]
    have H := Lib.hid hn
    clear hn hd
    go_enter Tryd.func22, Tryd.ntmps22
    go_wp2_with (go_at_call 32; refine (refNames_not H.out hl _).mono ?_; rintro e w1 ⟨ao, n, cap, rfl, hB⟩)
    go_ret
    exact ⟨rfl, hB⟩
  | some l =>
    have hd : depthOf s = l.length := by simp [depthOf, hn]
    rw [hd]
    have H := Lib.hid hn
    clear hn hd
    go_enter Tryd.func22, Tryd.ntmps22
    go_wp2_with (go_at_call 32; refine (refNames_is H.out _).mono ?_; rintro e w1 ⟨v, rfl, hT, hB⟩; obtain ⟨ao, cap, rfl, _⟩ := hT)
    go_ret
    exact ⟨rfl, hB⟩

set_option maxHeartbeats 1000000 in
theorem refParent_some {s : List UInt8} {l : List (List UInt8)} (hn : namesOf s = some l) (h0 : l ≠ []) (w : World) :
    Calls Tryd.prog 18 #[.string ⟨s.toArray⟩] w fun e w' => e = .returned (.tuple #[.string ⟨(gl l.dropLast).toArray⟩, .bool true]) ∧ Below w.heap.size w w' := by
  have H := Lib.hid hn
  obtain ⟨hll, hsl⟩ := names_len hn
  have hpos := List.length_pos_iff.2 h0
  have hgl : (gl l.dropLast).length ≤ 1000000 := by
    have h1 := gl_le (mass_drop l) h0
    rw [(names_fine hn).2.1] at h1
    omega
  have H0 := Lib.hid h0
  clear hn h0
  have hb : ((l.length : Int) == 0) = false := by rw [beq_eq_false_iff_ne]; omega
  go_enter Tryd.func18, Tryd.ntmps18
  go_wp2_with (first | (go_at_call 32; refine (refNames_is H.out _).mono ?_; rintro e w1 ⟨v, rfl, hT, hB⟩; obtain ⟨b, off, cap, rfl, hcap, hcs⟩ := hT.some H0.out; clear hcs) | (go_at_call 30; refine (glue_calls _ l.dropLast _ (take_last l ▸ hT.take (l.length - 1) (by omega)) (by simp; omega) hgl).mono ?_; rintro e w2 ⟨rfl, rfl⟩))
  go_ret2
  exact ⟨rfl, hB⟩

/-- No path, or no names. -/
theorem refNoNames {s : List UInt8} (h : ∀ l, namesOf s = some l → l = []) (hl : s.length ≤ 1000000) (w : World) :
    Calls Tryd.prog 32 #[.string ⟨s.toArray⟩] w fun e w' => (∃ ao n cap, e = .returned (.tuple #[.slice ao n cap, .bool false]) ∧ Below w.heap.size w w') ∨ (∃ ao cap, e = .returned (.tuple #[.slice ao 0 cap, .bool true]) ∧ Below w.heap.size w w') := by
  cases hn : namesOf s with
  | none => exact (refNames_not hn hl w).mono fun e w' h => .inl h
  | some l =>
    have := h l hn
    subst this
    refine (refNames_is hn w).mono fun e w' ⟨v, he, hT, hB⟩ => ?_
    obtain ⟨ao, cap, rfl, _⟩ := hT
    exact .inr ⟨_, _, he, hB⟩

set_option maxHeartbeats 1000000 in
theorem refParent_none {s : List UInt8} (h : ∀ l, namesOf s = some l → l = []) (hl : s.length ≤ 1000000) (w : World) :
    Calls Tryd.prog 18 #[.string ⟨s.toArray⟩] w fun e w' => e = .returned (.tuple #[.string ⟨#[]⟩, .bool false]) ∧ Below w.heap.size w w' := by
  have H := Lib.hid h
  clear h
  go_enter Tryd.func18, Tryd.ntmps18
  go_wp2_with fail
  refine (refNoNames H.out hl _).mono ?_
  rintro e w1 (⟨ao, n, cap, rfl, hB⟩ | ⟨ao, cap, rfl, hB⟩)
  · go_wp2_with fail
    go_ret2
    exact ⟨rfl, hB⟩
  · go_wp2_with fail
    go_ret2
    exact ⟨rfl, hB⟩

set_option maxHeartbeats 1000000 in
theorem refBase_none {s : List UInt8} (h : ∀ l, namesOf s = some l → l = []) (hl : s.length ≤ 1000000) (w : World) :
    Calls Tryd.prog 20 #[.string ⟨s.toArray⟩] w fun e w' => e = .returned (.tuple #[.string ⟨#[]⟩, .bool false]) ∧ Below w.heap.size w w' := by
  have H := Lib.hid h
  clear h
  go_enter Tryd.func20, Tryd.ntmps20
  go_wp2_with fail
  refine (refNoNames H.out hl _).mono ?_
  rintro e w1 (⟨ao, n, cap, rfl, hB⟩ | ⟨ao, cap, rfl, hB⟩)
  · go_wp2_with fail
    go_ret2
    exact ⟨rfl, hB⟩
  · go_wp2_with fail
    go_ret2
    exact ⟨rfl, hB⟩

set_option maxHeartbeats 1000000 in
theorem refBase_some {s : List UInt8} {l : List (List UInt8)} (hn : namesOf s = some l) (h0 : l ≠ []) (w : World) :
    Calls Tryd.prog 20 #[.string ⟨s.toArray⟩] w fun e w' => e = .returned (.tuple #[.string ⟨(l.getLast h0).toArray⟩, .bool true]) ∧ Below w.heap.size w w' := by
  have H := Lib.hid hn
  obtain ⟨hll, hsl⟩ := names_len hn
  have hpos := List.length_pos_iff.2 h0
  obtain ⟨n, hn1⟩ : ∃ n, l.length = n + 1 := ⟨l.length - 1, by omega⟩
  have hlast : l[n]'(by omega) = l.getLast h0 := by
    rw [List.getLast_eq_getElem]
    congr 1; omega
  have H0 := Lib.hid h0
  have hx : ∃ x, l.getLast h0 = x := ⟨_, rfl⟩
  obtain ⟨x, hx⟩ := hx
  rw [hx] at hlast ⊢
  have HL := Lib.hid hlast
  have HN := Lib.hid hn1
  clear hn h0 hlast hx
  have hb : ((n : Int) + 1 == 0) = false := by rw [beq_eq_false_iff_ne]; omega
  go_enter Tryd.func20, Tryd.ntmps20
  go_wp2_with (go_at_call 32; refine (refNames_is H.out _).mono ?_; rintro e w1 ⟨v, rfl, hT, hB⟩; obtain ⟨b, off, cap, rfl, hcap, hcs⟩ := hT.some H0.out; have hc1 : w1.cell? ⟨b, off + n, none⟩ = some (.string ⟨x.toArray⟩) := (hcs n (by omega)).trans (by rw [HL.out]; rfl); clear hcs)
  go_ret2
  exact ⟨rfl, hB⟩

end Go.Proofs.YtifgcfgpkhgfoaaDoor
