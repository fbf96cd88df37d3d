/-
  The document's own names, Is.
-/
import Derived.Test.YtaoiiocgnnjnnaaDoorRParts
namespace Go.Proofs.YtaoiiocgnnjnnaaDoor
open Go.RowKit

theorem refNames_root (w : World) :
    Calls Tryd.prog 30 #[.string ⟨#[]⟩] w fun e w' => e = .returned (.tuple #[.slice none 0 0, .bool true]) ∧ w = w' := by
  go_enter Tryd.func30, Tryd.ntmps30
  go_wp2_with fail
  go_ret2
  exact ⟨rfl, rfl⟩

set_option maxHeartbeats 4000000 in
theorem refNames_some (s : List UInt8) (h : s.length ≤ 1000000) (h0 : s ≠ []) (hall : (cut s).all isNm = true) (w : World) :
    Calls Tryd.prog 30 #[.string ⟨s.toArray⟩] w fun e w' => ∃ v, e = .returned (.tuple #[v, .bool (decide ((s.length : Int) ≤ 100))]) ∧ Txts w' v (cut s) ∧ Below w.heap.size w w' := by
  have b0 : (s == []) = false := by simpa using h0
  have hcl := cut_len s
  have HA := Lib.hid hall
  clear hall h0
  go_enter Tryd.func30, Tryd.ntmps30
  go_wp2_with (go_at_call 35; refine (parts_calls s h _).mono ?_; rintro e w1 ⟨v, rfl, hown, hB⟩; have hT := Txts.own hown; have HT := Lib.hid hT; obtain ⟨ao, cap, rfl⟩ := hT.strs.form; clear hown hT)
  go_loop [5] (fun i => ∃ k : Nat, k ≤ (cut s).length ∧ i = .int .i64 k) (fun i => (cut s).length - (intOf i).toNat)
  case atStart => exact ⟨0, Nat.zero_le _, rfl⟩
  case round =>
    obtain ⟨k, hk, rfl⟩ := hrel
    by_cases hlt : k < (cut s).length
    · obtain ⟨b, off, rfl, hcell⟩ := HT.out.strs.at hlt
      have hpl := part_le hlt
      have hcl2 := cut_clean s _ (List.getElem_mem hlt)
      have hnm := List.all_eq_true.1 HA.out _ (List.getElem_mem hlt)
      generalize (cut s)[k] = p at hcell hpl hnm hcl2
      go_wp2_with (go_at_call 36; refine (name_calls p (by omega) hcl2 _).mono ?_; rintro e w1 ⟨rfl, rfl⟩; rw [hnm])
      go_round
      case rel => exact ⟨k + 1, by omega, by go_num⟩
      case measure => simp [intOf]; omega
    · obtain rfl : k = (cut s).length := by omega
      go_wp2_with fail
      go_ret2
      exact ⟨_, rfl, HT.out, hB⟩

set_option maxHeartbeats 4000000 in
theorem refNames_none (s : List UInt8) (h : s.length ≤ 1000000) (h0 : s ≠ []) (hall : (cut s).all isNm = false) (w : World) :
    Calls Tryd.prog 30 #[.string ⟨s.toArray⟩] w fun e w' => e = .returned (.tuple #[.slice none 0 0, .bool false]) ∧ Below w.heap.size w w' := by
  have b0 : (s == []) = false := by simpa using h0
  have hcl := cut_len s
  have HA := Lib.hid hall
  clear hall h0
  go_enter Tryd.func30, Tryd.ntmps30
  go_wp2_with (go_at_call 35; refine (parts_calls s h _).mono ?_; rintro e w1 ⟨v, rfl, hown, hB⟩; have hT := Txts.own hown; have HT := Lib.hid hT; obtain ⟨ao, cap, rfl⟩ := hT.strs.form; clear hown hT)
  go_loop [5] (fun i => ∃ k : Nat, k ≤ (cut s).length ∧ i = .int .i64 k ∧ nmTo (cut s) k) (fun i => (cut s).length - (intOf i).toNat)
  case atStart => exact ⟨0, Nat.zero_le _, rfl, by simp [nmTo]⟩
  case round =>
    obtain ⟨k, hk, rfl, hn⟩ := hrel
    by_cases hlt : k < (cut s).length
    · obtain ⟨b, off, rfl, hcell⟩ := HT.out.strs.at hlt
      have hpl := part_le hlt
      have hcl2 := cut_clean s _ (List.getElem_mem hlt)
      cases hnm : isNm (cut s)[k] with
      | true =>
        have hsucc := nmTo_succ hn hlt hnm
        generalize (cut s)[k] = p at hcell hpl hnm hcl2
        go_wp2_with (go_at_call 36; refine (name_calls p (by omega) hcl2 _).mono ?_; rintro e w1 ⟨rfl, rfl⟩; rw [hnm])
        go_round
        case rel => exact ⟨k + 1, by omega, by go_num, hsucc⟩
        case measure => simp [intOf]; omega
      | false =>
        generalize (cut s)[k] = p at hcell hpl hnm hcl2
        go_wp2_with (go_at_call 36; refine (name_calls p (by omega) hcl2 _).mono ?_; rintro e w1 ⟨rfl, rfl⟩; rw [hnm])
        go_ret2
        exact ⟨rfl, hB⟩
    · obtain rfl : k = (cut s).length := by omega
      exact absurd (nmTo_all hn) (by rw [HA.out]; simp)

theorem refNames_is {s : List UInt8} {l : List (List UInt8)} (h : namesOf s = some l) (w : World) :
    Calls Tryd.prog 30 #[.string ⟨s.toArray⟩] w fun e w' => ∃ v, e = .returned (.tuple #[v, .bool true]) ∧ Txts w' v l ∧ Below w.heap.size w w' := by
  unfold namesOf at h
  split at h
  · cases h
  · split at h
    · rename_i h1 h2
      subst h2
      cases h
      exact (refNames_root w).mono fun e w' ⟨he, hw⟩ => ⟨_, he, Txts.nil _, hw ▸ Below.refl _ _⟩
    · split at h
      · rename_i h1 h2 h3
        cases h
        refine (refNames_some s (by omega) h2 h3 w).mono fun e w' ⟨v, he, hT, hB⟩ => ⟨v, ?_, hT, hB⟩
        have : decide ((s.length : Int) ≤ 100) = true := by simp; omega
        rw [he, this]
      · cases h
theorem refNames_not {s : List UInt8} (h : namesOf s = none) (hl : s.length ≤ 1000000) (w : World) :
    Calls Tryd.prog 30 #[.string ⟨s.toArray⟩] w fun e w' => ∃ ao n cap, e = .returned (.tuple #[.slice ao n cap, .bool false]) ∧ Below w.heap.size w w' := by
  by_cases h0 : s = []
  · subst h0; cases h
  cases hall : (cut s).all isNm with
  | false => exact (refNames_none s hl h0 hall w).mono fun e w' ⟨he, hB⟩ => ⟨none, 0, 0, he, hB⟩
  | true =>
    have hlen : 100 < s.length := by
      unfold namesOf at h
      split at h
      · assumption
      · cases h
    refine (refNames_some s hl h0 hall w).mono fun e w' ⟨v, he, hT, hB⟩ => ?_
    obtain ⟨ao, cap, rfl⟩ := hT.strs.form
    have : decide ((s.length : Int) ≤ 100) = false := by simp; omega
    rw [this] at he
    exact ⟨ao, _, cap, he, hB⟩

theorem refIs_calls (s : List UInt8) (hl : s.length ≤ 1000000) (w : World) :
    Calls Tryd.prog 23 #[.string ⟨s.toArray⟩] w fun e w' => e = .returned (.bool (isP s)) ∧ Below w.heap.size w w' := by
  cases hn : namesOf s with
  | none =>
    rw [isP_none hn]
    have H := Lib.hid hn
    clear hn
    go_enter Tryd.func23, Tryd.ntmps23
    go_wp2_with (go_at_call 30; refine (refNames_not H.out hl _).mono ?_; rintro e w1 ⟨ao, n, cap, rfl, hB⟩)
    go_ret
    exact ⟨rfl, hB⟩
  | some l =>
    rw [isP_of hn]
    have H := Lib.hid hn
    clear hn
    go_enter Tryd.func23, Tryd.ntmps23
    go_wp2_with (go_at_call 30; refine (refNames_is H.out _).mono ?_; rintro e w1 ⟨v, rfl, _, hB⟩)
    go_ret
    exact ⟨rfl, hB⟩

end Go.Proofs.YtaoiiocgnnjnnaaDoor
