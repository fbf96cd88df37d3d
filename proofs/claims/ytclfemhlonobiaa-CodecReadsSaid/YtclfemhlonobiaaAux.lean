/-
  The helpers of the laws: Short, far, Texts.
-/
import Derived.Test.YtclfemhlonobiaaRow
import Derived.Deep.QuietTactic
import Derived.BigQuiet
namespace Go.Proofs.Ytclfemhlonobiaa
open Go.RowKit

/-- No text has more than 300 bytes. -/
def shortB (ls : List (List UInt8)) : Bool := ls.all fun s => decide (s.length ≤ 300)
def farOne (s : List UInt8) : Bool := (decide (300 < s.length) && decide (s.length ≤ 4000)) || decide (4100 < s.length)
def farB (ls : List (List UInt8)) : Bool := if ls.length ≤ 60 then ls.any farOne else (decide (ls.length ≤ 1000) || decide (1100 < ls.length))

/-- The first k texts have at most 300 bytes. -/
def shortTo (ls : List (List UInt8)) (k : Nat) : Prop := (ls.take k).all (fun s => decide (s.length ≤ 300)) = true
theorem shortTo_succ {ls : List (List UInt8)} {k : Nat} (h : shortTo ls k) (hk : k < ls.length) (h3 : ls[k].length ≤ 300) : shortTo ls (k + 1) := by
  unfold shortTo at h ⊢
  rw [List.take_succ_eq_append_getElem hk, List.all_append, h]
  simp [h3]
theorem short_all {ls : List (List UInt8)} (h : shortTo ls ls.length) : shortB ls = true := by
  unfold shortTo at h; simpa [shortB] using h
theorem short_not {ls : List (List UInt8)} {k : Nat} (hk : k < ls.length) (h : 300 < ls[k].length) : shortB ls = false := by
  unfold shortB
  rw [List.all_eq_false]
  exact ⟨ls[k], List.getElem_mem hk, by simp; omega⟩
/-- Of the first k texts none is far. -/
def farTo (ls : List (List UInt8)) (k : Nat) : Prop := (ls.take k).any farOne = false
theorem farTo_succ {ls : List (List UInt8)} {k : Nat} (h : farTo ls k) (hk : k < ls.length) (h3 : farOne ls[k] = false) : farTo ls (k + 1) := by
  unfold farTo at h ⊢
  rw [List.take_succ_eq_append_getElem hk, List.any_append, h]
  simp [h3]
theorem far_none {ls : List (List UInt8)} (hl : ls.length ≤ 60) (h : farTo ls ls.length) : farB ls = false := by
  unfold farTo at h
  rw [List.take_length] at h
  rw [farB, if_pos hl, h]
theorem far_some {ls : List (List UInt8)} (hl : ls.length ≤ 60) {k : Nat} (hk : k < ls.length) (h : farOne ls[k] = true) : farB ls = true := by
  rw [farB, if_pos hl, List.any_eq_true]
  exact ⟨ls[k], List.getElem_mem hk, h⟩

/-- The k-th text, where there is one. -/
theorem Strs.at {w : World} {ao : Option Addr} {n cap : Nat} {ls : List (List UInt8)} (h : Strs w (.slice ao n cap) ls) {k : Nat} (hk : k < ls.length) : ∃ b off, ao = some ⟨b, off, none⟩ ∧ w.cell? ⟨b, off + k, none⟩ = some (.string ⟨ls[k].toArray⟩) := by
  obtain ⟨ao', cap', he, hc⟩ := h
  cases he
  rcases hc with h0 | ⟨b, off, rfl, hc⟩
  · subst h0; simp at hk
  · exact ⟨b, off, rfl, hc k hk⟩
theorem Strs.form {w : World} {v : Value} {ls : List (List UInt8)} (h : Strs w v ls) : ∃ ao cap, v = .slice ao ls.length cap := by
  obtain ⟨ao, cap, rfl, _⟩ := h
  exact ⟨ao, cap, rfl⟩

set_option maxHeartbeats 1000000 in
theorem short_calls (v : Value) (ls : List (List UInt8)) (w : World) (hs : Strs w v ls) (hm : ls.length ≤ 9223372036854775807) :
    Calls Try.prog 24 #[v] w fun e w' => e = .returned (.bool (shortB ls)) ∧ w = w' := by
  obtain ⟨ao, cap, rfl⟩ := hs.form
  have HC := Lib.hid hs
  clear hs
  go_enter Try.func24, Try.ntmps24
  go_wp2_with fail
  go_loop [3] (fun i => ∃ k : Nat, k ≤ ls.length ∧ i = .int .i64 k ∧ shortTo ls k) (fun i => ls.length - (intOf i).toNat)
  case atStart => exact ⟨0, Nat.zero_le _, rfl, by simp [shortTo]⟩
  case round =>
    obtain ⟨k, hk, rfl, hf⟩ := hrel
    by_cases hlt : k < ls.length
    · obtain ⟨b, off, rfl, hcell⟩ := HC.out.at hlt
      generalize hsk : ls[k] = s at hcell
      have HS := Lib.hid hsk
      clear hsk
      by_cases h3 : 300 < s.length
      · go_wp2_with fail
        go_ret
        exact ⟨by rw [short_not hlt (by rw [HS.out]; exact h3)]; rfl, rfl⟩
      · have h4 : s.length ≤ 300 := by omega
        clear h3
        go_wp2_with fail
        go_round
        case rel => exact ⟨k + 1, by omega, by go_num, shortTo_succ hf hlt (by rw [HS.out]; exact h4)⟩
        case measure => simp [intOf]; omega
    · obtain rfl : k = ls.length := by omega
      have hr := Lib.hid (short_all hf)
      go_wp2_with fail
      go_ret
      exact ⟨by rw [hr.out]; rfl, rfl⟩

theorem farOne_a {s : List UInt8} (h : s.length ≤ 300) : farOne s = false := by simp [farOne]; omega
theorem farOne_b {s : List UInt8} (h : 300 < s.length) (h2 : s.length ≤ 4000) : farOne s = true := by simp [farOne, h, h2]
theorem farOne_c {s : List UInt8} (h : 4000 < s.length) (h2 : s.length ≤ 4100) : farOne s = false := by simp [farOne]; omega
theorem farOne_d {s : List UInt8} (h : 4100 < s.length) : farOne s = true := by simp [farOne, h]

set_option maxHeartbeats 2000000 in
theorem far_few (v : Value) (ls : List (List UInt8)) (w : World) (hs : Strs w v ls) (hl : ls.length ≤ 60) :
    Calls Try.prog 8 #[v] w fun e w' => e = .returned (.bool (farB ls)) ∧ w = w' := by
  obtain ⟨ao, cap, rfl⟩ := hs.form
  have HC := Lib.hid hs
  clear hs
  go_enter Try.func8, Try.ntmps8
  go_wp2_with fail
  go_loop [3] (fun i => ∃ k : Nat, k ≤ ls.length ∧ i = .int .i64 k ∧ farTo ls k) (fun i => ls.length - (intOf i).toNat)
  case atStart => exact ⟨0, Nat.zero_le _, rfl, by simp [farTo]⟩
  case round =>
    obtain ⟨k, hk, rfl, hf⟩ := hrel
    by_cases hlt : k < ls.length
    · obtain ⟨b, off, rfl, hcell⟩ := HC.out.at hlt
      generalize hsk : ls[k] = s at hcell
      have HS := Lib.hid hsk
      clear hsk
      by_cases h3 : s.length ≤ 300
      · go_wp2_with fail
        go_round
        case rel => exact ⟨k + 1, by omega, by go_num, farTo_succ hf hlt (by rw [HS.out]; exact farOne_a h3)⟩
        case measure => simp [intOf]; omega
      · have h4 : 300 < s.length := by omega
        clear h3
        by_cases h5 : s.length ≤ 4000
        · go_wp2_with fail
          go_ret
          exact ⟨by rw [far_some hl hlt (by rw [HS.out]; exact farOne_b h4 h5)]; rfl, rfl⟩
        · have h6 : 4000 < s.length := by omega
          clear h5
          by_cases h7 : s.length ≤ 4100
          · go_wp2_with fail
            go_round
            case rel => exact ⟨k + 1, by omega, by go_num, farTo_succ hf hlt (by rw [HS.out]; exact farOne_c h6 h7)⟩
            case measure => simp [intOf]; omega
          · have h8 : 4100 < s.length := by omega
            clear h7
            go_wp2_with fail
            go_ret
            exact ⟨by rw [far_some hl hlt (by rw [HS.out]; exact farOne_d h8)]; rfl, rfl⟩
    · obtain rfl : k = ls.length := by omega
      have hr := Lib.hid (far_none hl hf)
      have hd : decide ((1100 : Int) < (ls.length : Int)) = false := by simp; omega
      go_wp2_with fail
      go_ret
      exact ⟨by rw [hr.out]; rfl, rfl⟩

set_option maxHeartbeats 2000000 in
theorem far_many (v : Value) (ls : List (List UInt8)) (w : World) (hs : Strs w v ls) (hl : 60 < ls.length) (hm : ls.length ≤ 9223372036854775807) :
    Calls Try.prog 8 #[v] w fun e w' => e = .returned (.bool (farB ls)) ∧ w = w' := by
  obtain ⟨ao, cap, rfl⟩ := hs.form
  clear hs
  have hfb := Lib.hid (show farB ls = (decide (ls.length ≤ 1000) || decide (1100 < ls.length)) by rw [farB, if_neg (by omega)])
  go_enter Try.func8, Try.ntmps8
  go_wp2_with fail
  go_loop [3] (fun i => i = .int .i64 0) (fun _ => 0)
  case atStart => rfl
  case round =>
    subst hrel
    by_cases h1 : ls.length ≤ 1000
    · have hr := Lib.hid (show farB ls = true by rw [hfb.out]; simp [h1])
      go_wp2_with fail
      go_ret
      exact ⟨by rw [hr.out]; rfl, rfl⟩
    · have h2 : 1000 < ls.length := by omega
      have hd2 : decide ((ls.length : Int) ≤ 1000) = false := by simp; omega
      clear h1
      by_cases h3 : 1100 < ls.length
      · have hr := Lib.hid (show farB ls = true by rw [hfb.out]; simp [h3])
        have hd : decide ((1100 : Int) < (ls.length : Int)) = true := by simp; omega
        go_wp2_with fail
        go_ret
        exact ⟨by rw [hr.out]; rfl, rfl⟩
      · have hr := Lib.hid (show farB ls = false by rw [hfb.out]; simp; omega)
        have h4 : ls.length ≤ 1100 := by omega
        have hd : decide ((1100 : Int) < (ls.length : Int)) = false := by simp; omega
        clear h3
        go_wp2_with fail
        go_ret
        exact ⟨by rw [hr.out]; rfl, rfl⟩

theorem far_calls (v : Value) (ls : List (List UInt8)) (w : World) (hs : Strs w v ls) (hm : ls.length ≤ 9223372036854775807) :
    Calls Try.prog 8 #[v] w fun e w' => e = .returned (.bool (farB ls)) ∧ w = w' := by
  by_cases hl : ls.length ≤ 60
  · exact far_few v ls w hs hl
  · exact far_many v ls w hs (by omega) hm

end Go.Proofs.Ytclfemhlonobiaa
