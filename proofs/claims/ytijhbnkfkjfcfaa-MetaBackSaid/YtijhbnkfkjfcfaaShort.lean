/-
  Short: no text has more than 300 bytes.
-/
import Derived.Test.YtijhbnkfkjfcfaaBase
namespace Go.Proofs.Ytijhbnkfkjfcfaa
set_option maxRecDepth 100000
open Go.RowKit

/-- No text has more than 300 bytes. -/
def shortB (ls : List (List UInt8)) : Bool := ls.all fun s => decide (s.length ≤ 300)
/-- The first k texts have at most 300 bytes. -/
def shortTo (ls : List (List UInt8)) (k : Nat) : Prop := (ls.take k).all (fun s => decide (s.length ≤ 300)) = true
theorem shortTo_succ {ls : List (List UInt8)} {k : Nat} (h : shortTo ls k) (hk : k < ls.length) (h3 : ls[k].length ≤ 300) : shortTo ls (k + 1) := by
  unfold shortTo at h ⊢
  rw [List.take_succ_eq_append_getElem hk, List.all_append, h]
  simp [h3]
theorem short_all {ls : List (List UInt8)} (h : shortTo ls ls.length) : shortB ls = true := by
  unfold shortTo at h; simpa [shortB] using h
theorem short_not {ls : List (List UInt8)} {k : Nat} (hk : k < ls.length) (h : 300 < ls[k].length) : shortB ls = false := by
  unfold shortB
  rw [List.all_eq_false]
  exact ⟨ls[k], List.getElem_mem hk, by simp; omega⟩

set_option maxHeartbeats 1000000 in
theorem short_calls (v : Value) (ls : List (List UInt8)) (w : World) (hs : Strs w v ls) (hm : ls.length ≤ 9223372036854775807) :
    Calls Try.prog 7 #[v] w fun e w' => e = .returned (.bool (shortB ls)) ∧ w = w' := by
  obtain ⟨ao, cap, rfl⟩ := hs.form
  have HC := Lib.hid hs
  clear hs
  go_enter Try.func7, Try.ntmps7
  go_wp2_with fail
  go_loop [3] (fun i => ∃ k : Nat, k ≤ ls.length ∧ i = .int .i64 k ∧ shortTo ls k) (fun i => ls.length - (intOf i).toNat)
  case atStart => exact ⟨0, Nat.zero_le _, rfl, by simp [shortTo]⟩
  case round =>
    obtain ⟨k, hk, rfl, hf⟩ := hrel
    by_cases hlt : k < ls.length
    · obtain ⟨b, off, rfl, hcell⟩ := HC.out.at hlt
      generalize hsk : ls[k] = s at hcell
      have HS := Lib.hid hsk
      clear hsk
      by_cases h3 : 300 < s.length
      · go_wp2_with fail
        go_ret
        exact ⟨by rw [short_not hlt (by rw [HS.out]; exact h3)]; rfl, rfl⟩
      · have h4 : s.length ≤ 300 := by omega
        clear h3
        go_wp2_with fail
        go_round
        case rel => exact ⟨k + 1, by omega, by go_num, shortTo_succ hf hlt (by rw [HS.out]; exact h4)⟩
        case measure => simp [intOf]; omega
    · obtain rfl : k = ls.length := by omega
      have hr := Lib.hid (short_all hf)
      go_wp2_with fail
      go_ret
      exact ⟨by rw [hr.out]; rfl, rfl⟩
theorem strs_new (w : World) (ls : List (List UInt8)) (t : TypeId) : Strs (w.alloc (.cells (ls.map SV).toArray t)) (.slice (some ⟨w.heap.size, 0, none⟩) ls.length ls.length) ls := by
  refine ⟨_, _, rfl, .inr ⟨w.heap.size, 0, rfl, fun i hi => ?_⟩⟩
  rw [Nat.zero_add, World.cell?_alloc_new]
  simp [List.getElem?_eq_getElem hi, SV]

end Go.Proofs.Ytijhbnkfkjfcfaa
