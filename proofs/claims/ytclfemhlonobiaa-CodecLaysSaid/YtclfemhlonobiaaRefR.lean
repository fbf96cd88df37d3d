/-
  The document's own Row: the same bytes, or the same refusal.
-/
import Derived.Test.YtclfemhlonobiaaRefN
import Derived.Test.YtclfemhlonobiaaAux
namespace Go.Proofs.Ytclfemhlonobiaa
open Go.RowKit
attribute [local go_sem] app_two

set_option maxHeartbeats 1000000 in
theorem refRow_long (w : World) (v : Value) (ls : List (List UInt8)) (hs : Strs w v ls) (h : 1000 < ls.length) (hm : ls.length ≤ 9223372036854775807) :
    Calls Try.prog 15 #[v] w fun e w' => e = .returned (.tuple #[.string ⟨#[]⟩, .int .i64 2]) ∧ w = w' := by
  obtain ⟨ao, cap, rfl⟩ := hs.form
  clear hs
  go_enter Try.func15, Try.ntmps15
  go_wp2_with fail
  go_ret2
  exact ⟨rfl, rfl⟩

set_option maxHeartbeats 2000000 in
theorem refRow_short (v : Value) (ls : List (List UInt8)) (w : World) (hs : Strs w v ls) (h : ls.length ≤ 1000) (hsz : ∀ s ∈ ls, s.length ≤ 9223372036854775807) :
    Calls Try.prog 15 #[v] w fun e w' => e = .returned (.tuple #[.string ⟨(rowOut ls).1.toArray⟩, .int .i64 (rowOut ls).2]) ∧ Below w.heap.size w w' := by
  obtain ⟨ao, cap, rfl⟩ := hs.form
  have HC := Lib.hid hs
  have HZ := Lib.hid hsz
  have hd : decide ((1000 : Int) < ls.length) = false := by simp; omega
  clear hs hsz
  go_enter Try.func15, Try.ntmps15
  go_wp2_with (go_at_call 11; refine (refNumber_ok ls.length (by omega) _).mono ?_; rintro e w1 ⟨rfl, hB1⟩)
  go_loopw [4, 6] (fun b i wr => ∃ k : Nat, k ≤ ls.length ∧ i = .int .i64 k ∧ b = .string ⟨(rowTo ls k).toArray⟩ ∧ Below w.heap.size w wr ∧ fineTo ls k) (fun _ i _ => ls.length - (intOf i).toNat)
  case atStart => exact ⟨0, Nat.zero_le _, rfl, by rw [rowTo_zero], hB1, fineTo_zero ls⟩
  case round =>
    obtain ⟨k, hk, rfl, rfl, hB, hf⟩ := hrel
    have hlen := rowTo_length ls k hf hk
    by_cases hlt : k < ls.length
    · obtain ⟨b, off, rfl, hcell⟩ := (HC.out.below hB).at hlt
      have hsm : ls[k].length ≤ 9223372036854775807 := HZ.out _ (List.getElem_mem hlt)
      generalize hs : ls[k] = s at hcell hsm
      have HS := Lib.hid hs
      clear hs
      by_cases h4 : s.length ≤ 4000
      · have hbt : (txtB s).length ≤ 4005 := by rw [txtB_length]; have := wid_le s.length; omega
        go_wp2_with (go_at_call 13; refine (refText_ok s (by omega) _).mono ?_; rintro e w2 ⟨rfl, hB2⟩)
        go_roundw
        case rel => exact ⟨k + 1, by omega, by go_num, by rw [rowTo_succ ls k hlt, HS.out], hB.trans (hB2.mono hB.size), fineTo_succ hf hlt (by rw [HS.out]; exact h4)⟩
        case measure => simp [intOf]; omega
      · have h5 : 4000 < s.length := by omega
        clear h4
        go_wp2_with (go_at_call 13; refine (refText_bad s h5 hsm _).mono ?_; rintro e w2 ⟨rfl, rfl⟩)
        go_ret2
        have hr := rowOut_far hlt (by rw [HS.out]; omega)
        exact ⟨by rw [hr]; rfl, hB⟩
    · obtain rfl : k = ls.length := by omega
      have hr := Lib.hid (rowOut_ok h hf)
      go_wp2_with fail
      go_ret2
      exact ⟨by rw [hr.out, rowTo_all]; rfl, hB⟩

end Go.Proofs.Ytclfemhlonobiaa
