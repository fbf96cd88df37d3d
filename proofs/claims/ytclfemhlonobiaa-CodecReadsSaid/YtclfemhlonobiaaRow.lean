/-
  codec.Row: the bytes of a row, or its refusal.
-/
import Derived.Test.YtclfemhlonobiaaLay
import Derived.Test.YtclfemhlonobiaaSpecRow
namespace Go.Proofs.Ytclfemhlonobiaa
open Go.RowKit

/-- The slice v reads as these texts. -/
def Strs (w : World) (v : Value) (ls : List (List UInt8)) : Prop :=
  ∃ ao cap, v = .slice ao ls.length cap ∧ (ls = [] ∨ ∃ b off, ao = some ⟨b, off, none⟩ ∧ ∀ i (h : i < ls.length), w.cell? ⟨b, off + i, none⟩ = some (.string ⟨ls[i].toArray⟩))

theorem Strs.below {w w' : World} {v : Value} {ls : List (List UInt8)} (h : Strs w v ls) (hb : Below w.heap.size w w') : Strs w' v ls := by
  obtain ⟨ao, cap, rfl, h | ⟨b, off, rfl, hc⟩⟩ := h
  · exact ⟨ao, cap, rfl, .inl h⟩
  · refine ⟨_, cap, rfl, .inr ⟨b, off, rfl, fun i hi => ?_⟩⟩
    have h1 := hc i hi
    exact (hb.cell (p := ⟨b, off + i, none⟩) (World.block_lt_of_cell? w _ h1)).trans h1

set_option maxHeartbeats 1000000 in
theorem row_long (w : World) (v : Value) (ls : List (List UInt8)) (hs : Strs w v ls) (h : 1000 < ls.length) (hm : ls.length ≤ 9223372036854775807) :
    Calls Try.prog 14 #[v] w fun e w' => e = .returned (.tuple #[.string ⟨#[]⟩, .int .i64 2]) ∧ w = w' := by
  obtain ⟨ao, cap, rfl, _⟩ := hs
  go_enter Try.func14, Try.ntmps14
  go_wp2_with fail
  go_ret2
  exact ⟨rfl, rfl⟩

set_option maxHeartbeats 2000000 in
theorem row_short (v : Value) (ls : List (List UInt8)) (w : World) (hs : Strs w v ls) (h : ls.length ≤ 1000) :
    Calls Try.prog 14 #[v] w fun e w' => e = .returned (.tuple #[.string ⟨(rowOut ls).1.toArray⟩, .int .i64 (rowOut ls).2]) ∧ Below w.heap.size w w' := by
  obtain ⟨ao, cap, rfl, hc⟩ := hs
  have HC := Lib.hid hc
  clear hc
  have hd : decide ((1000 : Int) < ls.length) = false := by simp; omega
  go_enter Try.func14, Try.ntmps14
  go_wp2_with (go_at_call 25; refine (addNumber_calls w.heap.size (.slice none 0 0) [] ls.length (by omega) _ (World.ownsRow_nil _ _ _ _) (Nat.le_refl _) (by simp)).mono ?_; rintro e w1 ⟨v1, rfl, hown1, hB1⟩)
  rw [List.nil_append] at hown1
  go_loopw [4, 15] (fun b i wr => ∃ k : Nat, k ≤ ls.length ∧ i = .int .i64 k ∧ Owns wr w.heap.size b (rowTo ls k) ∧ Below w.heap.size w wr ∧ fineTo ls k) (fun _ i _ => ls.length - (intOf i).toNat)
  case atStart => exact ⟨0, Nat.zero_le _, rfl, by rw [rowTo_zero]; exact hown1, hB1, fineTo_zero ls⟩
  case round =>
    obtain ⟨k, hk, rfl, hown, hB, hf⟩ := hrel
    have hlen := rowTo_length ls k hf hk
    by_cases hlt : k < ls.length
    · obtain ⟨b, off, rfl, hcell⟩ : ∃ b off, ao = some ⟨b, off, none⟩ ∧ wr.cell? ⟨b, off + k, none⟩ = some (.string ⟨ls[k].toArray⟩) := by
        rcases HC.out with h0 | ⟨b, off, rfl, hc⟩
        · rw [h0] at hlt; simp at hlt
        · have h1 := hc k hlt
          exact ⟨b, off, rfl, (hB.cell (p := ⟨b, off + k, none⟩) (World.block_lt_of_cell? w _ h1)).trans h1⟩
      generalize hs : ls[k] = s at hcell
      have HS := Lib.hid hs
      clear hs
      by_cases h4 : s.length ≤ 4000
      · go_wp2_with (go_at_call 26; refine (addText_calls w.heap.size _ _ s (by omega) _ hown hB.size (by omega)).mono ?_; rintro e w2 ⟨v2, rfl, hown2, hB2⟩)
        go_roundw
        case rel => exact ⟨k + 1, by omega, by go_num, by rw [rowTo_succ ls k hlt, HS.out]; exact hown2, hB.trans hB2, fineTo_succ hf hlt (by rw [HS.out]; exact h4)⟩
        case measure => simp [intOf]; omega
      · have h5 : 4000 < s.length := by omega
        clear h4
        go_wp2_with fail
        go_ret2
        have hr := rowOut_far hlt (by rw [HS.out]; omega)
        exact ⟨by rw [hr]; rfl, hB⟩
    · obtain rfl : k = ls.length := by omega
      have hconv := conv_owns hown (by rw [rowTo_all]; simp [rowB, numB])
      have hr := Lib.hid (rowOut_ok h hf)
      go_wp2_with fail
      go_ret2
      exact ⟨by rw [hr.out, rowTo_all]; rfl, hB⟩

end Go.Proofs.Ytclfemhlonobiaa
