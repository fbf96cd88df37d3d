/-
  chain.Cut.
-/
import Derived.Test.YtinbeapkhmcifaaDoorChApp
import Derived.Test.YtinbeapkhmcifaaDoorChSpec
namespace Go.Proofs.YtinbeapkhmcifaaDoor
set_option maxRecDepth 100000
open Go.RowKit
attribute [local go_sem] ext_take ext_drop

theorem pcs_le {n : Nat} {s : List UInt8} {k : Nat} (hn : 1 ≤ n) (h : k ≤ cntN n s.length) (hl : s.length ≤ 16 * n) : k ≤ 16 := Nat.le_trans h ((cnt_le hn).2 hl)
theorem take_min (n : Nat) (s : List UInt8) : s.take (min n s.length) = s.take n := by
  rcases Nat.le_total n s.length with h | h
  · rw [Nat.min_eq_left h]
  · rw [Nat.min_eq_right h, List.take_length, List.take_of_length_le h]
theorem drop_min (n : Nat) (s : List UInt8) : s.drop (min n s.length) = s.drop n := by
  rcases Nat.le_total n s.length with h | h
  · rw [Nat.min_eq_left h]
  · rw [Nat.min_eq_right h, List.drop_length, List.drop_of_length_le h]

set_option maxHeartbeats 1000000 in
theorem ccut_calls (s : List UInt8) (n : Int) (w : World) :
    Calls Tryd.prog 10 #[.string ⟨s.toArray⟩, .int .i64 n] w fun e w' => ∃ v, e = .returned (.tuple #[v, .int .i64 (cutE s n)]) ∧ OwnL w' w.heap.size v (cutL s n) ∧ Below w.heap.size w w' := by
  rcases cut_cases s n with ⟨h1, h2, h3⟩ | ⟨h1, h2, h3, h4, h5⟩ | ⟨h1, h2, h3, h4, h5⟩
  · rw [h1, h2]
    clear h1 h2
    by_cases h : n < 1
    · clear h3
      go_enter Tryd.func10, Tryd.ntmps10
      go_wp2_with fail
      go_ret2
      exact ⟨_, rfl, ownL_nil _ _, Below.refl _ _⟩
    · have h3 : 4000 < n := by omega
      have h : 1 ≤ n := by omega
      go_enter Tryd.func10, Tryd.ntmps10
      go_wp2_with fail
      go_ret2
      exact ⟨_, rfl, ownL_nil _ _, Below.refl _ _⟩
  · rw [h1, h2]
    clear h1 h2
    go_enter Tryd.func10, Tryd.ntmps10
    go_wp2_with fail
    go_ret2
    exact ⟨_, rfl, ownL_nil _ _, Below.refl _ _⟩
  · rw [h1, h2]
    obtain ⟨m, rfl⟩ : ∃ m : Nat, n = m := ⟨n.toNat, by omega⟩
    have h3 : 1 ≤ m := by omega
    have h4 : m ≤ 4000 := by omega
    have h5 : s.length ≤ 16 * m := by omega
    have e0 : (m : Int).toNat = m := rfl
    rw [e0]
    clear h1 h2 e0
    go_enter Tryd.func10, Tryd.ntmps10
    go_wp2_with fail
    go_loopw [0, 6] (fun x v wr => ∃ (k : Nat) (r : List UInt8), x = .string ⟨r.toArray⟩ ∧ Hid (r = s.drop (k * m)) ∧ k ≤ cntN m s.length ∧ OwnL wr w.heap.size v (pcsN m s k) ∧ Below w.heap.size w wr) (fun x _ _ => strLen x)
    case atStart => exact ⟨0, s, rfl, Lib.hid (by simp), Nat.zero_le _, ownL_nil _ _, Below.refl _ _⟩
    case round =>
      obtain ⟨k, r, rfl, hr, hk, hown, hB⟩ := hrel
      have hk16 := pcs_le h3 hk h5
      have hlen : r.length = s.length - k * m := by rw [hr.out, List.length_drop]
      have hlp := pcs_len m s k
      by_cases h0 : r = []
      · subst h0
        have hkc : cntN m s.length ≤ k := (cnt_le h3).2 (by simp at hlen; omega)
        have HK := Lib.hid (show k = cntN m s.length by omega)
        clear hlen hkc hlp
        go_wp2_with fail
        go_ret2
        exact ⟨_, rfl, by rw [chopN, ← HK.out]; exact hown, hB⟩
      · have hb : r.isEmpty = false := by simpa using h0
        have hpos : 0 < r.length := List.length_pos_iff.2 h0
        have hkc : k < cntN m s.length := (cnt_lt h3).2 (by omega)
        have hn : (pcsN m s k).length ≤ 1000000 := by omega
        have hsz := hB.size
        have hpc := Lib.hid (show pcsN m s (k + 1) = pcsN m s k ++ [r.take m] by rw [pcs_snoc, ← hr.out])
        have hdr := Lib.hid (show r.drop m = s.drop ((k + 1) * m) by rw [hr.out, List.drop_drop, Nat.succ_mul])
        clear hlen
        by_cases hle : m ≤ r.length
        · go_wp2_with (at_builtin; refine app_text rfl _ _ rfl w.heap.size _ (pcsN m s k) rfl hown (r.take m) rfl hn hsz ?_; intro v3 w3 ho3 hB3)
          go_roundw
          case rel => exact ⟨k + 1, r.drop m, rfl, hdr, by omega, by rw [hpc.out]; exact ho3, hB3 _ hB⟩
          case measure => simp [strLen, size_mk]; omega
        · have hle : r.length < m := by omega
          have e1 : r.take m = r := List.take_of_length_le (by omega)
          have e2 : r.drop m = [] := List.drop_of_length_le (by omega)
          rw [e1] at hpc
          rw [e2] at hdr
          clear e1 e2
          go_wp2_with (at_builtin; refine app_text rfl _ _ rfl w.heap.size _ (pcsN m s k) rfl hown r rfl hn hsz ?_; intro v3 w3 ho3 hB3)
          go_roundw
          case rel => exact ⟨k + 1, [], by simp; rfl, hdr, by omega, by rw [hpc.out]; exact ho3, hB3 _ hB⟩
          case measure => simp [strLen, size_mk]; omega

end Go.Proofs.YtinbeapkhmcifaaDoor
