/-
  The document's own Cut.
-/
import Derived.Test.YtinbeapkhmcifaaDoorChCut
import Derived.Laws.Strings2
namespace Go.Proofs.YtinbeapkhmcifaaDoor
set_option maxRecDepth 100000
open Go.RowKit

/-- A piece of a text. -/
theorem ext_piece (s : List UInt8) (a b : Nat) : (ByteArray.mk s.toArray).extract a b = ⟨((s.drop a).take (b - a)).toArray⟩ := by
  apply ByteArray.ext
  apply Array.toList_inj.1
  rw [Lib.extract_data]

theorem run_piece (s : List UInt8) (a b : Nat) (i j : Int) (hi : i = a) (hj : j = b) (hab : a ≤ b) (hb : b ≤ s.length) (W : World) :
    (Instr.slice 9 (.string ⟨s.toArray⟩) (some (.int .i64 i)) (some (.int .i64 j)) none).run Tryd.prog W = .ok (.string ⟨((s.drop a).take (b - a)).toArray⟩) W := by
  subst hi
  subst hj
  have h := run_slice_string (P := Tryd.prog) W 9 ⟨s.toArray⟩ .i64 .i64 (a : Int) (b : Int) Tryd.underlying9 (by omega) (by omega) (by rw [size_mk]; omega)
  rw [h, Int.toNat_natCast, Int.toNat_natCast, ext_piece]

set_option maxHeartbeats 1000000 in
theorem rcut_calls (s : List UInt8) (n : Int) (hs : s.length ≤ 1000) (w : World) :
    Calls Tryd.prog 11 #[.string ⟨s.toArray⟩, .int .i64 n] w fun e w' => ∃ v, e = .returned (.tuple #[v, .int .i64 (cutE s n)]) ∧ OwnL w' w.heap.size v (cutL s n) ∧ Below w.heap.size w w' := by
  by_cases hn : 1 ≤ n ∧ n ≤ 4000
  · obtain ⟨m, rfl⟩ : ∃ m : Nat, n = m := ⟨n.toNat, by omega⟩
    have h3 : 1 ≤ m := by omega
    have h4 : m ≤ 4000 := by omega
    have hcc := cut_cases s (m : Int)
    have e0 : (m : Int).toNat = m := rfl
    have hends : (cutE s m = 2 ∧ cutL s m = [] ∧ 16 < cntN m s.length) ∨ (cutE s m = 0 ∧ cutL s m = chopN m s ∧ cntN m s.length ≤ 16) := by
      rcases hcc with ⟨_, _, h⟩ | ⟨h1, h2, _, _, h⟩ | ⟨h1, h2, _, _, h⟩
      · omega
      · exact .inl ⟨h1, h2, (cnt_lt h3).2 (by omega)⟩
      · exact .inr ⟨h1, h2, (cnt_le h3).2 (by omega)⟩
    have hcs : cntN m s.length ≤ s.length := (cnt_le h3).2 (Nat.le_mul_of_pos_right _ h3)
    generalize cutE s (m : Int) = E0 at *
    generalize cutL s (m : Int) = L0 at *
    have HE := Lib.hid hends
    clear hcc hends hn e0
    go_enter Tryd.func11, Tryd.ntmps11
    go_wp2_with fail
    go_loopw [6, 7] (fun v x wr => ∃ (k j : Nat), x = .int .i64 j ∧ Hid (j = k * m) ∧ j ≤ s.length + 4000 ∧ k ≤ cntN m s.length ∧ OwnL wr w.heap.size v (pcsN m s k) ∧ Below w.heap.size w wr) (fun _ x _ => s.length + 4000 - (intOf x).toNat)
    case atStart => exact ⟨0, 0, rfl, Lib.hid (by simp), by omega, Nat.zero_le _, ownL_nil _ _, Below.refl _ _⟩
    case round =>
      obtain ⟨k, j, rfl, hj, hjb, hk, hown, hB⟩ := hrel
      have hlp := pcs_len m s k
      by_cases hlt : j < s.length
      · have hkc : k < cntN m s.length := (cnt_lt h3).2 (by rw [← hj.out]; exact hlt)
        have hl6 : (pcsN m s k).length ≤ 1000000 := by omega
        have hsz := hB.size
        have hpc := Lib.hid (show pcsN m s (k + 1) = pcsN m s k ++ [(s.drop j).take m] by rw [pcs_snoc, ← hj.out])
        have hj1 := Lib.hid (show j + m = (k + 1) * m by rw [hj.out, Nat.succ_mul])
        by_cases hle : j + m ≤ s.length
        · have hx := run_piece s j (j + m) (j : Int) ((j : Int) + (m : Int)) rfl (by omega) (by omega) hle
          rw [Nat.add_sub_cancel_left] at hx
          go_wp2_with (at_builtin; refine app_text rfl _ _ rfl w.heap.size _ (pcsN m s k) rfl hown ((s.drop j).take m) rfl hl6 hsz ?_; intro v3 w3 ho3 hB3)
          go_roundw
          case rel => exact ⟨k + 1, j + m, by go_num, hj1, by omega, by omega, by rw [hpc.out]; exact ho3, hB3 _ hB⟩
          case measure => simp [intOf]; omega
        · have hle : s.length < j + m := by omega
          have hx := run_piece s j s.length (j : Int) (s.length : Int) rfl rfl (by omega) (Nat.le_refl _)
          have e1 : (s.drop j).take (s.length - j) = (s.drop j).take m := by
            rw [List.take_of_length_le (by rw [List.length_drop]; omega), List.take_of_length_le (by rw [List.length_drop]; omega)]
          rw [e1] at hx
          clear e1
          go_wp2_with (at_builtin; refine app_text rfl _ _ rfl w.heap.size _ (pcsN m s k) rfl hown ((s.drop j).take m) rfl hl6 hsz ?_; intro v3 w3 ho3 hB3)
          go_roundw
          case rel => exact ⟨k + 1, j + m, by go_num, hj1, by omega, by omega, by rw [hpc.out]; exact ho3, hB3 _ hB⟩
          case measure => simp [intOf]; omega
      · have hlt : s.length ≤ j := by omega
        have hkc : cntN m s.length ≤ k := (cnt_le h3).2 (by rw [← hj.out]; exact hlt)
        obtain rfl : k = cntN m s.length := by omega
        obtain ⟨ao, nn, cap, rfl⟩ := own_form hown
        have hnn : nn = cntN m s.length := by
          obtain ⟨ao', cap', he⟩ := (Rw.own hown).form
          rw [hlp] at he
          cases he
          rfl
        subst hnn
        rcases HE.out with ⟨rfl, rfl, h3'⟩ | ⟨rfl, rfl, h3'⟩
        · clear HE
          go_wp2_with fail
          go_ret2
          exact ⟨_, rfl, ownL_nil _ _, hB⟩
        · clear HE
          go_wp2_with fail
          go_ret2
          exact ⟨_, rfl, hown, hB⟩
  · rcases cut_cases s n with ⟨h1, h2, h3⟩ | ⟨_, _, h3, h4, _⟩ | ⟨_, _, h3, h4, _⟩
    · rw [h1, h2]
      clear h1 h2 hn
      by_cases h : n < 1
      · clear h3
        go_enter Tryd.func11, Tryd.ntmps11
        go_wp2_with fail
        go_ret2
        exact ⟨_, rfl, ownL_nil _ _, Below.refl _ _⟩
      · have h3 : 4000 < n := by omega
        have h : 1 ≤ n := by omega
        go_enter Tryd.func11, Tryd.ntmps11
        go_wp2_with fail
        go_ret2
        exact ⟨_, rfl, ownL_nil _ _, Below.refl _ _⟩
    · exact absurd ⟨h3, h4⟩ hn
    · exact absurd ⟨h3, h4⟩ hn

end Go.Proofs.YtinbeapkhmcifaaDoor
