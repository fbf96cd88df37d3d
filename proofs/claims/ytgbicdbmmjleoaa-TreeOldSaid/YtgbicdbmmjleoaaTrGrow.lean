/-
  slices.Grow of nil: rows of vertices, leaves.
-/
import Derived.Test.YtgbicdbmmjleoaaTrKeep
import Derived.Test.YtgbicdbmmjleoaaTrSlice
import Derived.Lib.AppendZeros
namespace Go.Proofs.Ytgbicdbmmjleoaa
open Go.RowKit

theorem infoV : (Try.prog.info? 53).map (fun i => (i.zero, i.size, i.bytes)) = some (some .nilIface, 1, 16) := by kernel_rfl

theorem zeroCells_len (z : Array Value) (n : Nat) : (Builtin.zeroCells z n).size = n * z.size := by simp [Builtin.zeroCells]
/-- append(nil, make([]E, n)...), cut to nothing. -/
theorem grow_nil (w : World) (t e : TypeId) (i : TypeInfo) (z : Value) (size bytes : Nat) (ht : Try.prog.underlying t = some (.slice e)) (hn : Try.prog.underlying 3 = some (.int .i64)) (hi : Try.prog.info? e = some i) (hz : i.zero = some z) (hsize : i.size = size) (hby : i.bytes = bytes) (hzs : z.cells.size = size) (hsz : 0 < size)
    (n : Nat) (h0 : 0 < n) (hm : n ≤ 1000000) (hb : bytes ≤ 1000) :
    ∃ cap w', (∀ ty, (Builtin.append_ #[t, 3] ty #[.slice none 0 0, .int .i64 (n : Int)]).run Try.prog w = .ok (.slice (some ⟨w.heap.size, 0, none⟩) n cap) w') ∧ n ≤ cap ∧ cap ≤ maxLen ∧ w'.ownsRow w.heap.size e size (.slice (some ⟨w.heap.size, 0, none⟩) 0 cap) 0 [] ∧ Below w.heap.size w w' := by
  have hnb : n * bytes ≤ 1000000 * 1000 := Nat.mul_le_mul hm hb
  have hr := fun ty => Lib.run_append_nil_zeros (P := Try.prog) w t 3 ty e i z .i64 .i64 ht hn hi hz n h0 (by omega) (by omega) (by rw [hby]; omega)
  have hg := grownCap_ge w n 0 e
  have hl := grownCap_le_maxLen w n 0 e (by unfold maxLen; omega)
  refine ⟨_, _, hr, hg, hl, World.ownsRow_made w.drew _ _ (Nat.le_refl _) hl ?_, below2 (drew_below _) (below_alloc _ _)⟩
  rw [Array.size_append, zeroCells_len, zeroCells_len, hzs, ← Nat.add_mul]
  congr 1
  omega

theorem int_under : Try.prog.underlying 3 = some (.int .i64) := by kernel_rfl

set_option maxHeartbeats 2000000 in
set_option maxRecDepth 100000 in
theorem growV_calls (n : Nat) (w : World) (hm : n ≤ 1000000) :
    Calls Try.prog 59 #[.slice none 0 0, .int .i64 n] w fun e w' => ∃ ao cap, e = .returned (.slice ao 0 cap) ∧ w'.ownsRow w.heap.size 53 1 (.slice ao 0 cap) 0 [] ∧ Below w.heap.size w w' := by
  obtain ⟨i0, hi, hz0, hz1, hz2⟩ := info_parts infoV
  by_cases h0 : n = 0
  · subst h0
    go_enter Try.func59, Try.ntmps59
    go_wp2_with fail
    go_ret
    exact ⟨none, 0, rfl, World.ownsRow_nil _ _ _ _, Below.refl _ _⟩
  · obtain ⟨cap, w1, hr, hc1, hc2, ho, hB⟩ := grow_nil w 68 53 i0 _ 1 16 Try.underlying68 int_under hi hz0 hz1 hz2 rfl (by decide) n (by omega) hm (by decide)
    have HO := Lib.hid ho
    have hp : (0 : Int) < (n : Int) := by omega
    unfold maxLen at hc2
    have hsl : ∀ W, (Instr.slice 68 (.slice (some ⟨w.heap.size, 0, none⟩) n cap) none (some (.int .i64 0)) none).run Try.prog W = .ok (.slice (some ⟨w.heap.size, 0, none⟩) 0 cap) W := fun W => by
      have := run_slice_h (P := Try.prog) W 68 (some ⟨w.heap.size, 0, none⟩) n cap row_slice .i64 0 (by omega) (by omega)
      simpa [row_elem, row_size, sliced, Result.andThen, Addr.add] using this
    clear ho
    go_enter Try.func59, Try.ntmps59
    go_wp2_with (at_builtin; refine Lib.wpList_append_run _ rfl _ _ _ _ rfl _ _ rfl rfl _ _ (hr _) ?_)
    go_ret
    exact ⟨_, cap, rfl, HO.out, hB⟩

set_option maxHeartbeats 2000000 in
set_option maxRecDepth 100000 in
theorem growL_calls (n : Nat) (w : World) (hm : n ≤ 1000000) :
    Calls Try.prog 63 #[.slice none 0 0, .int .i64 n] w fun e w' => ∃ ao cap, e = .returned (.slice ao 0 cap) ∧ w'.ownsRow w.heap.size 31 3 (.slice ao 0 cap) 0 [] ∧ Below w.heap.size w w' := by
  obtain ⟨i0, hi, hz0, hz1, hz2⟩ := info_parts infoP
  by_cases h0 : n = 0
  · subst h0
    go_enter Try.func63, Try.ntmps63
    go_wp2_with fail
    go_ret
    exact ⟨none, 0, rfl, World.ownsRow_nil _ _ _ _, Below.refl _ _⟩
  · obtain ⟨cap, w1, hr, hc1, hc2, ho, hB⟩ := grow_nil w 66 31 i0 _ 3 40 leaf_slice2 int_under hi hz0 hz1 hz2 rfl (by decide) n (by omega) hm (by decide)
    have HO := Lib.hid ho
    have hp : (0 : Int) < (n : Int) := by omega
    unfold maxLen at hc2
    have hsl : ∀ W, (Instr.slice 66 (.slice (some ⟨w.heap.size, 0, none⟩) n cap) none (some (.int .i64 0)) none).run Try.prog W = .ok (.slice (some ⟨w.heap.size, 0, none⟩) 0 cap) W := fun W => by
      have := run_slice_h (P := Try.prog) W 66 (some ⟨w.heap.size, 0, none⟩) n cap leaf_slice .i64 0 (by omega) (by omega)
      simpa [leaf_elem, pair_size, sliced, Result.andThen, Addr.add] using this
    clear ho
    go_enter Try.func63, Try.ntmps63
    go_wp2_with (at_builtin; refine Lib.wpList_append_run _ rfl _ _ _ _ rfl _ _ rfl rfl _ _ (hr _) ?_)
    go_ret
    exact ⟨_, cap, rfl, HO.out, hB⟩

end Go.Proofs.Ytgbicdbmmjleoaa
