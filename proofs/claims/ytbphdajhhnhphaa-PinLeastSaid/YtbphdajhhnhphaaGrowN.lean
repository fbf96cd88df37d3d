/-
  append(nil, make([]E, n)...), cut to nothing: slices.Grow of nil. No function is named here.
-/
import Derived.Test.YtbphdajhhnhphaaRw
import Derived.Lib.AppendZeros
namespace Go.Proofs.Ytbphdajhhnhphaa
set_option maxRecDepth 100000
open Go.RowKit

theorem zeroCells_len (z : Array Value) (n : Nat) : (Builtin.zeroCells z n).size = n * z.size := by simp [Builtin.zeroCells]
/-- append(nil, make([]E, n)...), cut to nothing. -/
theorem grow_nil (w : World) (t e : TypeId) (i : TypeInfo) (z : Value) (size bytes : Nat) (ht : Try.prog.underlying t = some (.slice e)) (hn : Try.prog.underlying 3 = some (.int .i64)) (hi : Try.prog.info? e = some i) (hz : i.zero = some z) (hsize : i.size = size) (hby : i.bytes = bytes) (hzs : z.cells.size = size) (hsz : 0 < size)
    (n : Nat) (h0 : 0 < n) (hm : n ≤ 1000000) (hb : bytes ≤ 1000) :
    ∃ cap w', (∀ ty, (Builtin.append_ #[t, 3] ty #[.slice none 0 0, .int .i64 (n : Int)]).run Try.prog w = .ok (.slice (some ⟨w.heap.size, 0, none⟩) n cap) w') ∧ n ≤ cap ∧ cap ≤ maxLen ∧ w'.ownsRow w.heap.size e size (.slice (some ⟨w.heap.size, 0, none⟩) 0 cap) 0 [] ∧ Below w.heap.size w w' := by
  have hnb : n * bytes ≤ 1000000 * 1000 := Nat.mul_le_mul hm hb
  have hr := fun ty => Lib.run_append_nil_zeros (P := Try.prog) w t 3 ty e i z .i64 .i64 ht hn hi hz n h0 (by omega) (by omega) (by rw [hby]; omega)
  have hg := grownCap_ge w n 0 e
  have hl := grownCap_le_maxLen w n 0 e (by unfold maxLen; omega)
  refine ⟨_, _, hr, hg, hl, World.ownsRow_made w.drew _ _ (Nat.le_refl _) hl ?_, below2 (drew_below _) (below_alloc _ _)⟩
  rw [Array.size_append, zeroCells_len, zeroCells_len, hzs, ← Nat.add_mul]
  congr 1
  omega

theorem int_under : Try.prog.underlying 3 = some (.int .i64) := by kernel_rfl

end Go.Proofs.Ytbphdajhhnhphaa
