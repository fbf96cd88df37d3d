/-
  The document's own Number: the same bytes.
-/
import Derived.Test.YtijhbnkfkjfcfaaBase
import Derived.Test.YtijhbnkfkjfcfaaSpec
import Derived.Laws.BytesArg
namespace Go.Proofs.Ytijhbnkfkjfcfaa
open Go.RowKit

theorem app_two (a b : List UInt8) : ByteArray.mk a.toArray ++ ByteArray.mk b.toArray = ⟨(a ++ b).toArray⟩ := by
  apply ByteArray.ext
  simp
attribute [local go_sem] app_two

/-- 'string([]byte{x})'. -/
theorem conv_one (W : World) (x : Int) : (convert 55 9 (.slice (some ⟨W.heap.size, 0, none⟩) 1 1)).run Try.prog (W.alloc (.cells #[.int .u8 x] 5)) = .ok (.string ⟨[UInt8.ofNat x.toNat].toArray⟩) (W.alloc (.cells #[.int .u8 x] 5)) := by
  have h := run_convert_bytes_arg (P := Try.prog) (W.alloc (.cells #[.int .u8 x] 5)) 55 5 Try.underlying55 Try.underlying5 W.heap.size 0 1 1 [x] rfl (fun i hi => by
    obtain rfl : i = 0 := by omega
    simp) 9 Try.underlying9
  rw [h]
  rfl

theorem digsTo_step (n j : Nat) : digsTo n (j + 1) = UInt8.ofNat (n / 256 ^ j) :: digsTo n j := rfl
theorem div_pos_wid {n j : Nat} (hn : n ≤ 4294967295) (hj : j ≤ wid n) : 0 < n / 256 ^ j ↔ j < wid n := by
  have hw := wid_le n
  have hj4 : j ≤ 4 := by omega
  rcases (by omega : j = 0 ∨ j = 1 ∨ j = 2 ∨ j = 3 ∨ j = 4) with rfl | rfl | rfl | rfl | rfl <;> simp only [Nat.reducePow, Nat.div_one] <;> unfold wid at hj ⊢ <;> repeat (first | omega | split at hj | split)
theorem div_next (n j : Nat) : n / 256 ^ j / 256 = n / 256 ^ (j + 1) := by rw [Nat.div_div_eq_div_mul, ← Nat.pow_succ]
theorem byte_low (m : Nat) : UInt8.ofNat (m % 256) = UInt8.ofNat m := by
  apply UInt8.toNat_inj.1
  simp

set_option maxHeartbeats 1000000 in
theorem refNumber_ok (n : Nat) (h : n ≤ 4294967295) (w : World) :
    Calls Try.prog 22 #[.int .i64 n] w fun e w' => e = .returned (.tuple #[.string ⟨(numB n).toArray⟩, .int .i64 0]) ∧ Below w.heap.size w w' := by
  have hwl := wid_le n
  have kc := conv_one
  go_enter Try.func22, Try.ntmps22
  go_wp2_with fail
  go_loopw [0, 4, 5] (fun m o k wr => ∃ j : Nat, j ≤ wid n ∧ m = .int .i64 (n / 256 ^ j : Nat) ∧ o = .string ⟨(digsTo n j).toArray⟩ ∧ k = .int .i64 j ∧ Below w.heap.size w wr) (fun _ _ k _ => wid n - (intOf k).toNat)
  case atStart => exact ⟨0, Nat.zero_le _, by simp, rfl, rfl, Below.refl _ _⟩
  case round =>
    obtain ⟨j, hj, rfl, rfl, rfl, hB⟩ := hrel
    have hdp := div_pos_wid h hj
    have hdn := div_next n j
    have hdl : n / 256 ^ j ≤ 4294967295 := Nat.le_trans (Nat.div_le_self _ _) h
    have hst := digsTo_step n j
    have hlen := digsTo_length n j
    generalize hm : n / 256 ^ j = m at *
    have HDN := Lib.hid hdn
    have HST := Lib.hid hst
    have HLEN := Lib.hid hlen
    have hle : (digsTo n j).length ≤ 4 := by omega
    clear hdn hst hlen
    by_cases hlt : j < wid n
    · have hp : 0 < m := hdp.2 hlt
      clear hdp
      go_wp2_with fail
      go_roundw
      case rel => exact ⟨j + 1, by omega, by rw [← HDN.out]; rfl, by rw [HST.out, byte_low], by go_num, hB.alloc hB.size _⟩
      case measure => simp [intOf]; omega
    · have hp : ¬ 0 < m := fun h => hlt (hdp.1 h)
      obtain rfl : m = 0 := by omega
      obtain rfl : j = wid n := by omega
      clear hdp hp hm
      go_wp2_with fail
      go_ret2
      exact ⟨rfl, hB.alloc hB.size _⟩

set_option maxHeartbeats 1000000 in
theorem refNumber_bad (n : Int) (h : n < 0 ∨ 4294967295 < n) (w : World) :
    Calls Try.prog 22 #[.int .i64 n] w fun e w' => e = .returned (.tuple #[.string ⟨#[]⟩, .int .i64 1]) ∧ w = w' := by
  rcases h with h | h
  · go_enter Try.func22, Try.ntmps22
    go_wp2_with fail
    go_ret2
    exact ⟨rfl, rfl⟩
  · have h' : 0 ≤ n := by omega
    go_enter Try.func22, Try.ntmps22
    go_wp2_with fail
    go_ret2
    exact ⟨rfl, rfl⟩

end Go.Proofs.Ytijhbnkfkjfcfaa
