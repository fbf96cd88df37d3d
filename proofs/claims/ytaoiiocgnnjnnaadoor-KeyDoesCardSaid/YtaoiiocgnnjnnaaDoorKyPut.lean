/-
  key.Put.
-/
import Derived.Test.YtaoiiocgnnjnnaaDoorKyIs
import Derived.Test.YtaoiiocgnnjnnaaDoorCell
import Derived.Laws.BytesArg
namespace Go.Proofs.YtaoiiocgnnjnnaaDoor
open Go.RowKit
attribute [local go_sem] app_mk

/-- 'string([]byte{0, x0, x1, x2, x3})'. -/
theorem conv_fiveK (W : World) (x0 x1 x2 x3 : Int) : (convert 43 9 (.slice (some ⟨W.heap.size, 0, none⟩) 5 5)).run Tryd.prog (W.alloc (.cells #[.int .u8 0, .int .u8 x0, .int .u8 x1, .int .u8 x2, .int .u8 x3] 5)) = .ok (.string ⟨[0, UInt8.ofNat x0.toNat, UInt8.ofNat x1.toNat, UInt8.ofNat x2.toNat, UInt8.ofNat x3.toNat].toArray⟩) (W.alloc (.cells #[.int .u8 0, .int .u8 x0, .int .u8 x1, .int .u8 x2, .int .u8 x3] 5)) := by
  have h := run_convert_bytes_arg (P := Tryd.prog) (W.alloc (.cells #[.int .u8 0, .int .u8 x0, .int .u8 x1, .int .u8 x2, .int .u8 x3] 5)) 43 5 Tryd.underlying43 Tryd.underlying5 W.heap.size 0 5 5 [0, x0, x1, x2, x3] rfl (fun i hi => by
    rcases (by omega : i = 0 ∨ i = 1 ∨ i = 2 ∨ i = 3 ∨ i = 4) with rfl | rfl | rfl | rfl | rfl <;> simp) 9 Tryd.underlying9
  rw [h]
  rfl
theorem keyT_four (p : List UInt8) (m : Nat) (n : Int) (h : 4294967295 - n = m) : keyT (p, n) = p ++ [0, UInt8.ofNat (m / 16777216), UInt8.ofNat (m / 65536 % 256), UInt8.ofNat (m / 256 % 256), UInt8.ofNat (m % 256)] := by
  unfold keyT
  rw [four_eq, h]
  rfl

set_option maxHeartbeats 1000000 in
theorem kPut_calls (p : List UInt8) (n : Int) (hl : p.length ≤ 4611686018427387904) (w : World) (hm : Ml w) :
    Calls Tryd.prog 9 #[.agg #[.string ⟨p.toArray⟩, .int .i64 n]] w fun e w' => e = .returned (.tuple #[.string ⟨(putT (p, n)).toArray⟩, .int .i64 (putE (p, n))]) ∧ Below w.heap.size w w' := by
  have hB0 := below_alloc w (.cells #[.string ⟨p.toArray⟩, .int .i64 n] 23)
  have hm0 := hm.below hB0
  cases hk : keyB (p, n) with
  | false =>
    have HE := Lib.hid hk
    have H1 := Lib.hid (show putT (p, n) = [] by simp [putT, hk])
    have H2 := Lib.hid (show putE (p, n) = 1 by simp [putE, hk])
    clear hk
    rw [H1.out, H2.out]
    go_enter Tryd.func9, Tryd.ntmps9
    go_wp2_with fail
    refine (kIs_calls p n (by omega) _ hm0).mono ?_
    rintro e w1 ⟨rfl, hB1⟩
    rw [HE.out]
    go_wp2_with fail
    go_ret2
    exact ⟨rfl, below2 hB0 hB1⟩
  | true =>
    have hf := keyB_facts hk
    dsimp only at hf
    obtain ⟨m, hmn⟩ : ∃ m : Nat, 4294967295 - n = m := ⟨(4294967295 - n).toNat, by omega⟩
    have hm1 : m ≤ 4294967295 := by omega
    have hm2 : 3294967295 ≤ m := by omega
    have HE := Lib.hid hk
    have H1 := Lib.hid (show putT (p, n) = keyT (p, n) by simp [putT, hk])
    have H2 := Lib.hid (show putE (p, n) = 0 by simp [putE, hk])
    rw [H1.out, H2.out]
    have H3 := Lib.hid (keyT_four p m n hmn)
    clear hk
    have kc := conv_fiveK
    go_enter Tryd.func9, Tryd.ntmps9
    go_wp2_with fail
    refine (kIs_calls p n (by omega) _ hm0).mono ?_
    rintro e w1 ⟨rfl, hB1⟩
    have hc0 := look_below hB1 (W := w.alloc _) (b := w.heap.size) (o := 0) (cell_of_row _ _ 0 _ _ _ (heap_alloc_new w _))
    have hc1 := look_below hB1 (W := w.alloc _) (b := w.heap.size) (o := 1) (cell_of_row _ _ 1 _ _ _ (heap_alloc_new w _))
    rw [HE.out]
    go_wp2_with fail

    go_ret2
    exact ⟨by rw [H3.out]; rfl, below2 (below2 hB0 hB1) (below_alloc _ _)⟩

end Go.Proofs.YtaoiiocgnnjnnaaDoor
