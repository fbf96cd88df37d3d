/-
  crc.fold, crc.Sum: the steps of a text's bytes, its sum.
-/
import Derived.Test.YtinbeapkhmcifaaDoorStep
namespace Go.Proofs.YtinbeapkhmcifaaDoor
open Go.RowKit
attribute [local go_sem] at_str

theorem sum_xor (s : List UInt8) : bits .xor .u32 ((foldN 4294967295 s : Nat) : Int) 4294967295 = ((sumN s : Nat) : Int) :=
  u32_xor_nat (foldN 4294967295 s) 4294967295 (fold_lt s (by omega)) (by omega)

/-- The method value 'r.step' of the box Bs. -/
abbrev stepV (Bs : Nat) : Value := .func (.func 34) #[.pointer (some ⟨Bs, 0, none⟩)] #[]

set_option maxHeartbeats 1000000 in
theorem fold_calls (Bs c : Nat) (hc : c < 4294967296) (s : List UInt8) (hm : s.length ≤ 4611686018427387904) (w : World) (hb : Boxed w Bs 56 (.int .u32 c)) (hT : TabOk w) :
    Calls Tryd.prog 33 #[.string ⟨s.toArray⟩, stepV Bs] w fun e w' => e = .returned (.tuple #[]) ∧ w.grownBy w' (some Bs) ∧ Boxed w' Bs 56 (.int .u32 (foldN c s : Nat)) := by
  go_enter Tryd.func33, Tryd.ntmps33
  go_wp2_with fail
  go_loopw [4, 7] (fun _ i wr => ∃ k : Nat, k ≤ s.length ∧ i = .int .i64 k ∧ w.grownBy wr (some Bs) ∧ Boxed wr Bs 56 (.int .u32 (foldN c (s.take k) : Nat))) (fun _ i _ => s.length - (intOf i).toNat)
  case atStart => exact ⟨0, Nat.zero_le _, rfl, grown_refl _ _, hb⟩
  case round =>
    obtain ⟨k, hk, rfl, hg, hbk⟩ := hrel
    by_cases hlt : k < s.length
    · have hTk := hT.grown hb hg
      have hl := fold_lt (s.take k) hc
      have hs := fold_snoc c (s.take k) s[k]
      rw [← List.take_succ_eq_append_getElem hlt] at hs
      have HS := Lib.hid hs
      clear hs
      go_wp2_with (go_at_call 34; refine (step_calls Bs _ hl s[k] _ hbk hTk).mono ?_; rintro e w' ⟨rfl, rfl⟩)
      go_roundw
      case rel => exact ⟨k + 1, by omega, by go_num, grown_trans hg (grownBy_setCell' _ _ _), by rw [HS.out]; exact hbk.set _⟩
      case measure => simp [intOf]; omega
    · obtain rfl : k = s.length := by omega
      rw [List.take_length] at hbk
      go_wp2_with fail
      go_end0
      exact ⟨rfl, hg, hbk⟩

set_option maxHeartbeats 1000000 in
theorem sum_calls (s : List UInt8) (hm : s.length ≤ 4611686018427387904) (w : World) (hT : TabOk w) :
    Calls Tryd.prog 25 #[.string ⟨s.toArray⟩] w fun e w' => e = .returned (.int .i64 (sumN s : Nat)) ∧ Below w.heap.size w w' := by
  have hb := Boxed.new w 56 (.int .u32 (4294967295 : Nat))
  have hT1 := hT.below (below_alloc w (.cells #[.int .u32 (4294967295 : Nat)] 56))
  have hl := sum_lt s
  have hx := sum_xor s
  go_enter Tryd.func25, Tryd.ntmps25
  go_wp2_with fail
  refine (fold_calls w.heap.size 4294967295 (by omega) s hm _ hb hT1).mono ?_
  rintro e w1 ⟨rfl, hg, hbf⟩
  have hcell := hbf.cell
  go_wp2_with fail
  go_ret
  exact ⟨rfl, below_box hg⟩

end Go.Proofs.YtinbeapkhmcifaaDoor
