/-
  meta.numbers: numbers' bytes, one behind the other.
-/
import Derived.Test.YtijhbnkfkjfcfaaMeSpec
import Derived.Test.YtijhbnkfkjfcfaaInts
import Derived.Test.YtijhbnkfkjfcfaaBuild
import Derived.Test.YtijhbnkfkjfcfaaNum
namespace Go.Proofs.Ytijhbnkfkjfcfaa
set_option maxRecDepth 100000
open Go.RowKit

set_option maxHeartbeats 2000000 in
theorem mNumbers_calls (v : Value) (cs : List Int) (w : World) (hv : Ints w v cs) (hl : cs.length ≤ 1000000) (hc : ∀ c ∈ cs, 0 ≤ c ∧ c ≤ 4294967295) :
    Calls Try.prog 21 #[v] w fun e w' => e = .returned (.string ⟨(numsB cs).toArray⟩) ∧ Below w.heap.size w w' := by
  obtain ⟨ao, cap, rfl⟩ := hv.form
  have HV := Lib.hid hv
  have HC := Lib.hid hc
  clear hv hc
  go_enter Try.func21, Try.ntmps21
  go_wp2_with fail
  go_loopw [10] (fun i wr => ∃ k : Nat, k ≤ cs.length ∧ i = .int .i64 k ∧ Hid (Lib.IsBuilder BT 5 w.heap.size w.heap.size (Lib.byteCells (numsB (cs.take k))) wr) ∧ Hid (Below w.heap.size w wr)) (fun i _ => cs.length - (intOf i).toNat)
  case atStart => exact ⟨0, Nat.zero_le _, rfl, Lib.hid (isBuilder_new w), Lib.hid (below_alloc _ _)⟩
  case round =>
    obtain ⟨k, hk, rfl, hI, hB⟩ := hrel
    have hlen := numsB_len (cs.take k)
    by_cases hlt : k < cs.length
    · obtain ⟨b, off, rfl, hcell⟩ := (HV.out.below hB.out).at hlt
      have hcc := HC.out _ (List.getElem_mem hlt)
      have HS := Lib.hid (nums_take hlt)
      generalize cs[k] = c at hcell hcc HS
      obtain ⟨m, rfl⟩ : ∃ m : Nat, c = (m : Int) := ⟨c.toNat, by omega⟩
      rw [Int.toNat_natCast] at HS
      have hn := numB_length m
      have hwid := wid_le m
      have hz := hB.out.size
      rw [List.length_take] at hlen
      have hm4 : m ≤ 4294967295 := by omega
      have hnl : (numsB (List.take k cs)).length + (numB m).length ≤ 140737488355328 := by omega
      have HN := Lib.hid hnl
      clear hlen hn hwid hnl hcc
      go_wp2_with fail
      refine (number_ok m hm4 _).mono ?_
      rintro e w1 ⟨rfl, hB1⟩
      have hI1 := isBuilder_below hI.out hB1
      have HI := Lib.hid hI1
      have HB := Lib.hid (below2 hB.out hB1)
      have hz1 := HB.out.size
      clear hI hB hI1
      go_wp2_with fail
      refine (writeString_calls w.heap.size w.heap.size _ (numB m) w1 HI.out HN.out hz1).mono ?_
      rintro e w2 ⟨rfl, hI2, hB2⟩
      go_wp2_with fail
      go_roundw
      case rel => exact ⟨k + 1, by omega, by go_num, Lib.hid (by rw [HS.out]; exact hI2), Lib.hid (HB.out.trans hB2)⟩
      case measure => simp [intOf]; omega
    · obtain rfl : k = cs.length := by omega
      rw [List.take_length] at hI
      have hz := hB.out.size
      go_wp2_with fail
      refine (builder_String w.heap.size w.heap.size (numsB cs) wr hI.out hz).mono ?_
      rintro e w1 ⟨rfl, hB1⟩
      go_wp2_with fail
      go_ret
      exact ⟨rfl, hB.out.trans hB1⟩

end Go.Proofs.Ytijhbnkfkjfcfaa
