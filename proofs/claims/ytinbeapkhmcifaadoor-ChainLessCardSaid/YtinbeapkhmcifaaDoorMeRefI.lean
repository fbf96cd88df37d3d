/-
  The document's own Is of metas.
-/
import Derived.Test.YtinbeapkhmcifaaDoorMeIs
namespace Go.Proofs.YtinbeapkhmcifaaDoor
set_option maxRecDepth 100000
open Go.RowKit

set_option maxHeartbeats 2000000 in
theorem rIs_not (z d : Int) (v : Value) (cs : List Int) (w : World) (hv : Ints w v cs) (hl : cs.length ≤ 1000000) (h : z < 0 ∨ 1000000000 < z ∨ d < 0 ∨ 4095 < d ∨ 16 < cs.length) :
    Calls Tryd.prog 27 #[MV z d v] w fun e w' => e = .returned (.bool false) ∧ Below w.heap.size w w' := by
  obtain ⟨ao, cap, rfl⟩ := hv.form
  clear hv
  by_cases h1 : z < 0
  · clear h
    go_enter Tryd.func27, Tryd.ntmps27
    go_wp2_with fail
    go_ret
    exact ⟨rfl, below_alloc _ _⟩
  have g1 : 0 ≤ z := by omega
  by_cases h2 : 1000000000 < z
  · clear h
    go_enter Tryd.func27, Tryd.ntmps27
    go_wp2_with fail
    go_ret
    exact ⟨rfl, below_alloc _ _⟩
  have g2 : z ≤ 1000000000 := by omega
  by_cases h3 : d < 0
  · clear h
    go_enter Tryd.func27, Tryd.ntmps27
    go_wp2_with fail
    go_ret
    exact ⟨rfl, below_alloc _ _⟩
  have g3 : 0 ≤ d := by omega
  by_cases h4 : 4095 < d
  · clear h
    go_enter Tryd.func27, Tryd.ntmps27
    go_wp2_with fail
    go_ret
    exact ⟨rfl, below_alloc _ _⟩
  have g4 : d ≤ 4095 := by omega
  have h5 : decide ((16 : Int) < cs.length) = true := by rw [decide_eq_true_eq]; omega
  clear h
  go_enter Tryd.func27, Tryd.ntmps27
  go_wp2_with fail
  go_ret
  exact ⟨rfl, below_alloc _ _⟩

set_option maxHeartbeats 2000000 in
theorem rIs_loop (z d : Int) (v : Value) (cs : List Int) (w : World) (hv : Ints w v cs) (g1 : 0 ≤ z) (g2 : z ≤ 1000000000) (g3 : 0 ≤ d) (g4 : d ≤ 4095) (hl : cs.length ≤ 16) :
    Calls Tryd.prog 27 #[MV z d v] w fun e w' => e = .returned (.bool (cs.all fun c => upB c 4294967295)) ∧ Below w.heap.size w w' := by
  obtain ⟨ao, cap, rfl⟩ := hv.form
  have HV := Lib.hid (hv.below (below_alloc w (.cells #[.int .i64 z, .int .i64 d, .slice ao cs.length cap] 24)))
  have h5 : decide ((16 : Int) < cs.length) = false := by rw [decide_eq_false_iff_not]; omega
  clear hv
  go_enter Tryd.func27, Tryd.ntmps27
  go_wp2_with fail
  go_loop [3] (fun i => ∃ k : Nat, k ≤ cs.length ∧ i = .int .i64 k ∧ Hid ((cs.take k).all (fun c => upB c 4294967295) = true)) (fun i => cs.length - (intOf i).toNat)
  case atStart => exact ⟨0, Nat.zero_le _, rfl, Lib.hid (by simp)⟩
  case round =>
    obtain ⟨k, hk, rfl, hf⟩ := hrel
    by_cases hlt : k < cs.length
    · obtain ⟨b, off, rfl, hcell⟩ := HV.out.at hlt
      have hm := fun h => chs_more hf.out hlt h
      have hn := chs_not hlt
      generalize cs[k] = c at hcell hm hn
      by_cases c1 : c < 0
      · have HN := Lib.hid (hn (upB_not (.inl c1)))
        clear hm hn
        go_wp2_with fail
        go_ret
        exact ⟨by rw [HN.out]; rfl, below_alloc _ _⟩
      by_cases c2 : 4294967295 < c
      · have HN := Lib.hid (hn (upB_not (.inr c2)))
        have c3 : 0 ≤ c := by omega
        clear hm hn
        go_wp2_with fail
        go_ret
        exact ⟨by rw [HN.out]; rfl, below_alloc _ _⟩
      · have c3 : 0 ≤ c := by omega
        have c4 : c ≤ 4294967295 := by omega
        have HN := Lib.hid (hm (upB_iff.2 ⟨c3, c4⟩))
        clear hm hn
        go_wp2_with fail
        go_round
        case rel => exact ⟨k + 1, by omega, by go_num, HN⟩
        case measure => simp [intOf]; omega
    · obtain rfl : k = cs.length := by omega
      have hA := Lib.hid (by simpa using hf.out : cs.all (fun c => upB c 4294967295) = true)
      go_wp2_with fail
      go_ret
      exact ⟨by rw [hA.out]; rfl, below_alloc _ _⟩

theorem rIs_calls (z d : Int) (v : Value) (cs : List Int) (w : World) (hv : Ints w v cs) (hl : cs.length ≤ 1000000) :
    Calls Tryd.prog 27 #[MV z d v] w fun e w' => e = .returned (.bool (metaB z d cs)) ∧ Below w.heap.size w w' := by
  by_cases h : z < 0 ∨ 1000000000 < z ∨ d < 0 ∨ 4095 < d ∨ 16 < cs.length
  · have hr : metaB z d cs = false := by
      cases hq : metaB z d cs with
      | false => rfl
      | true => have := metaB_iff.1 hq; omega
    rw [hr]
    exact rIs_not z d v cs w hv hl h
  · have hr : metaB z d cs = cs.all fun c => upB c 4294967295 := by
      unfold metaB
      rw [decide_eq_true (by omega), upB_iff.2 (by omega), upB_iff.2 (by omega)]
      simp
    rw [hr]
    exact rIs_loop z d v cs w hv (by omega) (by omega) (by omega) (by omega) (by omega)

end Go.Proofs.YtinbeapkhmcifaaDoor
