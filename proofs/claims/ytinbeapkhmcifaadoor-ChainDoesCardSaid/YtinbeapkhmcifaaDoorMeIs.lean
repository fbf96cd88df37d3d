/-
  meta.upTo, meta.Is.
-/
import Derived.Test.YtinbeapkhmcifaaDoorMeSpec
import Derived.Test.YtinbeapkhmcifaaDoorInts
namespace Go.Proofs.YtinbeapkhmcifaaDoor
set_option maxRecDepth 100000
open Go.RowKit

/-- A meta as a value. -/
abbrev MV (z d : Int) (v : Value) : Value := .agg #[.int .i64 z, .int .i64 d, v]
theorem Ints.nil (w : World) : Ints w (.slice none 0 0) [] := Rw.nil w 1

set_option maxHeartbeats 1000000 in
theorem upTo_calls (n m : Int) (w : World) : Calls Tryd.prog 35 #[.int .i64 n, .int .i64 m] w fun e w' => e = .returned (.bool (upB n m)) ∧ w = w' := by
  unfold upB
  by_cases h : 0 ≤ n
  · go_enter Tryd.func35, Tryd.ntmps35
    go_wp2_with fail
    go_ret
    exact ⟨by simp [h], rfl⟩
  · have h' : n < 0 := by omega
    go_enter Tryd.func35, Tryd.ntmps35
    go_wp2_with fail
    go_ret
    exact ⟨by rw [decide_eq_false (by omega)]; rfl, rfl⟩

/-- The first k chunks may be. -/
theorem chs_more {cs : List Int} {k : Nat} (h : (cs.take k).all (fun c => upB c 4294967295) = true) (hk : k < cs.length) (hc : upB cs[k] 4294967295 = true) : (cs.take (k + 1)).all (fun c => upB c 4294967295) = true := by
  rw [List.take_succ_eq_append_getElem hk, List.all_append, h]
  simp [hc]
theorem chs_not {cs : List Int} {k : Nat} (hk : k < cs.length) (hc : upB cs[k] 4294967295 = false) : cs.all (fun c => upB c 4294967295) = false := by
  rw [List.all_eq_false]
  exact ⟨cs[k], List.getElem_mem hk, by simp [hc]⟩

set_option maxHeartbeats 2000000 in
theorem mIs_calls (z d : Int) (v : Value) (cs : List Int) (w : World) (hv : Ints w v cs) (hl : cs.length ≤ 1000000) :
    Calls Tryd.prog 26 #[MV z d v] w fun e w' => e = .returned (.bool (metaB z d cs)) ∧ Below w.heap.size w w' := by
  obtain ⟨ao, cap, rfl⟩ := hv.form
  have HV := Lib.hid (hv.below (below_alloc w (.cells #[.int .i64 z, .int .i64 d, .slice ao cs.length cap] 24)))
  clear hv
  by_cases h1 : 16 < cs.length
  · have hr : metaB z d cs = false := by unfold metaB; rw [decide_eq_false (by omega)]; rfl
    have HR := Lib.hid hr
    clear hr
    rw [HR.out]
    have hd : decide ((16 : Int) < cs.length) = true := by rw [decide_eq_true_eq]; omega
    go_enter Tryd.func26, Tryd.ntmps26
    go_wp2_with fail
    go_ret
    exact ⟨rfl, below_alloc _ _⟩
  have hd : decide ((16 : Int) < cs.length) = false := by rw [decide_eq_false_iff_not]; omega
  cases hz : upB z 1000000000 with
  | false =>
    have hr : metaB z d cs = false := by unfold metaB; rw [hz]; simp
    have HR := Lib.hid hr
    have HZ := Lib.hid hz
    clear hr hz h1
    rw [HR.out]
    go_enter Tryd.func26, Tryd.ntmps26
    go_wp2_with (go_at_call 35; with_reducible refine (upTo_calls z 1000000000 _).mono ?_; rintro e w1 ⟨rfl, rfl⟩; rw [HZ.out])
    go_ret
    exact ⟨rfl, below_alloc _ _⟩
  | true =>
  cases hm : upB d 4095 with
  | false =>
    have hr : metaB z d cs = false := by unfold metaB; rw [hz, hm]; simp
    have HR := Lib.hid hr
    have HZ := Lib.hid hz
    have HM := Lib.hid hm
    clear hr hz h1 hm
    rw [HR.out]
    go_enter Tryd.func26, Tryd.ntmps26
    go_wp2_with (first | (go_at_call 35; with_reducible refine (upTo_calls z 1000000000 _).mono ?_; rintro e w1 ⟨rfl, rfl⟩; rw [HZ.out]) | (go_at_call 35; with_reducible refine (upTo_calls d 4095 _).mono ?_; rintro e w1 ⟨rfl, rfl⟩; rw [HM.out]))
    go_ret
    exact ⟨rfl, below_alloc _ _⟩
  | true =>
    have hr : metaB z d cs = cs.all fun c => upB c 4294967295 := by unfold metaB; rw [hz, hm, decide_eq_true (by omega)]; simp
    have HR := Lib.hid hr
    have HZ := Lib.hid hz
    have HM := Lib.hid hm
    clear hr hz h1 hm
    rw [HR.out]
    go_enter Tryd.func26, Tryd.ntmps26
    go_wp2_with (first | (go_at_call 35; with_reducible refine (upTo_calls z 1000000000 _).mono ?_; rintro e w1 ⟨rfl, rfl⟩; rw [HZ.out]) | (go_at_call 35; with_reducible refine (upTo_calls d 4095 _).mono ?_; rintro e w1 ⟨rfl, rfl⟩; rw [HM.out]))
    go_loop [24] (fun i => ∃ k : Nat, k ≤ cs.length ∧ i = .int .i64 k ∧ Hid ((cs.take k).all (fun c => upB c 4294967295) = true)) (fun i => cs.length - (intOf i).toNat)
    case atStart => exact ⟨0, Nat.zero_le _, rfl, Lib.hid (by simp)⟩
    case round =>
      obtain ⟨k, hk, rfl, hf⟩ := hrel
      by_cases hlt : k < cs.length
      · obtain ⟨b, off, rfl, hcell⟩ := HV.out.at hlt
        have hm := fun h => chs_more hf.out hlt h
        have hn := chs_not hlt
        generalize cs[k] = c at hcell hm hn
        cases hc : upB c 4294967295 with
        | false =>
          have HN := Lib.hid (hn hc)
          have HC := Lib.hid hc
          clear hm hn hc
          go_wp2_with (go_at_call 35; with_reducible refine (upTo_calls c 4294967295 _).mono ?_; rintro e w1 ⟨rfl, rfl⟩; rw [HC.out])
          go_ret
          exact ⟨by rw [HN.out]; rfl, below_alloc _ _⟩
        | true =>
          have HN := Lib.hid (hm hc)
          have HC := Lib.hid hc
          clear hm hn hc
          go_wp2_with (go_at_call 35; with_reducible refine (upTo_calls c 4294967295 _).mono ?_; rintro e w1 ⟨rfl, rfl⟩; rw [HC.out])
          go_round
          case rel => exact ⟨k + 1, by omega, by go_num, HN⟩
          case measure => simp [intOf]; omega
      · obtain rfl : k = cs.length := by omega
        have hA := Lib.hid (by simpa using hf.out : cs.all (fun c => upB c 4294967295) = true)
        go_wp2_with fail
        go_ret
        exact ⟨by rw [hA.out]; rfl, below_alloc _ _⟩

end Go.Proofs.YtinbeapkhmcifaaDoor
