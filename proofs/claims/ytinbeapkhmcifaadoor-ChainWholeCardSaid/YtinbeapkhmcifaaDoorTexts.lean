/-
  Texts: are two rows the same?
-/
import Derived.Test.YtinbeapkhmcifaaDoorBase
import Derived.Deep.QuietTactic
import Derived.BigQuiet
import Derived.WalkSmall
namespace Go.Proofs.YtinbeapkhmcifaaDoor
open Go.RowKit

/-- The first k texts are the same. -/
def sameTo (la lb : List (List UInt8)) (k : Nat) : Prop := la.take k = lb.take k
theorem sameTo_succ {la lb : List (List UInt8)} {k : Nat} (h : sameTo la lb k) (ha : k < la.length) (hb : k < lb.length) (he : la[k] = lb[k]) : sameTo la lb (k + 1) := by
  unfold sameTo at h ⊢
  rw [List.take_succ_eq_append_getElem ha, List.take_succ_eq_append_getElem hb, h, he]
theorem same_all {la lb : List (List UInt8)} (hl : la.length = lb.length) (h : sameTo la lb la.length) : decide (la = lb) = true := by
  unfold sameTo at h
  rw [List.take_length, hl, List.take_length] at h
  simp [h]
theorem same_not {la lb : List (List UInt8)} {k : Nat} (ha : k < la.length) (hb : k < lb.length) (he : la[k] ≠ lb[k]) : decide (la = lb) = false := by
  rw [decide_eq_false_iff_not]
  intro e
  subst e
  exact he rfl
theorem same_len {la lb : List (List UInt8)} (h : la.length ≠ lb.length) : decide (la = lb) = false := by
  rw [decide_eq_false_iff_not]
  intro e
  subst e
  exact h rfl

set_option maxHeartbeats 2000000 in
theorem texts_calls (va vb : Value) (la lb : List (List UInt8)) (w : World) (ha : Strs w va la) (hb : Strs w vb lb) (hm : la.length ≤ 9223372036854775807) :
    Calls Tryd.prog 16 #[va, vb] w fun e w' => e = .returned (.bool (decide (la = lb))) ∧ Below w.heap.size w w' := by
  obtain ⟨aa, ca, rfl⟩ := ha.form
  obtain ⟨ab, cb, rfl⟩ := hb.form
  have HA := Lib.hid ha
  have HB := Lib.hid hb
  clear ha hb
  by_cases hl : la.length = lb.length
  · have hne : ((la.length : Int) != (lb.length : Int)) = false := by simp [hl]
    have HL := Lib.hid hl
    have hle1 : la.length ≤ lb.length := by omega
    have hle2 : lb.length ≤ la.length := by omega
    clear hl
    go_enter Tryd.func16, Tryd.ntmps16
    go_wp2_with fail
    go_loopw [5] (fun i wr => ∃ k : Nat, k ≤ la.length ∧ i = .int .i64 k ∧ sameTo la lb k ∧ Below w.heap.size w wr) (fun i _ => la.length - (intOf i).toNat)
    case atStart => exact ⟨0, Nat.zero_le _, rfl, by simp [sameTo], Below.refl _ _⟩
    case round =>
      obtain ⟨k, hk, rfl, hf, hB⟩ := hrel
      by_cases hlt : k < la.length
      · have hlt2 : k < lb.length := by omega
        obtain ⟨b1, o1, rfl, hc1⟩ := (HA.out.below hB).at hlt
        obtain ⟨b2, o2, rfl, hc2⟩ := (HB.out.below hB).at hlt2
        generalize hs1 : la[k] = s1 at hc1
        generalize hs2 : lb[k] = s2 at hc2
        have HS1 := Lib.hid hs1
        have HS2 := Lib.hid hs2
        clear hs1 hs2
        by_cases hs : s1 = s2
        · have hsb : (s1 == s2) = true := by simp [hs]
          have HS := Lib.hid hs
          clear hs
          go_wp2_with fail
          go_quiet (fail)
          go_wp2_with fail
          go_roundw
          case rel => exact ⟨k + 1, by omega, by go_num, sameTo_succ hf hlt hlt2 (by rw [HS1.out, HS2.out]; exact HS.out), below_drewN hB _⟩
          case measure => simp [intOf]; omega
        · have hsb : (s1 == s2) = false := by simp [hs]
          have HS := Lib.hid hs
          clear hs
          go_wp2_with fail
          go_quiet (fail)
          go_wp2_with fail
          go_ret
          exact ⟨by rw [same_not hlt hlt2 (by rw [HS1.out, HS2.out]; exact HS.out)]; rfl, below_drewN hB _⟩
      · obtain rfl : k = la.length := by omega
        have hr := Lib.hid (same_all HL.out hf)
        go_wp2_with fail
        go_ret
        exact ⟨by rw [hr.out]; rfl, hB⟩
  · have hne : ((la.length : Int) != (lb.length : Int)) = true := by simp; omega
    have hr := Lib.hid (same_len hl)
    clear hl
    go_enter Tryd.func16, Tryd.ntmps16
    go_wp2_with fail
    go_ret
    exact ⟨by rw [hr.out]; rfl, Below.refl _ _⟩

end Go.Proofs.YtinbeapkhmcifaaDoor
