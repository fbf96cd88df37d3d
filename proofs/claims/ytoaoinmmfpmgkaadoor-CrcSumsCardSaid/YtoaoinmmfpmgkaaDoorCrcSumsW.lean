/-
  The walk of CrcSums.
-/
import Derived.Test.YtoaoinmmfpmgkaaDoorSummed
import Derived.Test.YtoaoinmmfpmgkaaDoorRefC
namespace Go.Proofs.YtoaoinmmfpmgkaaDoor
open Go.RowKit

/-- What Step answers. -/
def stepL (c : Int) (b : UInt8) : Int × Bool := if 0 ≤ c ∧ c ≤ 4294967295 then (((stepN c.toNat b : Nat) : Int), true) else (0, false)
/-- What Put answers. -/
def putL (s : List UInt8) : List UInt8 × Int := if s.length ≤ 4000 then (frameB s, 0) else ([], 2)
theorem stepL_a (c : Int) (b : UInt8) (w : World) (hT : TabOk w) : Calls Tryd.prog 8 #[.int .i64 c, .int .u8 b.toNat] w fun e w' => e = .returned (.tuple #[.int .i64 (stepL c b).1, .bool (stepL c b).2]) ∧ Below w.heap.size w w' := by
  by_cases h : 0 ≤ c ∧ c ≤ 4294967295
  · obtain ⟨n, rfl⟩ := Int.eq_ofNat_of_zero_le h.1
    have e : stepL n b = (((stepN n b : Nat) : Int), true) := by rw [stepL, if_pos h]; rfl
    rw [e]
    exact stepN_ok n (by omega) b w hT
  · have e : stepL c b = (0, false) := by rw [stepL, if_neg h]
    rw [e]
    exact (stepN_bad c (by omega) b w).mono fun e w' ⟨he, hw⟩ => ⟨he, hw ▸ Below.refl _ _⟩
theorem stepL_b (c : Int) (b : UInt8) (w : World) : Calls Tryd.prog 9 #[.int .i64 c, .int .u8 b.toNat] w fun e w' => e = .returned (.tuple #[.int .i64 (stepL c b).1, .bool (stepL c b).2]) ∧ Below w.heap.size w w' := by
  by_cases h : 0 ≤ c ∧ c ≤ 4294967295
  · obtain ⟨n, rfl⟩ := Int.eq_ofNat_of_zero_le h.1
    have e : stepL n b = (((stepN n b : Nat) : Int), true) := by rw [stepL, if_pos h]; rfl
    rw [e]
    exact refStep_ok n (by omega) b w
  · have e : stepL c b = (0, false) := by rw [stepL, if_neg h]
    rw [e]
    exact (refStep_bad c (by omega) b w).mono fun e w' ⟨he, hw⟩ => ⟨he, hw ▸ Below.refl _ _⟩
theorem putL_a (s : List UInt8) (hm : s.length ≤ 9223372036854775807) (w : World) (hT : TabOk w) : Calls Tryd.prog 10 #[.string ⟨s.toArray⟩] w fun e w' => e = .returned (.tuple #[.string ⟨(putL s).1.toArray⟩, .int .i64 (putL s).2]) ∧ Below w.heap.size w w' := by
  by_cases h : s.length ≤ 4000
  · have e : putL s = (frameB s, 0) := by rw [putL, if_pos h]
    rw [e]
    exact put_ok s h w hT
  · have e : putL s = ([], 2) := by rw [putL, if_neg h]
    rw [e]
    exact (put_bad s (by omega) hm w).mono fun e w' ⟨he, hw⟩ => ⟨he, hw ▸ Below.refl _ _⟩
theorem putL_b (s : List UInt8) (hm : s.length ≤ 9223372036854775807) (w : World) : Calls Tryd.prog 11 #[.string ⟨s.toArray⟩] w fun e w' => e = .returned (.tuple #[.string ⟨(putL s).1.toArray⟩, .int .i64 (putL s).2]) ∧ Below w.heap.size w w' := by
  by_cases h : s.length ≤ 4000
  · have e : putL s = (frameB s, 0) := by rw [putL, if_pos h]
    rw [e]
    exact refPut_ok s h w
  · have e : putL s = ([], 2) := by rw [putL, if_neg h]
    rw [e]
    exact (refPut_bad s (by omega) hm w).mono fun e w' ⟨he, hw⟩ => ⟨he, hw ▸ Below.refl _ _⟩

set_option maxHeartbeats 1000000 in
theorem sums_skip (s : List UInt8) (c : Int) (b : UInt8) (w : World) (hm : s.length ≤ 9223372036854775807) (hl : 400 < s.length ∧ s.length ≤ 4000 ∨ 4100 < s.length) :
    Calls Tryd.prog 3 #[.string ⟨s.toArray⟩, .int .i64 c, .int .u8 b.toNat] w fun e w' => e = .returned (.bool true) ∧ w = w' := by
  by_cases h1 : s.length ≤ 4000
  · have h2 : 400 < s.length := by omega
    have d1 : decide ((400 : Int) < (s.length : Int)) = true := by simp; omega
    have d2 : decide ((s.length : Int) ≤ 4000) = true := by simp; omega
    clear hl
    go_enter Tryd.func3, Tryd.ntmps3
    go_wp2_with fail
    go_ret
    exact ⟨rfl, rfl⟩
  · have h2 : 4100 < s.length := by omega
    have d1 : decide ((400 : Int) < (s.length : Int)) = true := by simp; omega
    have d2 : decide ((s.length : Int) ≤ 4000) = false := by simp; omega
    have d3 : decide ((4100 : Int) < (s.length : Int)) = true := by simp; omega
    clear hl h1
    go_enter Tryd.func3, Tryd.ntmps3
    go_wp2_with fail
    go_ret
    exact ⟨rfl, rfl⟩

set_option maxRecDepth 100000 in
set_option maxHeartbeats 4000000 in
theorem sums_short (s : List UInt8) (c : Int) (b : UInt8) (w : World) (hl : s.length ≤ 400) (hT : TabOk w) :
    Calls Tryd.prog 3 #[.string ⟨s.toArray⟩, .int .i64 c, .int .u8 b.toNat] w fun e w' => e = .returned (.bool true) ∧ Below w.heap.size w w' := by
  have CA := fun w hT => stepL_a c b w hT
  have CB := fun w => stepL_b c b w
  have CC := fun w hT => putL_a s (by omega) w hT
  have CD := fun w => putL_b s (by omega) w
  generalize (stepL c b).1 = x at CA CB
  generalize (stepL c b).2 = y at CA CB
  generalize (putL s).1 = t at CC CD
  generalize (putL s).2 = f at CC CD
  have HA := Lib.hid CA
  have HB := Lib.hid CB
  have HC := Lib.hid CC
  have HD := Lib.hid CD
  clear CA CB CC CD
  have b1 : (t == t) = true := by simp
  have d1 : decide ((400 : Int) < (s.length : Int)) = false := by simp; omega
  have d3 : decide ((4100 : Int) < (s.length : Int)) = false := by simp; omega
  have d4 : decide ((4000 : Int) < (s.length : Int)) = false := by simp; omega
  go_enter Tryd.func3, Tryd.ntmps3
  go_wp2_with fail
  refine (HA.out _ hT).mono ?_
  rintro e w1 ⟨rfl, hB1⟩
  go_wp2_with fail
  refine (HB.out _).mono ?_
  rintro e w2 ⟨rfl, hB2⟩
  have hB02 := below2 hB1 hB2
  go_wp2_with fail
  refine (HC.out _ (hT.below hB02)).mono ?_
  rintro e w3 ⟨rfl, hB3⟩
  go_wp2_with fail
  refine (HD.out _).mono ?_
  rintro e w4 ⟨rfl, hB4⟩
  have hB04 := below3 hB02 hB3 hB4
  go_wp2_with fail
  refine (summed_calls _ (hT.below hB04)).mono ?_
  rintro e w5 ⟨rfl, hB5⟩
  have hB05 := below2 hB04 hB5
  go_wp2_with fail
  refine (sum_calls s (by omega) _ (hT.below hB05)).mono ?_
  rintro e w6 ⟨rfl, hB6⟩
  go_wp2_with fail
  refine (refSum_calls s (by omega) _).mono ?_
  rintro e w7 ⟨rfl, hB7⟩
  go_wp2_with fail
  go_ret
  exact ⟨by simp, below3 hB05 hB6 hB7⟩

set_option maxRecDepth 100000 in
set_option maxHeartbeats 4000000 in
theorem sums_over (s : List UInt8) (c : Int) (b : UInt8) (w : World) (hl : 4000 < s.length) (hl2 : s.length ≤ 4100) (hT : TabOk w) :
    Calls Tryd.prog 3 #[.string ⟨s.toArray⟩, .int .i64 c, .int .u8 b.toNat] w fun e w' => e = .returned (.bool true) ∧ Below w.heap.size w w' := by
  have CA := fun w hT => stepL_a c b w hT
  have CB := fun w => stepL_b c b w
  have CC := fun w hT => putL_a s (by omega) w hT
  have CD := fun w => putL_b s (by omega) w
  generalize (stepL c b).1 = x at CA CB
  generalize (stepL c b).2 = y at CA CB
  generalize (putL s).1 = t at CC CD
  generalize (putL s).2 = f at CC CD
  have HA := Lib.hid CA
  have HB := Lib.hid CB
  have HC := Lib.hid CC
  have HD := Lib.hid CD
  clear CA CB CC CD
  have b1 : (t == t) = true := by simp
  have d1 : decide ((400 : Int) < (s.length : Int)) = true := by simp; omega
  have d2 : decide ((s.length : Int) ≤ 4000) = false := by simp; omega
  have d3 : decide ((4100 : Int) < (s.length : Int)) = false := by simp; omega
  have d4 : decide ((4000 : Int) < (s.length : Int)) = true := by simp; omega
  go_enter Tryd.func3, Tryd.ntmps3
  go_wp2_with fail
  refine (HA.out _ hT).mono ?_
  rintro e w1 ⟨rfl, hB1⟩
  go_wp2_with fail
  refine (HB.out _).mono ?_
  rintro e w2 ⟨rfl, hB2⟩
  have hB02 := below2 hB1 hB2
  go_wp2_with fail
  refine (HC.out _ (hT.below hB02)).mono ?_
  rintro e w3 ⟨rfl, hB3⟩
  go_wp2_with fail
  refine (HD.out _).mono ?_
  rintro e w4 ⟨rfl, hB4⟩
  have hB04 := below3 hB02 hB3 hB4
  go_wp2_with fail
  refine (summed_calls _ (hT.below hB04)).mono ?_
  rintro e w5 ⟨rfl, hB5⟩
  have hB05 := below2 hB04 hB5
  go_wp2_with fail
  go_ret
  exact ⟨by simp, hB05⟩

theorem sums_crc (s : List UInt8) (c : Int) (b : UInt8) (w : World) (hs : s.length ≤ reachBytes) (_ : (Lit.int .i64 c).wf = true) (hT : TabOk w) :
    Calls Tryd.prog 3 #[.string ⟨s.toArray⟩, .int .i64 c, .int .u8 b.toNat] w fun e w' => e = .returned (.bool true) ∧ Below w.heap.size w w' := by
  unfold reachBytes at hs
  by_cases hl : 400 < s.length ∧ s.length ≤ 4000 ∨ 4100 < s.length
  · exact (sums_skip s c b w (by omega) hl).mono fun e w' ⟨he, hw⟩ => ⟨he, hw ▸ Below.refl _ _⟩
  · by_cases h4 : s.length ≤ 400
    · exact sums_short s c b w h4 hT
    · exact sums_over s c b w (by omega) (by omega) hT

end Go.Proofs.YtoaoinmmfpmgkaaDoor
