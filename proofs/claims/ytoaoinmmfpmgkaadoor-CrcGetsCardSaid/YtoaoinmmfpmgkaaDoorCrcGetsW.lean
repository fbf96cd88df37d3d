/-
  The walk of CrcGets.
-/
import Derived.Test.YtoaoinmmfpmgkaaDoorSummed
import Derived.Test.YtoaoinmmfpmgkaaDoorTexts
import Derived.Test.YtoaoinmmfpmgkaaDoorRefA
namespace Go.Proofs.YtoaoinmmfpmgkaaDoor
open Go.RowKit

/-- What Get answers. -/
def gotF (s : List UInt8) : List UInt8 × List UInt8 × Int := match getF s with | none => ([], [], 30) | some (t, r) => (t, r, 0)
theorem gotF_a (s : List UInt8) (hm : s.length ≤ 4611686018427387904) (w : World) (hT : TabOk w) :
    Calls Tryd.prog 15 #[.string ⟨s.toArray⟩] w fun e w' => e = .returned (.tuple #[.string ⟨(gotF s).1.toArray⟩, .string ⟨(gotF s).2.1.toArray⟩, .int .i64 (gotF s).2.2]) ∧ Below w.heap.size w w' := by
  cases h : getF s with
  | none => have e : gotF s = ([], [], 30) := by simp [gotF, h]
            rw [e]; exact get_none s hm h w hT
  | some p => obtain ⟨t, r⟩ := p
              have e : gotF s = (t, r, 0) := by simp [gotF, h]
              rw [e]; exact get_some s hm h w hT
theorem gotF_b (s : List UInt8) (hm : s.length ≤ 4611686018427387904) (w : World) :
    Calls Tryd.prog 16 #[.string ⟨s.toArray⟩] w fun e w' => e = .returned (.tuple #[.string ⟨(gotF s).1.toArray⟩, .string ⟨(gotF s).2.1.toArray⟩, .int .i64 (gotF s).2.2]) ∧ Below w.heap.size w w' := by
  cases h : getF s with
  | none => have e : gotF s = ([], [], 30) := by simp [gotF, h]
            rw [e]; exact refGet_none s hm h w
  | some p => obtain ⟨t, r⟩ := p
              have e : gotF s = (t, r, 0) := by simp [gotF, h]
              rw [e]; exact refGet_some s hm h w

set_option maxHeartbeats 1000000 in
theorem gets_long (s : List UInt8) (w : World) (hm : s.length ≤ 9223372036854775807) (hl : 400 < s.length) :
    Calls Tryd.prog 4 #[.string ⟨s.toArray⟩] w fun e w' => e = .returned (.bool true) ∧ w = w' := by
  go_enter Tryd.func4, Tryd.ntmps4
  go_wp2_with fail
  go_ret
  exact ⟨rfl, rfl⟩

set_option maxRecDepth 100000 in
set_option maxHeartbeats 4000000 in
theorem gets_in (s : List UInt8) (w : World) (hl : s.length ≤ 400) (hT : TabOk w) :
    Calls Tryd.prog 4 #[.string ⟨s.toArray⟩] w fun e w' => e = .returned (.bool true) ∧ Below w.heap.size w w' := by
  have CA := fun w hT => gotF_a s (by omega) w hT
  have CB := fun w => gotF_b s (by omega) w
  have CC := fun w hT => all_calls s (by omega) w hT
  have CD := fun w => refAll_calls s (by omega) w
  have hmany := allF_many s
  generalize (gotF s).1 = t at CA CB
  generalize (gotF s).2.1 = r at CA CB
  generalize (gotF s).2.2 = f at CA CB
  generalize (s.length : Int) - ((allF s).2.length : Int) = n at CC CD
  generalize (allF s).1 = ts at *
  have HA := Lib.hid CA
  have HB := Lib.hid CB
  have HC := Lib.hid CC
  have HD := Lib.hid CD
  clear CA CB CC CD
  have b1 : (t == t) = true := by simp
  have b2 : (r == r) = true := by simp
  go_enter Tryd.func4, Tryd.ntmps4
  go_wp2_with fail
  refine (HA.out _ hT).mono ?_
  rintro e w1 ⟨rfl, hB1⟩
  go_wp2_with fail
  refine (HB.out _).mono ?_
  rintro e w2 ⟨rfl, hB2⟩
  have hB02 := below2 hB1 hB2
  go_wp2_with fail
  refine (HC.out _ (hT.below hB02)).mono ?_
  rintro e w3 ⟨v3, rfl, hB3, ho3⟩
  have hs3 := strs_own ho3
  obtain ⟨a3, c3, rfl⟩ := hs3.form
  have H3 := Lib.hid hs3
  clear ho3 hs3
  go_wp2_with fail
  refine (HD.out _).mono ?_
  rintro e w4 ⟨v4, rfl, hB4, ho4⟩
  have hs4 := strs_own ho4
  obtain ⟨a4, c4, rfl⟩ := hs4.form
  have H4 := Lib.hid hs4
  have hB04 := below3 hB02 hB3 hB4
  clear ho4 hs4
  go_wp2_with fail
  refine (summed_calls _ (hT.below hB04)).mono ?_
  rintro e w5 ⟨rfl, hB5⟩
  go_wp2_with fail
  refine (texts_calls _ _ ts ts _ (H3.out.below (below2 hB4 hB5)) (H4.out.below hB5) (by omega)).mono ?_
  rintro e w6 ⟨rfl, hB6⟩
  go_wp2_with fail
  go_ret
  exact ⟨by simp, below3 hB04 hB5 hB6⟩

theorem gets_crc (s : List UInt8) (w : World) (hs : s.length ≤ reachBytes) (hT : TabOk w) :
    Calls Tryd.prog 4 #[.string ⟨s.toArray⟩] w fun e w' => e = .returned (.bool true) ∧ Below w.heap.size w w' := by
  unfold reachBytes at hs
  by_cases hl : 400 < s.length
  · exact (gets_long s w (by omega) hl).mono fun e w' ⟨he, hw⟩ => ⟨he, hw ▸ Below.refl _ _⟩
  · exact gets_in s w (by omega) hT

end Go.Proofs.YtoaoinmmfpmgkaaDoor
