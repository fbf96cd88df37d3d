/-
  The law files' far: is something more than is looked at?
-/
import Derived.Test.YtcikgmgkaenpmaaBig
import Derived.Test.YtcikgmgkaenpmaaKept
namespace Go.Proofs.Ytcikgmgkaenpmaa
open Go.RowKit

def farB (bs : List (List UInt8)) (ws : List Wr) (s : List UInt8) (n : Nat) : Bool := bigB bs ws || decide (400 < s.length) || decide (200 < n)

set_option maxRecDepth 100000 in
set_option maxHeartbeats 4000000 in
theorem far_calls (vb vw : Value) (ak : Option Addr) (n ck : Nat) (bs : List (List UInt8)) (ws : List Wr) (s : List UInt8) (w : World) (hb : Txts w vb bs) (hw : Wrs w vw ws) :
    Calls Try.prog 8 #[.agg #[vb, vw], .string ⟨s.toArray⟩, .slice ak n ck] w fun e w' => e = .returned (.bool (farB bs ws s n)) ∧ Below w.heap.size w w' := by
  obtain ⟨ab, cb, rfl⟩ := hb.strs.form
  obtain ⟨aw, cw, rfl⟩ := hw.form
  have hB0 := below_alloc w (.cells #[.slice ab bs.length cb, .slice aw ws.length cw] 25)
  have CB := big_calls _ _ bs ws _ (hb.below hB0) (hw.below hB0)
  clear hb hw
  unfold farB
  cases hB : bigB bs ws with
  | true =>
    rw [hB] at CB
    have K := Lib.hid CB
    clear CB hB
    go_enter Try.func8, Try.ntmps8
    go_wp2_with fail
    refine K.out.mono ?_
    rintro e w1 ⟨rfl, hB1⟩
    go_wp2_with fail
    go_ret
    exact ⟨by simp, below2 hB0 hB1⟩
  | false =>
    rw [hB] at CB
    have K := Lib.hid CB
    clear CB hB
    by_cases h1 : 400 < s.length
    · have d1 : decide ((400 : Int) < s.length) = true := by simp; omega
      go_enter Try.func8, Try.ntmps8
      go_wp2_with fail
      refine K.out.mono ?_
      rintro e w1 ⟨rfl, hB1⟩
      go_wp2_with fail
      go_ret
      exact ⟨by simp [h1], below2 hB0 hB1⟩
    · have d1 : decide ((400 : Int) < s.length) = false := by simp; omega
      by_cases h2 : 200 < n
      · have d2 : decide ((200 : Int) < n) = true := by simp; omega
        go_enter Try.func8, Try.ntmps8
        go_wp2_with fail
        refine K.out.mono ?_
        rintro e w1 ⟨rfl, hB1⟩
        go_wp2_with fail
        go_ret
        exact ⟨by simp [h2], below2 hB0 hB1⟩
      · have d2 : decide ((200 : Int) < n) = false := by simp; omega
        go_enter Try.func8, Try.ntmps8
        go_wp2_with fail
        refine K.out.mono ?_
        rintro e w1 ⟨rfl, hB1⟩
        go_wp2_with fail
        go_ret
        exact ⟨by simp [h1, h2], below2 hB0 hB1⟩
theorem far_not {bs : List (List UInt8)} {ws : List Wr} {s : List UInt8} {n : Nat} (h : farB bs ws s n = false) : bs.length ≤ 250 ∧ ws.length ≤ 150 ∧ s.length ≤ 400 ∧ n ≤ 200 := by
  simp only [farB, Bool.or_eq_false_iff, decide_eq_false_iff_not] at h
  obtain ⟨⟨h1, h2⟩, h3⟩ := h
  have := big_not h1
  omega

end Go.Proofs.Ytcikgmgkaenpmaa
