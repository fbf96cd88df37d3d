/-
  pin: Is.
-/
import Derived.Test.YtbphdajhhnhphaaPnMore
import Derived.Test.YtbphdajhhnhphaaPns
import Derived.Test.YtbphdajhhnhphaaHeld
import Derived.Deep.RegionHeld3
namespace Go.Proofs.Ytbphdajhhnhphaa
set_option maxRecDepth 100000
open Go.RowKit

theorem isN_long {l : List Pn} (h : ¬ l.length ≤ 50) : isN l = false := by
  cases hn : isN l with
  | false => rfl
  | true => exact absurd (isN_iff.1 hn).1 h
/-- The session ahead of the k-th pin. -/
def AheadN (l : List Pn) (k : Nat) (c : Int) : Prop := -1 ≤ c ∧ (k = 0 → c = -1) ∧ ∀ j (hj : j < l.length), k = j + 1 → c = l[j].1
theorem aheadN_next {l : List Pn} {k : Nat} {s a : Int} (hk : k < l.length) (hx : l[k] = (s, a)) (hs : 0 ≤ s) : AheadN l (k + 1) s :=
  ⟨by omega, fun h => by omega, fun j hj e => by
    obtain rfl : j = k := by omega
    rw [hx]⟩
theorem aheadN_no {l : List Pn} {k : Nat} {s a c : Int} (hk : k < l.length) (hx : l[k] = (s, a)) (hc : AheadN l k c) (h : s ≤ c) : isN l = false := by
  cases k with
  | zero =>
    have := hc.2.1 rfl
    refine pin_not hk ?_
    rw [hx, ← Bool.not_eq_true, oneP_iff]
    intro h2
    dsimp only at h2
    omega
  | succ k =>
    have := hc.2.2 k (by omega) rfl
    refine pin_less (by omega) hk rfl ?_
    rw [hx, ← this]
    exact h
theorem aheadN_yes {l : List Pn} {k : Nat} {s a c : Int} (hk : k < l.length) (hx : l[k] = (s, a)) (hp : PinTo l k) (hc : AheadN l k c) (h : c < s) (h1 : s ≤ 1000000) (h2 : 0 ≤ a) (h3 : a ≤ 1000000000) : PinTo l (k + 1) := by
  have := hc.1
  refine pinTo_next hp hk ?_ fun j hj e => ?_
  · rw [hx]
    exact oneP_iff.2 ⟨by dsimp only; omega, h1, h2, h3⟩
  · have := hc.2.2 j hj e
    rw [hx, ← this]
    exact h
theorem aheadN_bad {l : List Pn} {k : Nat} {s a : Int} (hk : k < l.length) (hx : l[k] = (s, a)) (h : 1000000 < s ∨ a < 0 ∨ 1000000000 < a) : isN l = false := by
  refine pin_not hk ?_
  rw [hx, ← Bool.not_eq_true, oneP_iff]
  intro h2
  dsimp only at h2
  omega

set_option maxHeartbeats 8000000 in
theorem pnIs_calls (v : Value) (l : List Pn) (w : World) (h : Pns w v l) (hl : l.length ≤ 1000000) :
    Calls Try.prog 21 #[v] w fun e w' => e = .returned (.bool (isN l)) ∧ Below w.heap.size w w' := by
  obtain ⟨ao, cap, rfl⟩ := h.form
  have HH := Lib.hid h
  obtain ⟨R, hR⟩ : ∃ R, isN l = R := ⟨_, rfl⟩
  have HR := Lib.hid hR
  rw [hR]
  clear h hR
  by_cases h50 : l.length ≤ 50
  · have d0 : decide ((50 : Int) < (l.length : Int)) = false := by rw [decide_eq_false_iff_not]; omega
    have d0' : decide (50 < l.length) = false := by rw [decide_eq_false_iff_not]; omega
    have H50 := Lib.hid h50
    clear h50
    go_enter Try.func21, Try.ntmps21
    go_wp2_with fail
    go_loopw [3, 11] (fun c i wr => ∃ k : Nat, i = .int .i64 k ∧ k ≤ l.length ∧ (∃ z, c = .int .i64 z ∧ Hid (AheadN l k z)) ∧ Hid (PinTo l k) ∧ Below w.heap.size w wr) (fun _ i _ => l.length - (intOf i).toNat)
    case atStart => exact ⟨0, rfl, Nat.zero_le _, ⟨_, rfl, Lib.hid ⟨by omega, fun _ => rfl, fun _ _ h => by omega⟩⟩, Lib.hid (fun _ _ h => by omega), Below.refl _ _⟩
    case round =>
      obtain ⟨k, rfl, hk, ⟨c, rfl, hc⟩, hp, hB⟩ := hrel
      by_cases hlt : k < l.length
      · have hd : decide ((k : Int) < (l.length : Int)) = true := by rw [decide_eq_true_eq]; omega
        obtain ⟨b, off, rfl, x0, x1⟩ := pns_at (HH.out.below hB) hlt
        obtain ⟨⟨s, a⟩, hx⟩ : ∃ x, l[k] = x := ⟨_, rfl⟩
        rw [hx] at x0 x1
        dsimp only at x0 x1
        have HX := Lib.hid hx
        clear hx
        by_cases q0 : s ≤ c
        · have HE := Lib.hid (HR.out.symm.trans (aheadN_no hlt HX.out hc.out q0))
          have d1 : decide (s ≤ c) = true := decide_eq_true q0
          clear q0
          go_wp2_with fail
          go_ret
          exact ⟨by rw [HE.out]; rfl, hB.alloc hB.size _⟩
        · have d1 : decide (s ≤ c) = false := decide_eq_false q0
          by_cases q1 : 1000000 < s
          · have HE := Lib.hid (HR.out.symm.trans (aheadN_bad hlt HX.out (.inl q1)))
            have d2 : decide (1000000 < s) = true := decide_eq_true q1
            clear q0 q1
            go_wp2_with fail
            go_ret
            exact ⟨by rw [HE.out]; rfl, hB.alloc hB.size _⟩
          · have d2 : decide (1000000 < s) = false := decide_eq_false q1
            by_cases q2 : a < 0
            · have HE := Lib.hid (HR.out.symm.trans (aheadN_bad hlt HX.out (.inr (.inl q2))))
              have d3 : decide (a < 0) = true := decide_eq_true q2
              clear q0 q1 q2
              go_wp2_with fail
              go_ret
              exact ⟨by rw [HE.out]; rfl, hB.alloc hB.size _⟩
            · have d3 : decide (a < 0) = false := decide_eq_false q2
              by_cases q3 : 1000000000 < a
              · have HE := Lib.hid (HR.out.symm.trans (aheadN_bad hlt HX.out (.inr (.inr q3))))
                have d4 : decide (1000000000 < a) = true := decide_eq_true q3
                clear q0 q1 q2 q3
                go_wp2_with fail
                go_ret
                exact ⟨by rw [HE.out]; rfl, hB.alloc hB.size _⟩
              · have d4 : decide (1000000000 < a) = false := decide_eq_false q3
                have HN := Lib.hid (aheadN_yes hlt HX.out hp.out hc.out (by omega) (by omega) (by omega) (by omega))
                have HA := Lib.hid (aheadN_next hlt HX.out (by have := hc.out.1; omega))
                clear q0 q1 q2 q3
                go_wp2_with fail
                go_roundw
                case rel => exact ⟨k + 1, by go_num, by omega, ⟨_, rfl, HA⟩, HN, hB.alloc hB.size _⟩
                case measure => simp [intOf]; omega
      · obtain rfl : k = l.length := by omega
        have hd : decide ((l.length : Int) < (l.length : Int)) = false := by simp
        have HE := Lib.hid (HR.out.symm.trans ((pin_all hp.out).trans (decide_eq_true H50.out)))
        go_wp2_with fail
        go_ret
        exact ⟨by rw [HE.out]; rfl, hB⟩
  · have d0 : decide ((50 : Int) < (l.length : Int)) = true := by rw [decide_eq_true_eq]; omega
    have d0' : decide (50 < l.length) = true := by rw [decide_eq_true_eq]; omega
    have HE := Lib.hid (HR.out.symm.trans (isN_long h50))
    clear h50
    go_enter Try.func21, Try.ntmps21
    go_wp2_with fail
    go_ret
    exact ⟨by rw [HE.out]; rfl, Below.refl _ _⟩

end Go.Proofs.Ytbphdajhhnhphaa
