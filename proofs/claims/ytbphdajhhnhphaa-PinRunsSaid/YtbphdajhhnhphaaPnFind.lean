/-
  pin: find, and the two methods that it is handed.
-/
import Derived.Test.YtbphdajhhnhphaaPnWhere
import Derived.Test.YtbphdajhhnhphaaPns
import Derived.Test.YtbphdajhhnhphaaHeld
import Derived.Deep.RegionHeld3
namespace Go.Proofs.Ytbphdajhhnhphaa
set_option maxRecDepth 100000
open Go.RowKit

/-- A call of f enters its body. -/
def EntersP (f : FuncId) : Prop := ∀ xs W, (callFunc f xs).run Try.prog W = .ok (.enter f xs) W
/-- f says of a pin whether it is asked for. -/
def AsksP (f : FuncId) (h : Value) (P : Pn → Bool) : Prop := ∀ (x : Pn) W, Calls Try.prog f #[h, .agg #[.int .i64 x.1, .int .i64 x.2]] W fun e w' => e = .returned (.bool (P x)) ∧ Below W.heap.size W w'
theorem entersHolds : EntersP 26 := fun _ _ => by kernel_rfl
theorem entersAhead : EntersP 24 := fun _ _ => by kernel_rfl

set_option maxHeartbeats 1000000 in
theorem holds_calls (s : Int) : AsksP 26 (.int .i64 s) (holdsP s) := by
  rintro ⟨t, a⟩ w
  go_enter Try.func26, Try.ntmps26
  go_wp2_with fail
  go_ret
  exact ⟨rfl, below_alloc _ _⟩
set_option maxHeartbeats 1000000 in
theorem ahead_calls (s : Int) : AsksP 24 (.int .i64 s) (behindP s) := by
  rintro ⟨t, a⟩ w
  go_enter Try.func24, Try.ntmps24
  go_wp2_with fail
  go_ret
  exact ⟨rfl, below_alloc _ _⟩

set_option maxHeartbeats 4000000 in
theorem find_calls (f : FuncId) (hf : EntersP f) (h : Value) (P : Pn → Bool) (hP : AsksP f h P) (v : Value) (l : List Pn) (w : World) (hl : Pns w v l) (hn : l.length ≤ 1000000) :
    Calls Try.prog 23 #[v, .func (.func f) #[h] #[]] w fun e w' => e = .returned (.int .i64 (whereN P l)) ∧ Below w.heap.size w w' := by
  obtain ⟨ao, cap, rfl⟩ := hl.form
  unfold EntersP at hf
  have HH := Lib.hid hl
  have HP := Lib.hid hP
  obtain ⟨z, hz⟩ : ∃ z, whereN P l = z := ⟨_, rfl⟩
  rw [hz]
  have HZ := Lib.hid hz
  clear hl hP hz
  go_enter Try.func23, Try.ntmps23
  go_wp2_with fail
  go_loopw [9] (fun i wr => ∃ k : Nat, i = .int .i64 k ∧ k ≤ l.length ∧ Hid (∀ i (hi : i < l.length), i < k → P l[i] = false) ∧ Below w.heap.size w wr) (fun i _ => l.length - (intOf i).toNat)
  case atStart => exact ⟨0, rfl, Nat.zero_le _, Lib.hid (fun _ _ h => by omega), Below.refl _ _⟩
  case round =>
    obtain ⟨k, rfl, hk, hA, hB⟩ := hrel
    by_cases hlt : k < l.length
    · have hd : decide ((k : Int) < (l.length : Int)) = true := by rw [decide_eq_true_eq]; omega
      obtain ⟨b, off, rfl, x0, x1⟩ := pns_at (HH.out.below hB) hlt
      obtain ⟨⟨s, a⟩, hx⟩ : ∃ x, l[k] = x := ⟨_, rfl⟩
      rw [hx] at x0 x1
      dsimp only at x0 x1
      cases hc : P (s, a) with
      | true =>
        have K := Lib.hid (fun W => hc ▸ HP.out (s, a) W)
        have HE := Lib.hid (HZ.out.symm.trans (whereN_is (Nat.le_of_lt hlt) hA.out (fun _ => by rw [hx]; exact hc)))
        clear hc hx
        go_wp2_with fail
        refine (K.out _).mono ?_
        rintro e w1 ⟨rfl, hB1⟩
        go_wp2_with fail
        go_ret
        exact ⟨by rw [HE.out]; rfl, below3 hB (below_alloc _ _) hB1⟩
      | false =>
        have K := Lib.hid (fun W => hc ▸ HP.out (s, a) W)
        have HE : Hid (∀ i (hi : i < l.length), i < k + 1 → P l[i] = false) := Lib.hid (fun i hi hik => by
          by_cases e : i = k
          · subst e
            rw [hx]
            exact hc
          · exact hA.out i hi (by omega))
        clear hc hx
        go_wp2_with fail
        refine (K.out _).mono ?_
        rintro e w1 ⟨rfl, hB1⟩
        go_wp2_with fail
        go_roundw
        case rel => exact ⟨k + 1, by go_num, by omega, HE, below3 hB (below_alloc _ _) hB1⟩
        case measure => simp [intOf]; omega
    · obtain rfl : k = l.length := by omega
      have hd : decide ((l.length : Int) < (l.length : Int)) = false := by simp
      have HE := Lib.hid (HZ.out.symm.trans (whereN_is (Nat.le_refl _) hA.out (fun h => by omega)))
      go_wp2_with fail
      go_ret
      exact ⟨by rw [HE.out]; rfl, hB⟩

end Go.Proofs.Ytbphdajhhnhphaa
