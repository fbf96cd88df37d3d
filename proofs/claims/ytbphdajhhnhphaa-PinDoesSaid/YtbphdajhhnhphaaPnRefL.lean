/-
  The document's own Least and Raise of pins.
-/
import Derived.Test.YtbphdajhhnhphaaPnWhere
import Derived.Test.YtbphdajhhnhphaaPnRow
import Derived.Test.YtbphdajhhnhphaaCell
import Derived.Lib.MinMax
namespace Go.Proofs.Ytbphdajhhnhphaa
set_option maxRecDepth 100000
open Go.RowKit

theorem leastN_one (x : Pn) (r : List Pn) : leastN ((x :: r).take 1) = some x.2 := rfl

set_option maxHeartbeats 8000000 in
theorem refPnLeast_calls (v : Value) (l : List Pn) (w : World) (h : Pns w v l) (hl : l.length ≤ 1000000) :
    Calls Try.prog 16 #[v] w fun e w' => e = .returned (.tuple #[.int .i64 ((leastN l).getD 0), .bool (leastN l).isSome]) ∧ w = w' := by
  obtain ⟨ao, cap, rfl⟩ := h.form
  cases l with
  | nil =>
    go_enter Try.func16, Try.ntmps16
    go_wp2_with fail
    go_ret2
    exact ⟨rfl, rfl⟩
  | cons x r =>
    have HH := Lib.hid h
    have H1 := Lib.hid (leastN_one x r)
    obtain ⟨L, hL⟩ : ∃ L, x :: r = L := ⟨_, rfl⟩
    have hn0 : 0 < L.length := by rw [← hL]; simp
    have hx0 : L[0] = x := by subst hL; rfl
    rw [hL] at HH H1 hl ⊢
    obtain ⟨b, off, rfl, x0, x1⟩ := pns_at HH.out hn0
    rw [hx0, Nat.zero_mul, Nat.add_zero] at x1
    have he : ((L.length : Int) == 0) = false := by rw [beq_eq_false_iff_ne]; omega
    obtain ⟨s, a⟩ := x
    dsimp only at x1 H1
    clear h hL hx0 x0
    go_enter Try.func16, Try.ntmps16
    go_wp2_with fail
    go_loopw [4, 5] (fun m i wr => ∃ k : Nat, i = .int .i64 k ∧ 0 < k ∧ k ≤ L.length ∧ (∃ c, m = .int .i64 c ∧ Hid (leastN (L.take k) = some c)) ∧ w = wr) (fun _ i _ => L.length - (intOf i).toNat)
    case atStart => exact ⟨1, rfl, Nat.one_pos, hn0, ⟨a, rfl, H1⟩, rfl⟩
    case round =>
      obtain ⟨k, rfl, hk0, hk, ⟨c, rfl, hf⟩, rfl⟩ := hrel
      by_cases hlt : k < L.length
      · have hd : decide ((k : Int) < (L.length : Int)) = true := by rw [decide_eq_true_eq]; omega
        obtain ⟨b', off', hbe, y0, y1⟩ := pns_at HH.out hlt
        cases hbe
        have HS := Lib.hid (leastN_take hk0 hlt hf.out)
        generalize L[k].2 = y at *
        clear y0
        go_wp2_with fail
        go_roundw
        case rel => exact ⟨k + 1, by go_num, by omega, by omega, ⟨_, rfl, HS⟩, trivial⟩
        case measure => simp [intOf]; omega
      · obtain rfl : k = L.length := by omega
        have hd : decide ((L.length : Int) < (L.length : Int)) = false := by simp
        have hs := hf.out
        rw [List.take_length] at hs
        have HS := Lib.hid hs
        clear hs
        go_wp2_with fail
        go_ret2
        exact ⟨by rw [HS.out]; rfl, rfl⟩

set_option maxHeartbeats 4000000 in
theorem refPnRaise_calls (a b t : Int) (v : Value) (l : List Pn) (w : World) (h : Pns w v l) (hl : l.length ≤ 1000000) :
    Calls Try.prog 19 #[.int .i64 a, .int .i64 b, .int .i64 t, v] w fun e w' => e = .returned (.int .i64 (raiseN a b t l)) ∧ w = w' := by
  have K := refPnLeast_calls v l w h hl
  have hE : raiseN a b t l = max a (match leastN l with | none => min b t | some n => min (min b t) n) := rfl
  obtain ⟨ao, cap, rfl⟩ := h.form
  rw [hE]
  cases hn : leastN l with
  | none =>
    rw [hn] at K
    have K1 := Lib.hid K
    clear K hE hn h
    go_enter Try.func19, Try.ntmps19
    go_wp2_with fail
    refine K1.out.mono ?_
    rintro e w1 ⟨rfl, rfl⟩
    simp only [Option.getD_none, Option.isSome_none]
    go_wp2_with fail
    go_ret
    exact ⟨rfl, rfl⟩
  | some n =>
    rw [hn] at K
    have K1 := Lib.hid K
    clear K hE hn h
    go_enter Try.func19, Try.ntmps19
    go_wp2_with fail
    refine K1.out.mono ?_
    rintro e w1 ⟨rfl, rfl⟩
    simp only [Option.getD_some, Option.isSome_some]
    go_wp2_with fail
    go_ret
    exact ⟨by rw [Int.min_assoc]; rfl, rfl⟩

end Go.Proofs.Ytbphdajhhnhphaa
