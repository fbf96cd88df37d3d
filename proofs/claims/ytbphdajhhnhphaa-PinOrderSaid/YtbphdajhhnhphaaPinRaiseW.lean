/-
  The law PinRaise, walked.
-/
import Derived.Test.YtbphdajhhnhphaaPnPinned
namespace Go.Proofs.Ytbphdajhhnhphaa
set_option maxRecDepth 100000
open Go.RowKit

theorem pnLeast_calls (v : Value) (l : List Pn) (w : World) (h : Pns w v l) (hl : l.length ≤ 1000) :
    Calls Try.prog 15 #[v] w fun e w' => e = .returned (.tuple #[.int .i64 ((leastN l).getD 0), .bool (leastN l).isSome]) ∧ Below w.heap.size w w' := by
  cases l with
  | nil => exact leastP_none v w h
  | cons x r =>
    rw [least_fold]
    exact leastP_some v x r w h (by simp only [List.length_cons] at hl; omega)

set_option maxHeartbeats 8000000 in
theorem pinRaise_small (a b t : Int) (v : Value) (l : List Pn) (W : World) (h : Pns W v l) (hl : l.length ≤ 100) :
    Calls Try.prog 5 #[.int .i64 a, .int .i64 b, .int .i64 t, v] W fun e w' => e = .returned (.bool true) ∧ Below W.heap.size W w' := by
  obtain ⟨f1, f2, f3⟩ := raise_facts a b t l
  have K1 := Lib.hid (raise_calls a b t v l W h (by omega))
  have K2 := Lib.hid (fun W' (hB : Below W.heap.size W W') => raise_calls (raiseN a b t l) b t v l W' (h.below hB) (by omega))
  have HP := Lib.hid (fun W' => pinned_calls W')
  rw [f3] at K2
  obtain ⟨n, hn⟩ : ∃ n, raiseN a b t l = n := ⟨_, rfl⟩
  rw [hn] at K1 K2 f1 f2
  obtain ⟨ao, cap, rfl⟩ := h.form
  have HH := Lib.hid h
  have HL := Lib.hid hl
  have d0 : decide ((100 : Int) < (l.length : Int)) = false := by rw [decide_eq_false_iff_not]; omega
  have d0' : decide (100 < l.length) = false := by rw [decide_eq_false_iff_not]; omega
  have d1 : decide (n < a) = false := by rw [decide_eq_false_iff_not]; omega
  have en : (n == n) = true := by simp
  clear h hn f3 hl
  by_cases hz : n = a
  · have d2 : decide (a < n) = false := by rw [decide_eq_false_iff_not]; omega
    have e1 : (n == a) = true := by rw [beq_iff_eq]; exact hz
    clear hz f1 f2
    go_enter Try.func5, Try.ntmps5
    go_wp2_with fail
    refine K1.out.mono ?_
    rintro e w1 ⟨rfl, hB1⟩
    go_wp2_with fail
    go_loop [10] (fun i => ∃ k : Nat, i = .int .i64 k ∧ k ≤ l.length) (fun i => l.length - (intOf i).toNat)
    case atStart => exact ⟨0, rfl, Nat.zero_le _⟩
    case round =>
      obtain ⟨k, rfl, hk⟩ := hrel
      have hl := HL.out
      by_cases hlt : k < l.length
      · have hd : decide ((k : Int) < (l.length : Int)) = true := by rw [decide_eq_true_eq]; omega
        go_wp2_with fail
        go_round
        case rel => exact ⟨k + 1, by go_num, by omega⟩
        case measure => simp [intOf]; omega
      · obtain rfl : k = l.length := by omega
        have hd : decide ((l.length : Int) < (l.length : Int)) = false := by simp
        go_wp2_with fail
        refine (K2.out _ hB1).mono ?_
        rintro e w2 ⟨rfl, hB2⟩
        go_wp2_with fail
        refine (HP.out _).mono ?_
        rintro e w3 ⟨rfl, hB3⟩
        go_wp2_with fail
        go_ret
        exact ⟨rfl, below3 hB1 hB2 hB3⟩
  · have d2 : decide (a < n) = true := by rw [decide_eq_true_eq]; omega
    have e1 : (n == a) = false := by rw [beq_eq_false_iff_ne]; exact hz
    obtain ⟨g1, g2, g3⟩ := f2.resolve_left hz
    have d3 : decide (n ≤ b) = true := decide_eq_true g1
    have d4 : decide (n ≤ t) = true := decide_eq_true g2
    have HG := Lib.hid g3
    clear hz f1 f2 g1 g2 g3
    go_enter Try.func5, Try.ntmps5
    go_wp2_with fail
    refine K1.out.mono ?_
    rintro e w1 ⟨rfl, hB1⟩
    go_wp2_with fail
    go_loop [10] (fun i => ∃ k : Nat, i = .int .i64 k ∧ k ≤ l.length) (fun i => l.length - (intOf i).toNat)
    case atStart => exact ⟨0, rfl, Nat.zero_le _⟩
    case round =>
      obtain ⟨k, rfl, hk⟩ := hrel
      have hl := HL.out
      by_cases hlt : k < l.length
      · have hd : decide ((k : Int) < (l.length : Int)) = true := by rw [decide_eq_true_eq]; omega
        obtain ⟨b', off, rfl, x0, x1⟩ := pns_at (HH.out.below hB1) hlt
        have hge := HG.out _ (List.getElem_mem hlt)
        generalize l[k].2 = y at *
        have d5 : decide (y < n) = false := by rw [decide_eq_false_iff_not]; omega
        clear x0 hge
        go_wp2_with fail
        go_round
        case rel => exact ⟨k + 1, by go_num, by omega⟩
        case measure => simp [intOf]; omega
      · obtain rfl : k = l.length := by omega
        have hd : decide ((l.length : Int) < (l.length : Int)) = false := by simp
        go_wp2_with fail
        refine (K2.out _ hB1).mono ?_
        rintro e w2 ⟨rfl, hB2⟩
        go_wp2_with fail
        refine (HP.out _).mono ?_
        rintro e w3 ⟨rfl, hB3⟩
        go_wp2_with fail
        go_ret
        exact ⟨rfl, below3 hB1 hB2 hB3⟩

theorem pinRaise_walk (a b t : Int) (v : Value) (l : List Pn) (W : World) (_ : (Lit.int .i64 a).wf = true) (_ : (Lit.int .i64 b).wf = true) (_ : (Lit.int .i64 t).wf = true) (h : Pns W v l) (_ : l.length ≤ maxLen) (_ : ∀ y ∈ l, (Lit.int .i64 y.1).wf = true ∧ (Lit.int .i64 y.2).wf = true) :
    Calls Try.prog 5 #[.int .i64 a, .int .i64 b, .int .i64 t, v] W fun e w' => e = .returned (.bool true) ∧ Below W.heap.size W w' := by
  by_cases hl : l.length ≤ 100
  · exact pinRaise_small a b t v l W h hl
  · have d0 : decide ((100 : Int) < (l.length : Int)) = true := by rw [decide_eq_true_eq]; omega
    have d0' : decide (100 < l.length) = true := by rw [decide_eq_true_eq]; omega
    obtain ⟨ao, cap, rfl⟩ := h.form
    clear hl h
    go_enter Try.func5, Try.ntmps5
    go_wp2_with fail
    go_ret
    exact ⟨rfl, Below.refl _ _⟩

end Go.Proofs.Ytbphdajhhnhphaa
