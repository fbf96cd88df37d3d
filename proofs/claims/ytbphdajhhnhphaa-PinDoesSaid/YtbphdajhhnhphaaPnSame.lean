/-
  sexton/sextonref17.Same: are two rows the same?
-/
import Derived.Test.YtbphdajhhnhphaaPnRow
import Derived.Test.YtbphdajhhnhphaaCell
import Derived.Deep.RegionHeld3
namespace Go.Proofs.Ytbphdajhhnhphaa
set_option maxRecDepth 100000
open Go.RowKit

theorem pnsame_next {a b : List Pn} {k : Nat} (h : a.take k = b.take k) (ha : k < a.length) (hb : k < b.length) (he : a[k] = b[k]) : a.take (k + 1) = b.take (k + 1) := by
  rw [List.take_succ_eq_append_getElem ha, List.take_succ_eq_append_getElem hb, h, he]
theorem pnsame_not {a b : List Pn} {k : Nat} (ha : k < a.length) (hb : k < b.length) (he : a[k] ≠ b[k]) : decide (a = b) = false := by
  rw [decide_eq_false_iff_not]
  intro e
  subst e
  exact he rfl
theorem pn_cases (x y : Pn) : (x = y ∧ (x.1 == y.1) = true ∧ (x.2 == y.2) = true) ∨ (x ≠ y ∧ (x.1 == y.1) = false) ∨ (x ≠ y ∧ (x.1 == y.1) = true ∧ (x.2 == y.2) = false) := by
  obtain ⟨p0, p1⟩ := x
  obtain ⟨q0, q1⟩ := y
  by_cases h0 : p0 = q0
  · by_cases h1 : p1 = q1
    · exact .inl ⟨by rw [h0, h1], by simp [h0], by simp [h1]⟩
    · exact .inr (.inr (⟨fun e => h1 (congrArg (fun z : Pn => z.2) e), by simp [h0], by simpa using h1⟩))
  · exact .inr (.inl ⟨fun e => h0 (congrArg (fun z : Pn => z.1) e), by simpa using h0⟩)

set_option maxHeartbeats 8000000 in
theorem refPnsame_calls (va vb : Value) (a b : List Pn) (w : World) (ha : Pns w va a) (hb : Pns w vb b) (hla : a.length ≤ 1000000) :
    Calls Try.prog 17 #[va, vb] w fun e w' => e = .returned (.bool (decide (a = b))) ∧ Below w.heap.size w w' := by
  obtain ⟨aa, ca, rfl⟩ := ha.form
  obtain ⟨ab, cb, rfl⟩ := hb.form
  have HA := Lib.hid ha
  have HB := Lib.hid hb
  clear ha hb
  by_cases hl : a.length = b.length
  · have hne : ((a.length : Int) != (b.length : Int)) = false := by rw [bne_eq_false_iff_eq]; omega
    have HL := Lib.hid hl
    go_enter Try.func17, Try.ntmps17
    clear hl
    go_wp2_with fail
    go_loopw [5] (fun i wr => ∃ k : Nat, k ≤ a.length ∧ i = .int .i64 k ∧ Hid (a.take k = b.take k) ∧ Hid (Below w.heap.size w wr)) (fun i _ => a.length - (intOf i).toNat)
    case atStart => exact ⟨0, Nat.zero_le _, rfl, Lib.hid (by simp), Lib.hid (Below.refl _ _)⟩
    case round =>
      obtain ⟨k, hk, rfl, hf, hB⟩ := hrel
      by_cases hlt : k < a.length
      · have hlt2 : k < b.length := by have := HL.out; omega
        have hd : decide ((k : Int) < (a.length : Int)) = true := by rw [decide_eq_true_eq]; omega
        obtain ⟨ba, oa, rfl, x0, x1⟩ := pns_at (HA.out.below (hB.out.drew)) hlt
        obtain ⟨bb, ob, rfl, y0, y1⟩ := pns_at (HB.out.below (hB.out.drew)) hlt2
        have hn := fun h => pnsame_next hf.out hlt hlt2 h
        have hx := fun h => pnsame_not hlt hlt2 h
        generalize a[k] = x at *
        generalize b[k] = y at *
        rcases pn_cases x y with ⟨e, e0, e1⟩ | ⟨e, e0⟩ | ⟨e, e0, e1⟩
        · have HN := Lib.hid (hn e)
          clear hn hx e
          go_wp2_with fail
          go_region
          all_goals
            go_wp2_with fail
            go_roundw
            case rel => exact ⟨k + 1, by omega, by go_num, HN, Lib.hid (hB.out.drew)⟩
            case measure => simp [intOf]; omega
        · have HX := Lib.hid (hx e)
          clear hn hx e
          go_wp2_with fail
          go_region
          all_goals
            go_wp2_with fail
            go_ret
            exact ⟨by rw [HX.out]; rfl, hB.out.drew⟩
        · have HX := Lib.hid (hx e)
          clear hn hx e
          go_wp2_with fail
          go_region
          all_goals
            go_wp2_with fail
            go_ret
            exact ⟨by rw [HX.out]; rfl, hB.out.drew⟩
      · obtain rfl : k = a.length := by omega
        have hd : decide ((a.length : Int) < (a.length : Int)) = false := by simp
        have HS := Lib.hid (show decide (a = b) = true by
          have h := hf.out
          rw [List.take_length, HL.out, List.take_length] at h
          rw [decide_eq_true_eq]
          exact h)
        go_wp2_with fail
        go_ret
        exact ⟨by rw [HS.out]; rfl, hB.out⟩
  · have hne : ((a.length : Int) != (b.length : Int)) = true := by rw [bne_iff_ne]; omega
    have HX := Lib.hid (show decide (a = b) = false by rw [decide_eq_false_iff_not]; intro e; exact hl (by rw [e]))
    clear hl
    go_enter Try.func17, Try.ntmps17
    go_wp2_with fail
    go_ret
    exact ⟨by rw [HX.out]; rfl, Below.refl _ _⟩
theorem refPnsame_self (va vb : Value) (l : List Pn) (w : World) (ha : Pns w va l) (hb : Pns w vb l) (hla : l.length ≤ 1000000) :
    Calls Try.prog 17 #[va, vb] w fun e w' => e = .returned (.bool true) ∧ Below w.heap.size w w' :=
  (refPnsame_calls va vb l l w ha hb hla).mono fun e w' h => ⟨h.1.trans (by rw [decide_eq_true rfl]), h.2⟩

end Go.Proofs.Ytbphdajhhnhphaa
