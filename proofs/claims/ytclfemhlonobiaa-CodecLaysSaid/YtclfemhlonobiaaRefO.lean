/-
  The document's own GetRow, and Own.
-/
import Derived.Test.YtclfemhlonobiaaRefG
import Derived.Test.YtclfemhlonobiaaSame
import Derived.Test.YtclfemhlonobiaaAux
namespace Go.Proofs.Ytclfemhlonobiaa
open Go.RowKit

theorem below_grown {w w' : World} (h : Below w.heap.size w w') : w.grownBy w' none := ⟨h.os, h.tape, h.output, h.size, fun k hk _ => h.block k hk⟩
theorem own_below {w w' : World} {base : Nat} {v : Value} {n : Nat} {xs : List Value} (h : w.ownsRow base 9 1 v n xs) (hb : Below w.heap.size w w') : w'.ownsRow base 9 1 v n xs :=
  h.kept (below_grown hb) (by cases hv : v.ownBlock <;> simp)

set_option maxHeartbeats 4000000 in
theorem refGetRow_none (s : List UInt8) (hm : s.length ≤ 4611686018427387904) (h : getR s = none) (w : World) :
    Calls Try.prog 23 #[.string ⟨s.toArray⟩] w fun e w' => e = .returned (.tuple #[.slice none 0 0, .string ⟨#[]⟩, .bool false]) ∧ Below w.heap.size w w' := by
  unfold getR at h
  cases hgn : getN s with
  | none =>
    have HG := Lib.hid hgn
    clear hgn h
    go_enter Try.func23, Try.ntmps23
    go_wp2_with (go_at_call 19; refine (refGetNumber_none s hm HG.out _).mono ?_; rintro e w1 ⟨rfl, hB1⟩)
    go_ret3
    exact ⟨rfl, hB1⟩
  | some nr =>
    obtain ⟨n, r0⟩ := nr
    rw [hgn] at h
    change (if 1000 < n then none else getTs n r0) = _ at h
    have HG := Lib.hid hgn
    obtain ⟨hn, hr0⟩ := getN_bounds hgn
    clear hgn
    by_cases h4 : 1000 < n
    · clear h
      go_enter Try.func23, Try.ntmps23
      go_wp2_with (go_at_call 19; refine (refGetNumber_some s hm HG.out _).mono ?_; rintro e w1 ⟨rfl, hB1⟩)
      go_ret3
      exact ⟨rfl, hB1⟩
    · rw [if_neg h4] at h
      have HZ := Lib.hid h
      have h5 : n ≤ 1000 := by omega
      have hd5 : decide ((1000 : Int) < n) = false := by simp; omega
      clear h4 h
      obtain ⟨i0, hi, hz0, hz1, hz2⟩ := info_parts info9
      go_enter Try.func23, Try.ntmps23
      go_wp2_with (go_at_call 19; refine (refGetNumber_some s hm HG.out _).mono ?_; rintro e w1 ⟨rfl, hB1⟩)
      go_loopw [6, 8, 9] (fun q v i wr => ∃ (k : Nat) (ts : List (List UInt8)) (r : List UInt8), k ≤ n ∧ i = .int .i64 k ∧ ts.length = k ∧ r.length ≤ s.length ∧ q = .string ⟨r.toArray⟩ ∧ Left n r0 k ts r ∧ wr.ownsRow w.heap.size 9 1 v ts.length (ts.map SV) ∧ Below w.heap.size w wr) (fun _ _ i _ => n - (intOf i).toNat)
      case atStart => exact ⟨0, [], r0, Nat.zero_le _, rfl, rfl, hr0, rfl, left_zero n r0, World.ownsRow_nil _ _ _ _, hB1⟩
      case round =>
        obtain ⟨k, ts, r, hk, rfl, rfl, hr, rfl, hleft, hown, hB⟩ := hrel
        by_cases hlt : ts.length < n
        · cases hgt : getT r with
          | none =>
            have HT := Lib.hid hgt
            clear hgt
            go_wp2_with (go_at_call 21; refine (refGetText_none r (by omega) HT.out _).mono ?_; rintro e w2 ⟨rfl, hB2⟩)
            go_ret3
            exact ⟨rfl, hB.trans (hB2.mono hB.size)⟩
          | some tr =>
            obtain ⟨t, r'⟩ := tr
            have hsucc := left_succ hleft hlt hgt
            obtain ⟨ht4, hr4⟩ := getT_bounds hgt
            have HT := Lib.hid hgt
            clear hgt
            go_wp2_with (first | (go_at_call 21; refine (refGetText_some r (by omega) HT.out _).mono ?_; rintro e w2 ⟨rfl, hB2⟩; have hown2 := own_below hown hB2) | (at_builtin; refine wpList_append_own _ rfl _ _ 22 rfl w.heap.size 9 i0 (.string ⟨#[]⟩) 1 16 Try.underlying22 hi hz0 hz1 hz2 rfl (by decide) _ _ _ rfl (hown2.alloc _) ⟨w2.heap.size, 0, none⟩ 1 1 [.string ⟨t.toArray⟩] rfl rfl (cell_one_new _ _ _) (by simp [Value.oneCell']) (by unfold maxLen; omega) (by omega) (by have := hB.size; have := hB2.size; simp; omega) ?_; intro v3 w3 hown3 hg3 _))
            go_roundw
            case rel => exact ⟨ts.length + 1, ts ++ [t], r', by omega, by go_num, by simp, by omega, rfl, hsucc, by simpa [SV] using hown3, ((hB.trans (hB2.mono hB.size)).alloc (Nat.le_trans hB.size hB2.size) _).grown hg3 (by have := hB.size; have := hB2.size; simp; omega) (fun j e => (hown.lt j e).1)⟩
            case measure => simp [intOf]; omega
        · obtain rfl : n = ts.length := by omega
          exact absurd (left_all hleft) (by rw [HZ.out]; simp)

set_option maxHeartbeats 4000000 in
theorem refGetRow_some (s : List UInt8) (hm : s.length ≤ 4611686018427387904) {us : List (List UInt8)} {q0 : List UInt8} (h : getR s = some (us, q0)) (w : World) :
    Calls Try.prog 23 #[.string ⟨s.toArray⟩] w fun e w' => ∃ v, e = .returned (.tuple #[v, .string ⟨q0.toArray⟩, .bool true]) ∧ Below w.heap.size w w' ∧ w'.ownsRow w.heap.size 9 1 v us.length (us.map SV) := by
  unfold getR at h
  cases hgn : getN s with
  | none => rw [hgn] at h; cases h
  | some nr =>
    obtain ⟨n, r0⟩ := nr
    rw [hgn] at h
    change (if 1000 < n then none else getTs n r0) = _ at h
    have HG := Lib.hid hgn
    obtain ⟨hn, hr0⟩ := getN_bounds hgn
    clear hgn
    by_cases h4 : 1000 < n
    · rw [if_pos h4] at h; cases h
    · rw [if_neg h4] at h
      have HZ := Lib.hid h
      have h5 : n ≤ 1000 := by omega
      have hd5 : decide ((1000 : Int) < n) = false := by simp; omega
      clear h4 h
      obtain ⟨i0, hi, hz0, hz1, hz2⟩ := info_parts info9
      go_enter Try.func23, Try.ntmps23
      go_wp2_with (go_at_call 19; refine (refGetNumber_some s hm HG.out _).mono ?_; rintro e w1 ⟨rfl, hB1⟩)
      go_loopw [6, 8, 9] (fun q v i wr => ∃ (k : Nat) (ts : List (List UInt8)) (r : List UInt8), k ≤ n ∧ i = .int .i64 k ∧ ts.length = k ∧ r.length ≤ s.length ∧ q = .string ⟨r.toArray⟩ ∧ Left n r0 k ts r ∧ wr.ownsRow w.heap.size 9 1 v ts.length (ts.map SV) ∧ Below w.heap.size w wr) (fun _ _ i _ => n - (intOf i).toNat)
      case atStart => exact ⟨0, [], r0, Nat.zero_le _, rfl, rfl, hr0, rfl, left_zero n r0, World.ownsRow_nil _ _ _ _, hB1⟩
      case round =>
        obtain ⟨k, ts, r, hk, rfl, rfl, hr, rfl, hleft, hown, hB⟩ := hrel
        by_cases hlt : ts.length < n
        · cases hgt : getT r with
          | none => exact absurd (left_none hleft hlt hgt) (by rw [HZ.out]; simp)
          | some tr =>
            obtain ⟨t, r'⟩ := tr
            have hsucc := left_succ hleft hlt hgt
            obtain ⟨ht4, hr4⟩ := getT_bounds hgt
            have HT := Lib.hid hgt
            clear hgt
            go_wp2_with (first | (go_at_call 21; refine (refGetText_some r (by omega) HT.out _).mono ?_; rintro e w2 ⟨rfl, hB2⟩; have hown2 := own_below hown hB2) | (at_builtin; refine wpList_append_own _ rfl _ _ 22 rfl w.heap.size 9 i0 (.string ⟨#[]⟩) 1 16 Try.underlying22 hi hz0 hz1 hz2 rfl (by decide) _ _ _ rfl (hown2.alloc _) ⟨w2.heap.size, 0, none⟩ 1 1 [.string ⟨t.toArray⟩] rfl rfl (cell_one_new _ _ _) (by simp [Value.oneCell']) (by unfold maxLen; omega) (by omega) (by have := hB.size; have := hB2.size; simp; omega) ?_; intro v3 w3 hown3 hg3 _))
            go_roundw
            case rel => exact ⟨ts.length + 1, ts ++ [t], r', by omega, by go_num, by simp, by omega, rfl, hsucc, by simpa [SV] using hown3, ((hB.trans (hB2.mono hB.size)).alloc (Nat.le_trans hB.size hB2.size) _).grown hg3 (by have := hB.size; have := hB2.size; simp; omega) (fun j e => (hown.lt j e).1)⟩
            case measure => simp [intOf]; omega
        · obtain rfl : n = ts.length := by omega
          have hfin := left_all hleft
          rw [HZ.out] at hfin
          simp only [Option.some.injEq, Prod.mk.injEq] at hfin
          obtain ⟨rfl, rfl⟩ := hfin
          go_wp2_with fail
          go_ret3
          exact ⟨_, rfl, hB, hown⟩

end Go.Proofs.Ytclfemhlonobiaa
