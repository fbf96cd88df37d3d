/-
  codec.readText and codec.readRow: the text, and the row, that the text in the box begins with.
-/
import Derived.Test.YtclfemhlonobiaaReadN
namespace Go.Proofs.Ytclfemhlonobiaa
open Go.RowKit

theorem getN_bounds {s : List UInt8} {n : Nat} {r : List UInt8} (h : getN s = some (n, r)) : n ≤ 4294967295 ∧ r.length ≤ s.length := by
  cases s with
  | nil => cases h
  | cons a t =>
    change (if 4 < a.toNat then none else if t.length < a.toNat then none else if wid (valB (t.take a.toNat)) = a.toNat then some (valB (t.take a.toNat), t.drop a.toNat) else none) = _ at h
    by_cases h1 : 4 < a.toNat
    · rw [if_pos h1] at h; cases h
    rw [if_neg h1] at h
    by_cases h2 : t.length < a.toNat
    · rw [if_pos h2] at h; cases h
    rw [if_neg h2] at h
    by_cases h3 : wid (valB (t.take a.toNat)) = a.toNat
    · rw [if_pos h3] at h
      simp only [Option.some.injEq, Prod.mk.injEq] at h
      obtain ⟨rfl, rfl⟩ := h
      exact ⟨valB_small _ (by rw [List.length_take]; omega), by simp; omega⟩
    · rw [if_neg h3] at h; cases h

theorem readNumber_none (Bs : Nat) (s : List UInt8) (hm : s.length ≤ 4611686018427387904) (h : getN s = none) (w : World) (hb : Boxed w Bs 9 (.string ⟨s.toArray⟩)) :
    Calls Try.prog 28 #[takeV Bs] w fun e w' => e = .returned (.tuple #[.int .i64 0, .bool false]) ∧ w.grownBy w' (some Bs) :=
  (readNumber_calls Bs s hm w hb).mono fun e w' hp => by
    rw [h] at hp
    exact ⟨hp.2, hp.1⟩
theorem readNumber_some (Bs : Nat) (s : List UInt8) (hm : s.length ≤ 4611686018427387904) {n : Nat} {r : List UInt8} (h : getN s = some (n, r)) (w : World) (hb : Boxed w Bs 9 (.string ⟨s.toArray⟩)) :
    Calls Try.prog 28 #[takeV Bs] w fun e w' => e = .returned (.tuple #[.int .i64 n, .bool true]) ∧ w.grownBy w' (some Bs) ∧ Boxed w' Bs 9 (.string ⟨r.toArray⟩) :=
  (readNumber_calls Bs s hm w hb).mono fun e w' hp => by
    rw [h] at hp
    exact ⟨hp.2.1, hp.1, hp.2.2⟩

/-- What readText leaves. -/
def TPost (Bs : Nat) (w : World) (o : Option (List UInt8 × List UInt8)) (e : Ending) (w' : World) : Prop :=
  w.grownBy w' (some Bs) ∧ (match o with
      | none => e = .returned (.tuple #[.string ⟨#[]⟩, .bool false])
      | some (t, r) => e = .returned (.tuple #[.string ⟨t.toArray⟩, .bool true]) ∧ Boxed w' Bs 9 (.string ⟨r.toArray⟩))

set_option maxHeartbeats 2000000 in
theorem readText_calls (Bs : Nat) (s : List UInt8) (hm : s.length ≤ 4611686018427387904) (w : World) (hb : Boxed w Bs 9 (.string ⟨s.toArray⟩)) :
    Calls Try.prog 30 #[takeV Bs] w (TPost Bs w (getT s)) := by
  cases hgn : getN s with
  | none =>
    have hgt : getT s = none := by simp [getT, hgn]
    rw [hgt]
    have HG := Lib.hid hgn
    clear hgn hgt
    go_enter Try.func30, Try.ntmps30
    go_wp2_with (go_at_call 28; refine (readNumber_none Bs s hm HG.out _ hb).mono ?_; rintro e w1 ⟨rfl, hg1⟩)
    go_ret2
    exact ⟨hg1, rfl⟩
  | some nr =>
    obtain ⟨n, r⟩ := nr
    have HG := Lib.hid hgn
    obtain ⟨hn, hr⟩ := getN_bounds hgn
    by_cases h4 : 4000 < n
    · have hgt : getT s = none := by simp [getT, hgn, h4]
      rw [hgt]
      clear hgn hgt
      go_enter Try.func30, Try.ntmps30
      go_wp2_with (go_at_call 28; refine (readNumber_some Bs s hm HG.out _ hb).mono ?_; rintro e w1 ⟨rfl, hg1, hb1⟩)
      go_ret2
      exact ⟨hg1, rfl⟩
    · have h5 : n ≤ 4000 := by omega
      by_cases hl : r.length < n
      · have hgt : getT s = none := by simp [getT, hgn, hl]
        rw [hgt]
        clear hgn hgt h4
        go_enter Try.func30, Try.ntmps30
        go_wp2_with (first | (go_at_call 28; refine (readNumber_some Bs s hm HG.out _ hb).mono ?_; rintro e w1 ⟨rfl, hg1, hb1⟩) | (go_at_call 38; refine (take_no Bs _ r (by omega) _ hb1).mono ?_; rintro e w' ⟨rfl, rfl⟩))
        go_ret2
        exact ⟨hg1, rfl⟩
      · have hgt : getT s = some (r.take n, r.drop n) := by simp [getT, hgn, hl, h4]
        have hl2 : n ≤ r.length := by omega
        rw [hgt]
        clear hgn hgt h4
        go_enter Try.func30, Try.ntmps30
        go_wp2_with (first | (go_at_call 28; refine (readNumber_some Bs s hm HG.out _ hb).mono ?_; rintro e w1 ⟨rfl, hg1, hb1⟩) | (go_at_call 38; refine (take_ok Bs _ r (by omega) (by omega) _ hb1).mono ?_; rintro e w' ⟨rfl, rfl⟩))
        go_ret2
        exact ⟨grown_trans hg1 (grownBy_setCell' _ _ _), rfl, hb1.set _⟩

end Go.Proofs.Ytclfemhlonobiaa
