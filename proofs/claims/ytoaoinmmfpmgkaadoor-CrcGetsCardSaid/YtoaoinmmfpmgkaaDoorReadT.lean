/-
  codec.readText: the text that the text in the box begins with.
-/
import Derived.Test.YtoaoinmmfpmgkaaDoorReadN
namespace Go.Proofs.YtoaoinmmfpmgkaaDoor
open Go.RowKit

/-- What readText leaves. -/
def TPost (Bs : Nat) (w : World) (o : Option (List UInt8 × List UInt8)) (e : Ending) (w' : World) : Prop :=
  w.grownBy w' (some Bs) ∧ (match o with
      | none => e = .returned (.tuple #[.string ⟨#[]⟩, .bool false])
      | some (t, r) => e = .returned (.tuple #[.string ⟨t.toArray⟩, .bool true]) ∧ Boxed w' Bs 9 (.string ⟨r.toArray⟩))

set_option maxHeartbeats 2000000 in
theorem readText_calls (Bs : Nat) (s : List UInt8) (hm : s.length ≤ 4611686018427387904) (w : World) (hb : Boxed w Bs 9 (.string ⟨s.toArray⟩)) :
    Calls Tryd.prog 32 #[takeV Bs] w (TPost Bs w (getT s)) := by
  cases hgn : getN s with
  | none =>
    have hgt : getT s = none := by simp [getT, hgn]
    rw [hgt]
    have HG := Lib.hid hgn
    clear hgn hgt
    go_enter Tryd.func32, Tryd.ntmps32
    go_wp2_with (go_at_call 36; refine (readNumber_none Bs s hm HG.out _ hb).mono ?_; rintro e w1 ⟨rfl, hg1⟩)
    go_ret2
    exact ⟨hg1, rfl⟩
  | some nr =>
    obtain ⟨n, r⟩ := nr
    have HG := Lib.hid hgn
    obtain ⟨hn, hr⟩ := getN_bounds hgn
    by_cases h4 : 4000 < n
    · have hgt : getT s = none := by simp [getT, hgn, h4]
      rw [hgt]
      clear hgn hgt
      go_enter Tryd.func32, Tryd.ntmps32
      go_wp2_with (go_at_call 36; refine (readNumber_some Bs s hm HG.out _ hb).mono ?_; rintro e w1 ⟨rfl, hg1, hb1⟩)
      go_ret2
      exact ⟨hg1, rfl⟩
    · have h5 : n ≤ 4000 := by omega
      by_cases hl : r.length < n
      · have hgt : getT s = none := by simp [getT, hgn, hl]
        rw [hgt]
        clear hgn hgt h4
        go_enter Tryd.func32, Tryd.ntmps32
        go_wp2_with (first | (go_at_call 36; refine (readNumber_some Bs s hm HG.out _ hb).mono ?_; rintro e w1 ⟨rfl, hg1, hb1⟩) | (go_at_call 39; refine (take_no Bs _ r (by omega) _ hb1).mono ?_; rintro e w' ⟨rfl, rfl⟩))
        go_ret2
        exact ⟨hg1, rfl⟩
      · have hgt : getT s = some (r.take n, r.drop n) := by simp [getT, hgn, hl, h4]
        have hl2 : n ≤ r.length := by omega
        rw [hgt]
        clear hgn hgt h4
        go_enter Tryd.func32, Tryd.ntmps32
        go_wp2_with (first | (go_at_call 36; refine (readNumber_some Bs s hm HG.out _ hb).mono ?_; rintro e w1 ⟨rfl, hg1, hb1⟩) | (go_at_call 39; refine (take_ok Bs _ r (by omega) (by omega) _ hb1).mono ?_; rintro e w' ⟨rfl, rfl⟩))
        go_ret2
        exact ⟨grown_trans hg1 (grownBy_setCell' _ _ _), rfl, hb1.set _⟩

theorem readText_none (Bs : Nat) (s : List UInt8) (hm : s.length ≤ 4611686018427387904) (h : getT s = none) (w : World) (hb : Boxed w Bs 9 (.string ⟨s.toArray⟩)) :
    Calls Tryd.prog 32 #[takeV Bs] w fun e w' => e = .returned (.tuple #[.string ⟨#[]⟩, .bool false]) ∧ w.grownBy w' (some Bs) :=
  (readText_calls Bs s hm w hb).mono fun e w' hp => by
    rw [h] at hp
    exact ⟨hp.2, hp.1⟩

theorem readText_some (Bs : Nat) (s : List UInt8) (hm : s.length ≤ 4611686018427387904) {t r : List UInt8} (h : getT s = some (t, r)) (w : World) (hb : Boxed w Bs 9 (.string ⟨s.toArray⟩)) :
    Calls Tryd.prog 32 #[takeV Bs] w fun e w' => e = .returned (.tuple #[.string ⟨t.toArray⟩, .bool true]) ∧ w.grownBy w' (some Bs) ∧ Boxed w' Bs 9 (.string ⟨r.toArray⟩) :=
  (readText_calls Bs s hm w hb).mono fun e w' hp => by
    rw [h] at hp
    exact ⟨hp.2.1, hp.1, hp.2.2⟩

end Go.Proofs.YtoaoinmmfpmgkaaDoor
