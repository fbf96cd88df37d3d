/-
  The document's own GetNumber.
-/
import Derived.Test.YtijhbnkfkjfcfaaRefNum
import Derived.Test.YtijhbnkfkjfcfaaMath2
import Derived.Deep.QuietTactic
import Derived.BigQuiet
import Derived.WalkSmall
namespace Go.Proofs.Ytijhbnkfkjfcfaa
open Go.RowKit
attribute [local go_sem] app_two ext_take ext_drop

attribute [local go_sem] at_str

theorem step256 (v b : Nat) (hv : v ≤ 4294967295) (hb : b < 256) : wrap64 (256 * (v : Int) + wrap64 (b : Int)) = ((v * 256 + b : Nat) : Int) := by
  rw [IntWalk.wrap64_in (b : Int) ⟨by omega, by omega⟩, IntWalk.wrap64_in _ ⟨by omega, by omega⟩]
  omega

/-- What GetNumber leaves. -/
def GNPost (w : World) (o : Option (Nat × List UInt8)) (e : Ending) (w' : World) : Prop :=
  Below w.heap.size w w' ∧ (match o with
      | none => e = .returned (.tuple #[.int .i64 0, .string ⟨#[]⟩, .bool false])
      | some (n, r) => e = .returned (.tuple #[.int .i64 n, .string ⟨r.toArray⟩, .bool true]))

theorem cmp_at (s : List UInt8) (hs0 : 0 < s.length) (hle : 1 + s[0].toNat ≤ s.length) :
    (numB (valB ((s.drop 1).take s[0].toNat)) == s.take (1 + s[0].toNat)) = decide (wid (valB ((s.drop 1).take s[0].toNat)) = s[0].toNat) := by
  cases s with
  | nil => simp at hs0
  | cons h t =>
    simp only [List.getElem_cons_zero, List.length_cons] at hle
    simp only [List.getElem_cons_zero, List.drop_succ_cons, List.drop_zero]
    rw [Nat.add_comm 1, List.take_succ_cons]
    have hl : (t.take h.toNat).length = h.toNat := by rw [List.length_take]; omega
    generalize hd : t.take h.toNat = d at *
    by_cases hw : wid (valB d) = h.toNat
    · have e : numB (valB d) = h :: d := by rw [numB, digs, hw, digs_valB _ _ hl]; simp
      rw [e]
      simp [hw]
    · have e : numB (valB d) ≠ h :: d := by
        intro e
        simp only [numB, List.cons.injEq] at e
        have h1 := congrArg UInt8.toNat e.1
        have h2 := wid_le (valB d)
        simp at h1
        omega
      simp [hw, e]

theorem getN_at (s : List UInt8) (hs0 : 0 < s.length) (h5 : s[0].toNat ≤ 4) (hle : 1 + s[0].toNat ≤ s.length) :
    getN s = if wid (valB ((s.drop 1).take s[0].toNat)) = s[0].toNat then some (valB ((s.drop 1).take s[0].toNat), (s.drop 1).drop s[0].toNat) else none := by
  cases s with
  | nil => simp at hs0
  | cons h t =>
    simp only [List.getElem_cons_zero, List.length_cons] at h5 hle
    simp only [List.getElem_cons_zero, List.drop_succ_cons, List.drop_zero]
    by_cases hw : wid (valB (t.take h.toNat)) = h.toNat
    · rw [if_pos hw]; exact getN_ok h5 (by omega) hw
    · rw [if_neg hw]; exact getN_wide h5 (by omega) hw

set_option maxHeartbeats 2000000 in
theorem refGetNumber_ok (s : List UInt8) (hs0 : 0 < s.length) (h5 : s[0].toNat ≤ 4) (hle : 1 + s[0].toNat ≤ s.length) (hm : s.length ≤ 4611686018427387904) (w : World) :
    Calls Try.prog 35 #[.string ⟨s.toArray⟩] w (GNPost w (getN s)) := by
  have hl0 : ((s.length : Int) == 0) = false := by rw [beq_eq_false_iff_ne]; omega
  have hd4 : decide ((4 : Int) < s[0].toNat) = false := by simp; omega
  have hlt : decide ((s.length : Int) < (1 : Int) + (s[0].toNat : Int)) = false := decide_eq_false (by omega)
  go_enter Try.func35, Try.ntmps35
  go_wp2_with fail
  have hgn := getN_at s hs0 h5 hle
  have hcm := cmp_at s hs0 hle
  generalize s[0].toNat = c at *
  have HG := Lib.hid hgn
  have HCM := Lib.hid hcm
  have hd1 : (s.drop 1).length = s.length - 1 := by simp
  generalize hd : s.drop 1 = d at *
  have HD := Lib.hid hd
  have HD1 := Lib.hid hd1
  have hcd : c ≤ d.length := by omega
  have hdi : ∀ j (h1 : j < d.length) (h2 : j + 1 < s.length), s[j + 1] = d[j] := by
    intro j h1 h2
    subst hd
    rw [List.getElem_drop]
    congr 1
    omega
  have HDI := Lib.hid hdi
  clear hgn hd hd1 hdi hcm
  go_loopw [6, 7] (fun v i wr => ∃ j : Nat, j ≤ c ∧ i = .int .i64 (j + 1 : Nat) ∧ v = .int .i64 (valB (d.take j) : Nat) ∧ wr = w) (fun _ i _ => c + 1 - (intOf i).toNat)
  case atStart => exact ⟨0, Nat.zero_le _, rfl, rfl, rfl⟩
  case round =>
    obtain ⟨j, hj, rfl, rfl, rfl⟩ := hrel
    have hvb := valB_small (d.take j) (by rw [List.length_take]; omega)
    by_cases hjl : j < c
    · have hk2 : j < d.length := by omega
      have hk3 : j + 1 < s.length := by have := HD1.out; omega
      have hs := valB_snoc (d.take j) d[j]
      rw [← List.take_succ_eq_append_getElem hk2, ← HDI.out j hk2 hk3] at hs
      have HS := Lib.hid hs
      clear hs
      go_wp2_with fail
      go_roundw
      case rel => exact ⟨j + 1, by omega, by go_num, by rw [HS.out, step256 _ _ hvb (UInt8.toNat_lt _)], trivial⟩
      case measure => simp [intOf]; omega
    · obtain rfl : j = c := by omega
      generalize hn : valB (d.take j) = n at *
      have hb5 : (numB n).length ≤ 5 := by rw [numB_length]; have := wid_le n; omega
      by_cases hw : wid n = j
      · have heq : (numB n == s.take (1 + j)) = true := by rw [HCM.out]; simp [hw]
        rw [if_pos hw] at HG
        clear hw HCM
        have hsum1 : (0 : Int) ≤ 1 + (j : Int) := by omega
        have hsum2 : (1 + (j : Int)) ≤ s.length := by omega
        go_wp2_with (go_at_call 22; refine (refNumber_ok n (by omega) _).mono ?_; rintro e w1 ⟨rfl, hB1⟩)
        go_quiet (fail)
        go_wp2_with fail
        go_ret3
        exact ⟨below_drewN hB1 _, by rw [HG.out, ← HD.out, List.drop_drop]; rfl⟩
      · have heq : (numB n == s.take (1 + j)) = false := by rw [HCM.out]; simp [hw]
        rw [if_neg hw] at HG
        clear hw HCM
        go_wp2_with (go_at_call 22; refine (refNumber_ok n (by omega) _).mono ?_; rintro e w1 ⟨rfl, hB1⟩)
        go_ret3
        exact ⟨hB1, by rw [HG.out]; rfl⟩

set_option maxHeartbeats 2000000 in
theorem refGetNumber_no (s : List UInt8) (hm : s.length ≤ 4611686018427387904) (hno : ∀ hs0 : 0 < s.length, ¬ (s[0].toNat ≤ 4 ∧ 1 + s[0].toNat ≤ s.length)) (w : World) :
    Calls Try.prog 35 #[.string ⟨s.toArray⟩] w fun e w' => e = .returned (.tuple #[.int .i64 0, .string ⟨#[]⟩, .bool false]) ∧ w = w' := by
  by_cases hs0 : 0 < s.length
  · have hn := hno hs0
    clear hno
    have hl0 : ((s.length : Int) == 0) = false := by rw [beq_eq_false_iff_ne]; omega
    by_cases h5 : s[0].toNat ≤ 4
    · have hd4 : decide ((4 : Int) < s[0].toNat) = false := by simp; omega
      have hlt : s.length < 1 + s[0].toNat := by omega
      clear hn
      go_enter Try.func35, Try.ntmps35
      go_wp2_with fail
      go_ret3
      exact ⟨rfl, rfl⟩
    · have hd4 : decide ((4 : Int) < s[0].toNat) = true := by simp; omega
      clear hn h5
      go_enter Try.func35, Try.ntmps35
      go_wp2_with fail
      go_ret3
      exact ⟨rfl, rfl⟩
  · obtain rfl : s = [] := List.eq_nil_of_length_eq_zero (by omega)
    clear hno
    go_enter Try.func35, Try.ntmps35
    go_wp2_with fail
    go_ret3
    exact ⟨rfl, rfl⟩

theorem getN_no (s : List UInt8) (hno : ∀ hs0 : 0 < s.length, ¬ (s[0].toNat ≤ 4 ∧ 1 + s[0].toNat ≤ s.length)) : getN s = none := by
  cases s with
  | nil => rfl
  | cons h t =>
    have h1 := hno (by simp)
    simp only [List.getElem_cons_zero, List.length_cons] at h1
    by_cases h4 : 4 < h.toNat
    · exact getN_big t h4
    · exact getN_short (by omega) (by omega)

theorem refGetNumber_calls (s : List UInt8) (hm : s.length ≤ 4611686018427387904) (w : World) :
    Calls Try.prog 35 #[.string ⟨s.toArray⟩] w (GNPost w (getN s)) := by
  by_cases hs : ∃ hs0 : 0 < s.length, s[0].toNat ≤ 4 ∧ 1 + s[0].toNat ≤ s.length
  · obtain ⟨hs0, h5, hle⟩ := hs
    exact refGetNumber_ok s hs0 h5 hle hm w
  · have hno : ∀ hs0 : 0 < s.length, ¬ (s[0].toNat ≤ 4 ∧ 1 + s[0].toNat ≤ s.length) := fun hs0 h => hs ⟨hs0, h⟩
    refine (refGetNumber_no s hm hno w).mono fun e w' h => ?_
    rw [getN_no s hno]
    exact ⟨by rw [← h.2]; exact Below.refl _ _, h.1⟩

theorem refGetNumber_none (s : List UInt8) (hm : s.length ≤ 4611686018427387904) (h : getN s = none) (w : World) :
    Calls Try.prog 35 #[.string ⟨s.toArray⟩] w fun e w' => e = .returned (.tuple #[.int .i64 0, .string ⟨#[]⟩, .bool false]) ∧ Below w.heap.size w w' :=
  (refGetNumber_calls s hm w).mono fun e w' hp => by rw [h] at hp; exact ⟨hp.2, hp.1⟩
theorem refGetNumber_some (s : List UInt8) (hm : s.length ≤ 4611686018427387904) {n : Nat} {r : List UInt8} (h : getN s = some (n, r)) (w : World) :
    Calls Try.prog 35 #[.string ⟨s.toArray⟩] w fun e w' => e = .returned (.tuple #[.int .i64 n, .string ⟨r.toArray⟩, .bool true]) ∧ Below w.heap.size w w' :=
  (refGetNumber_calls s hm w).mono fun e w' hp => by rw [h] at hp; exact ⟨hp.2, hp.1⟩

end Go.Proofs.Ytijhbnkfkjfcfaa
