/-
  codec.readNumber: the number that the text in the box begins with.
-/
import Derived.Test.YtijhbnkfkjfcfaaTake
import Derived.Test.YtijhbnkfkjfcfaaBits
import Derived.Test.YtijhbnkfkjfcfaaCell
namespace Go.Proofs.Ytijhbnkfkjfcfaa
open Go.RowKit

/-- The closure 'take' over the box Bs. -/
abbrev takeV (Bs : Nat) : Value := .func (.func 48) #[] #[.pointer (some ⟨Bs, 0, none⟩)]

/-- What readNumber leaves: only the box has changed; the number, and what stands behind it in the box; or nothing. -/
def NPost (Bs : Nat) (w : World) (o : Option (Nat × List UInt8)) (e : Ending) (w' : World) : Prop :=
  w.grownBy w' (some Bs) ∧ (match o with
      | none => e = .returned (.tuple #[.int .i64 0, .bool false])
      | some (n, r) => e = .returned (.tuple #[.int .i64 n, .bool true]) ∧ Boxed w' Bs 9 (.string ⟨r.toArray⟩))

theorem idx0 (h : UInt8) (p : 0 < (ByteArray.mk #[h]).size) : (ByteArray.mk #[h])[0]'p = h := rfl

attribute [local go_sem] idx0

set_option maxHeartbeats 2000000 in
theorem readNumber_calls (Bs : Nat) (s : List UInt8) (hm : s.length ≤ 4611686018427387904) (w : World) (hb : Boxed w Bs 9 (.string ⟨s.toArray⟩)) :
    Calls Try.prog 40 #[takeV Bs] w (NPost Bs w (getN s)) := by
  cases s with
  | nil =>
    go_enter Try.func40, Try.ntmps40
    go_wp2_with fail
    refine (take_no Bs 1 [] (by simp) _ hb).mono ?_
    rintro e w' ⟨rfl, rfl⟩
    go_wp2_with fail
    go_ret2
    exact ⟨grown_refl _ _, rfl⟩
  | cons h t =>
    have hl : 1 ≤ (h :: t).length := by simp
    have hbs := hb.set (.string ⟨t.toArray⟩)
    by_cases h4 : 4 < h.toNat
    · have hg := Lib.hid (getN_big t h4)
      go_enter Try.func40, Try.ntmps40
      go_wp2_with fail
      refine (take_ok Bs 1 (h :: t) (by simp) (by simp; omega) _ hb).mono ?_
      rintro e w' ⟨rfl, rfl⟩
      go_wp2_with fail
      go_ret2
      exact ⟨grownBy_setCell' _ _ _, by rw [hg.out]; rfl⟩
    · have h5 : h.toNat ≤ 4 := by omega
      clear h4
      by_cases hlt : t.length < h.toNat
      · have hg := Lib.hid (getN_short h5 hlt)
        go_enter Try.func40, Try.ntmps40
        go_wp2_with fail
        refine (take_ok Bs 1 (h :: t) (by simp) (by simp; omega) _ hb).mono ?_
        rintro e w' ⟨rfl, rfl⟩
        go_wp2_with fail
        refine (take_no Bs h.toNat t (by omega) _ hbs).mono ?_
        rintro e w' ⟨rfl, rfl⟩
        go_wp2_with fail
        go_ret2
        exact ⟨grownBy_setCell' _ _ _, by rw [hg.out]; rfl⟩
      · have hle : h.toNat ≤ t.length := by omega
        have hd4 : decide ((4 : Int) < h.toNat) = false := by simp; omega
        clear hlt
        have hbt := hbs.set (.string ⟨(t.drop h.toNat).toArray⟩)
        go_enter Try.func40, Try.ntmps40
        go_wp2_with fail
        refine (take_ok Bs 1 (h :: t) (by simp) (by simp; omega) _ hb).mono ?_
        rintro e w' ⟨rfl, rfl⟩
        go_wp2_with fail
        refine (take_ok Bs h.toNat t (by omega) (by omega) _ hbs).mono ?_
        rintro e w' ⟨rfl, rfl⟩
        go_wp2_with fail
        generalize hd : t.take h.toNat = d
        have hdl : d.length = h.toNat := by rw [← hd, List.length_take]; omega
        have HD := Lib.hid hd
        have HL := Lib.hid hdl
        have hle4 : d.length ≤ 4 := by omega
        clear hd hdl
        go_loopw [7, 33] (fun v i wr => ∃ k : Nat, k ≤ h.toNat ∧ i = .int .i64 k ∧ v = .int .i64 (valB (d.take k) : Nat) ∧ wr = ((w.setCell ⟨Bs, 0, none⟩ (.string ⟨t.toArray⟩)).setCell ⟨Bs, 0, none⟩ (.string ⟨(t.drop h.toNat).toArray⟩))) (fun _ i _ => h.toNat - (intOf i).toNat)
        case atStart => exact ⟨0, Nat.zero_le _, rfl, rfl, rfl⟩
        case round =>
          obtain ⟨k, hk, rfl, rfl, rfl⟩ := hrel
          by_cases hkl : k < h.toNat
          · have hk2 : k < d.length := by rw [HL.out]; exact hkl
            have hvb := valB_small (d.take k) (by rw [List.length_take]; omega)
            have hs := valB_snoc (d.take k) d[k]
            rw [← List.take_succ_eq_append_getElem hk2] at hs
            have HS := Lib.hid hs
            clear hs
            go_wp2_with fail
            go_roundw
            case rel => exact ⟨k + 1, by omega, by go_num, by rw [HS.out, at_mk d k hk2, or_step _ _ hvb (UInt8.toNat_lt _)], trivial⟩
            case measure => simp [intOf]; omega
          · obtain rfl : k = h.toNat := by omega
            have hall : d.take h.toNat = d := List.take_of_length_le (by rw [HL.out]; exact Nat.le_refl _)
            have hvb := valB_small d hle4
            generalize hn : valB (d.take h.toNat) = n
            rw [hall] at hn
            rw [hn] at hvb
            have HN := Lib.hid hn
            clear hn hall
            by_cases hw : wid n = h.toNat
            · have hne : (((wid n : Nat) : Int) != (d.length : Int)) = false := by simp [hw, HL.out]
              have hg := Lib.hid (getN_ok h5 hle (by rw [HD.out, HN.out]; exact hw))
              have HW := Lib.hid hw
              clear hw
              go_wp2_with (go_at_call 42; refine (width_calls _ _ (by omega) (by omega)).mono ?_; rintro e w' ⟨rfl, rfl⟩)
              go_ret2
              exact ⟨grown_trans (grownBy_setCell' _ _ _) (grownBy_setCell' _ _ _), by rw [hg.out, HD.out, HN.out]; exact ⟨rfl, hbt⟩⟩
            · have hne : (((wid n : Nat) : Int) != (d.length : Int)) = true := by simp [HL.out]; omega
              have hg := Lib.hid (getN_wide h5 hle (by rw [HD.out, HN.out]; exact hw))
              have HW := Lib.hid hw
              clear hw
              go_wp2_with (go_at_call 42; refine (width_calls _ _ (by omega) (by omega)).mono ?_; rintro e w' ⟨rfl, rfl⟩)
              go_ret2
              exact ⟨grown_trans (grownBy_setCell' _ _ _) (grownBy_setCell' _ _ _), by rw [hg.out]; rfl⟩

theorem readNumber_none (Bs : Nat) (s : List UInt8) (hm : s.length ≤ 4611686018427387904) (h : getN s = none) (w : World) (hb : Boxed w Bs 9 (.string ⟨s.toArray⟩)) :
    Calls Try.prog 40 #[takeV Bs] w fun e w' => e = .returned (.tuple #[.int .i64 0, .bool false]) ∧ w.grownBy w' (some Bs) :=
  (readNumber_calls Bs s hm w hb).mono fun e w' hp => by
    rw [h] at hp
    exact ⟨hp.2, hp.1⟩

theorem readNumber_some (Bs : Nat) (s : List UInt8) (hm : s.length ≤ 4611686018427387904) {n : Nat} {r : List UInt8} (h : getN s = some (n, r)) (w : World) (hb : Boxed w Bs 9 (.string ⟨s.toArray⟩)) :
    Calls Try.prog 40 #[takeV Bs] w fun e w' => e = .returned (.tuple #[.int .i64 n, .bool true]) ∧ w.grownBy w' (some Bs) ∧ Boxed w' Bs 9 (.string ⟨r.toArray⟩) :=
  (readNumber_calls Bs s hm w hb).mono fun e w' hp => by
    rw [h] at hp
    exact ⟨hp.2.1, hp.1, hp.2.2⟩

end Go.Proofs.Ytijhbnkfkjfcfaa
