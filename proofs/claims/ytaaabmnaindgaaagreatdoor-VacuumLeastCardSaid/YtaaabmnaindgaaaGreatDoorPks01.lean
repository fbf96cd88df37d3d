/-
  The texts of one folder in one: SpecRow, SpecGet, Math, Math2, Take, Bits, ReadN, GetN, Iter, Add, Lay, Num, RefNum, RefGN.
-/
import Derived.Test.YtaaabmnaindgaaaGreatDoorSpec
import Derived.Laws.Strings
import Derived.Test.YtaaabmnaindgaaaGreatDoorPkbase
import Derived.RangeFuncBox
import Derived.Test.YtaaabmnaindgaaaGreatDoorLen
import Derived.WalkKit
import Derived.Lib.Hide
import Derived.RangeFuncNested
import Derived.RangeFuncBound
import Derived.RangeFuncCalls
import Derived.RangeFuncLeaves
import Derived.Shelf.Abstract
import Derived.Shelf.RegionOpen
import Derived.OwnWalkIn
import Derived.TacticsInMore
import Derived.LoopNIn
import Derived.LoopIn
import Derived.Outline
import Derived.Maps.AppendAt
import Derived.Deep.AppendLies
import Derived.Deep.RegionLaw
import Derived.Deep.DeepCutAuto
import Derived.Laws.IdiomStrings
import Derived.WalkLawsBesides
import Derived.Laws.BytesArg
import Derived.Deep.QuietTactic
import Derived.BigQuiet
import Derived.WalkSmall

/-
  The plain functions of codec.Row: what it answers. No program is named here.
-/
namespace Go.Proofs.YtaaabmnaindgaaaGreatDoor

end Go.Proofs.YtaaabmnaindgaaaGreatDoor

/-
  The plain functions of reading: what bytes begin with. No program is named here.
-/
namespace Go.Proofs.YtaaabmnaindgaaaGreatDoor

/-- The number whose digits to the base 256 these are. -/
def valB (d : List UInt8) : Nat := d.foldl (fun n b => n * 256 + b.toNat) 0

/-- The number that s begins with, and what stands behind it. -/
def getN : List UInt8 → Option (Nat × List UInt8)
  | [] => none
  | h :: t => if 4 < h.toNat then none else if t.length < h.toNat then none else if wid (valB (t.take h.toNat)) = h.toNat then some (valB (t.take h.toNat), t.drop h.toNat) else none

theorem valB_snoc (d : List UInt8) (b : UInt8) : valB (d ++ [b]) = valB d * 256 + b.toNat := by simp [valB]

theorem foldl_lt : ∀ (d : List UInt8) (a : Nat), d.foldl (fun n b => n * 256 + b.toNat) a < (a + 1) * 256 ^ d.length
  | [], a => by simp
  | b :: d, a => by
    have h1 := foldl_lt d (a * 256 + b.toNat)
    have h2 : (a * 256 + b.toNat + 1) * 256 ^ d.length ≤ (a + 1) * 256 * 256 ^ d.length := Nat.mul_le_mul_right _ (by have := b.toNat_lt; omega)
    rw [List.foldl_cons, List.length_cons, Nat.pow_succ, Nat.mul_comm (256 ^ d.length) 256, ← Nat.mul_assoc]
    omega

theorem valB_lt (d : List UInt8) : valB d < 256 ^ d.length := by have := foldl_lt d 0; simpa [valB] using this

theorem valB_small (d : List UInt8) (h : d.length ≤ 4) : valB d ≤ 4294967295 := by
  have h1 := valB_lt d
  have h2 : 256 ^ d.length ≤ 256 ^ 4 := Nat.pow_le_pow_right (by omega) h
  omega

theorem getN_big {h : UInt8} (t : List UInt8) (h4 : 4 < h.toNat) : getN (h :: t) = none := by simp [getN, h4]

theorem getN_short {h : UInt8} {t : List UInt8} (h4 : h.toNat ≤ 4) (hl : t.length < h.toNat) : getN (h :: t) = none := by
  show (if 4 < h.toNat then none else _) = _
  rw [if_neg (by omega), if_pos hl]

theorem getN_wide {h : UInt8} {t : List UInt8} (h4 : h.toNat ≤ 4) (hl : h.toNat ≤ t.length) (hw : wid (valB (t.take h.toNat)) ≠ h.toNat) : getN (h :: t) = none := by
  show (if 4 < h.toNat then none else _) = _
  rw [if_neg (by omega), if_neg (by omega), if_neg hw]

theorem getN_ok {h : UInt8} {t : List UInt8} (h4 : h.toNat ≤ 4) (hl : h.toNat ≤ t.length) (hw : wid (valB (t.take h.toNat)) = h.toNat) : getN (h :: t) = some (valB (t.take h.toNat), t.drop h.toNat) := by
  show (if 4 < h.toNat then none else _) = _
  rw [if_neg (by omega), if_neg (by omega), if_pos hw]

theorem getN_bounds {s : List UInt8} {n : Nat} {r : List UInt8} (h : getN s = some (n, r)) : n ≤ 4294967295 ∧ r.length ≤ s.length := by
  cases s with
  | nil => cases h
  | cons a t =>
    change (if 4 < a.toNat then none else if t.length < a.toNat then none else if wid (valB (t.take a.toNat)) = a.toNat then some (valB (t.take a.toNat), t.drop a.toNat) else none) = _ at h
    by_cases h1 : 4 < a.toNat
    · rw [if_pos h1] at h; cases h
    rw [if_neg h1] at h
    by_cases h2 : t.length < a.toNat
    · rw [if_pos h2] at h; cases h
    rw [if_neg h2] at h
    by_cases h3 : wid (valB (t.take a.toNat)) = a.toNat
    · rw [if_pos h3] at h
      simp only [Option.some.injEq, Prod.mk.injEq] at h
      obtain ⟨rfl, rfl⟩ := h
      exact ⟨valB_small _ (by rw [List.length_take]; omega), by simp; omega⟩
    · rw [if_neg h3] at h; cases h

end Go.Proofs.YtaaabmnaindgaaaGreatDoor

/-
  What follows of the plain functions: what is laid is read, what is read is laid, and greater numbers stand behind. No program is named here.
-/
namespace Go.Proofs.YtaaabmnaindgaaaGreatDoor

theorem digsTo_snoc : ∀ (k n : Nat), digsTo n (k + 1) = digsTo (n / 256) k ++ [UInt8.ofNat n]
  | 0, n => by simp [digsTo]
  | k + 1, n => by
    have ih := digsTo_snoc k n
    rw [digsTo, ih, digsTo, Nat.div_div_eq_div_mul, ← Nat.pow_succ']
    rfl

theorem valB_digs : ∀ (k n : Nat), n < 256 ^ k → valB (digsTo n k) = n
  | 0, n, h => by simp at h; subst h; rfl
  | k + 1, n, h => by
    rw [digsTo_snoc, valB_snoc, valB_digs k (n / 256) (by rw [Nat.pow_succ] at h; omega)]
    simp
    omega

theorem wid_pow (n : Nat) (h : n ≤ 4294967295) : n < 256 ^ wid n := by
  unfold wid
  split
  · simp; omega
  split
  · omega
  split
  · omega
  split
  · omega
  · omega

end Go.Proofs.YtaaabmnaindgaaaGreatDoor

/-
  What is laid is read, whatever stands behind; what is read is laid as it was. No program is named here.
-/
namespace Go.Proofs.YtaaabmnaindgaaaGreatDoor

theorem digs_valB : ∀ (k : Nat) (d : List UInt8), d.length = k → digsTo (valB d) k = d
  | 0, d, h => by rw [List.eq_nil_of_length_eq_zero h]; rfl
  | k + 1, d, h => by
    have hne : d ≠ [] := by intro e; subst e; simp at h
    obtain ⟨d', b, rfl⟩ : ∃ d' b, d = d' ++ [b] := ⟨d.dropLast, d.getLast hne, (List.dropLast_concat_getLast hne).symm⟩
    have hb := b.toNat_lt
    rw [digsTo_snoc, valB_snoc]
    have e1 : (valB d' * 256 + b.toNat) / 256 = valB d' := by omega
    have e2 : UInt8.ofNat (valB d' * 256 + b.toNat) = b := by
      apply UInt8.toNat_inj.1
      simp
    rw [e1, e2, digs_valB k d' (by simpa using h)]

theorem getN_laid {s r : List UInt8} {n : Nat} (h : getN s = some (n, r)) : s = numB n ++ r ∧ n ≤ 4294967295 := by
  cases s with
  | nil => cases h
  | cons a t =>
    change (if 4 < a.toNat then none else if t.length < a.toNat then none else if wid (valB (t.take a.toNat)) = a.toNat then some (valB (t.take a.toNat), t.drop a.toNat) else none) = _ at h
    by_cases h1 : 4 < a.toNat
    · rw [if_pos h1] at h; cases h
    rw [if_neg h1] at h
    by_cases h2 : t.length < a.toNat
    · rw [if_pos h2] at h; cases h
    rw [if_neg h2] at h
    by_cases h3 : wid (valB (t.take a.toNat)) = a.toNat
    · rw [if_pos h3] at h
      simp only [Option.some.injEq, Prod.mk.injEq] at h
      obtain ⟨rfl, rfl⟩ := h
      refine ⟨?_, valB_small _ (by rw [List.length_take]; omega)⟩
      have hl : (t.take a.toNat).length = a.toNat := by rw [List.length_take]; omega
      rw [numB, digs, h3, digs_valB _ _ hl]
      simp
    · rw [if_neg h3] at h; cases h

theorem laid_getN (n : Nat) (hn : n ≤ 4294967295) (r : List UInt8) : getN (numB n ++ r) = some (n, r) := by
  have hw := wid_le n
  have ha : (UInt8.ofNat (wid n)).toNat = wid n := by simp; omega
  have hd := digs_length n
  have ht : (digs n ++ r).take (wid n) = digs n := by rw [← hd, List.take_left]
  have hr : (digs n ++ r).drop (wid n) = r := by rw [← hd, List.drop_left]
  have hv : valB (digs n) = n := valB_digs _ _ (wid_pow n hn)
  change (if 4 < (UInt8.ofNat (wid n)).toNat then none else if (digs n ++ r).length < (UInt8.ofNat (wid n)).toNat then none else if wid (valB ((digs n ++ r).take (UInt8.ofNat (wid n)).toNat)) = (UInt8.ofNat (wid n)).toNat then some (valB ((digs n ++ r).take (UInt8.ofNat (wid n)).toNat), (digs n ++ r).drop (UInt8.ofNat (wid n)).toNat) else none) = _
  rw [ha, if_neg (by omega), if_neg (by rw [List.length_append]; omega), ht, hr, hv, if_pos rfl]

end Go.Proofs.YtaaabmnaindgaaaGreatDoor

/-
  codec.open and its two closures.
-/
namespace Go.Proofs.YtaaabmnaindgaaaGreatDoor
open Go.RowKit

set_option maxHeartbeats 1000000 in
theorem open_calls (s : List UInt8) (w : World) :
    Calls Tryz.prog 151 #[.string ⟨s.toArray⟩] w fun e w' => e = .returned (.tuple #[.func (.func 165) #[] #[.pointer (some ⟨w.heap.size, 0, none⟩)], .func (.func 166) #[] #[.pointer (some ⟨w.heap.size, 0, none⟩)]]) ∧ w' = w.alloc (.cells #[.string ⟨s.toArray⟩] 9) := by
  go_enter Tryz.func151, Tryz.ntmps151
  go_wp2
  go_ret2
  exact ⟨rfl, rfl⟩

set_option maxHeartbeats 1000000 in
theorem take_ok (Bs : Nat) (n : Int) (s : List UInt8) (h0 : 0 ≤ n) (hn : n ≤ s.length) (w : World) (hb : Boxed w Bs 9 (.string ⟨s.toArray⟩)) :
    Calls Tryz.prog 165 #[.int .i64 n, .pointer (some ⟨Bs, 0, none⟩)] w fun e w' => e = .returned (.tuple #[.string ⟨(s.take n.toNat).toArray⟩, .bool true]) ∧ w' = w.setCell ⟨Bs, 0, none⟩ (.string ⟨(s.drop n.toNat).toArray⟩) := by
  obtain ⟨n, rfl⟩ := Int.eq_ofNat_of_zero_le h0
  rw [Int.toNat_natCast]
  have hc := hb.cell
  have hf := hb.frozen
  go_enter Tryz.func165, Tryz.ntmps165
  go_wp2
  go_ret2
  exact ⟨by rw [← ext_take]; rfl, by rw [ext_drop]⟩

set_option maxHeartbeats 1000000 in
theorem take_no (Bs : Nat) (n : Int) (s : List UInt8) (hn : s.length < n) (w : World) (hb : Boxed w Bs 9 (.string ⟨s.toArray⟩)) :
    Calls Tryz.prog 165 #[.int .i64 n, .pointer (some ⟨Bs, 0, none⟩)] w fun e w' => e = .returned (.tuple #[.string ⟨#[]⟩, .bool false]) ∧ w = w' := by
  have hc := hb.cell
  go_enter Tryz.func165, Tryz.ntmps165
  go_wp2
  go_ret2
  exact ⟨rfl, rfl⟩

set_option maxHeartbeats 1000000 in
theorem rest_calls (Bs : Nat) (s : List UInt8) (w : World) (hb : Boxed w Bs 9 (.string ⟨s.toArray⟩)) :
    Calls Tryz.prog 166 #[.pointer (some ⟨Bs, 0, none⟩)] w fun e w' => e = .returned (.string ⟨s.toArray⟩) ∧ w = w' := by
  have hc := hb.cell
  go_enter Tryz.func166, Tryz.ntmps166
  go_wp2
  go_ret
  exact ⟨rfl, rfl⟩

end Go.Proofs.YtaaabmnaindgaaaGreatDoor

/-
  The contracts of bits.Len and codec.width, at numbers below 2^32.
-/
namespace Go.Proofs.YtaaabmnaindgaaaGreatDoor
open Go.RowKit

theorem ret_int {k : IntKind} {a b : Int} (h : a = b) : Ending.returned (.int k a) = .returned (.int k b) := by rw [h]

set_option maxHeartbeats 400000 in
theorem len_calls (x : Int) (w : World) (h0 : 0 ≤ x) (h1 : x ≤ 4294967295) :
    Calls Tryz.prog 167 #[.int .u64 x] w fun e w' => e = .returned (.int .i64 (Lib.bitLen x.toNat)) ∧ w = w' := by
  go_enter Tryz.func167, Tryz.ntmps167
  go_wp2_with (go_at_call 177; refine (len64_calls _ _ (by omega) (by omega)).mono ?_; rintro e w' ⟨rfl, rfl⟩)
  go_ret
  exact ⟨rfl, rfl⟩

set_option maxHeartbeats 400000 in
theorem width_calls (n : Int) (w : World) (h0 : 0 ≤ n) (h1 : n ≤ 4294967295) :
    Calls Tryz.prog 152 #[.int .i64 n] w fun e w' => e = .returned (.int .i64 (wid n.toNat : Nat)) ∧ w = w' := by
  have hw := wid_bits n.toNat (by omega)
  have hb : Lib.bitLen n.toNat ≤ 64 := by have := wid_le n.toNat; omega
  have HW := Lib.hid hw
  clear hw
  go_enter Tryz.func152, Tryz.ntmps152
  go_wp2_with (go_at_call 167; refine (len_calls _ _ (by omega) (by omega)).mono ?_; rintro e w' ⟨rfl, rfl⟩)
  go_ret
  exact ⟨ret_int (by rw [← HW.out]; omega), rfl⟩

end Go.Proofs.YtaaabmnaindgaaaGreatDoor

/-
  codec.readNumber: the number that the text in the box begins with.
-/
namespace Go.Proofs.YtaaabmnaindgaaaGreatDoor
open Go.RowKit

/-- The closure 'take' over the box Bs. -/
abbrev takeV (Bs : Nat) : Value := .func (.func 165) #[] #[.pointer (some ⟨Bs, 0, none⟩)]

/-- What readNumber leaves: only the box has changed; the number, and what stands behind it in the box; or nothing. -/
def NPost (Bs : Nat) (w : World) (o : Option (Nat × List UInt8)) (e : Ending) (w' : World) : Prop :=
  w.grownBy w' (some Bs) ∧ (match o with
      | none => e = .returned (.tuple #[.int .i64 0, .bool false])
      | some (n, r) => e = .returned (.tuple #[.int .i64 n, .bool true]) ∧ Boxed w' Bs 9 (.string ⟨r.toArray⟩))

theorem idx0 (h : UInt8) (p : 0 < (ByteArray.mk #[h]).size) : (ByteArray.mk #[h])[0]'p = h := rfl

attribute [local go_sem] idx0

set_option maxHeartbeats 2000000 in
theorem readNumber_calls (Bs : Nat) (s : List UInt8) (hm : s.length ≤ 4611686018427387904) (w : World) (hb : Boxed w Bs 9 (.string ⟨s.toArray⟩)) :
    Calls Tryz.prog 132 #[takeV Bs] w (NPost Bs w (getN s)) := by
  cases s with
  | nil =>
    go_enter Tryz.func132, Tryz.ntmps132
    go_wp2_with fail
    refine (take_no Bs 1 [] (by simp) _ hb).mono ?_
    rintro e w' ⟨rfl, rfl⟩
    go_wp2_with fail
    go_ret2
    exact ⟨grown_refl _ _, rfl⟩
  | cons h t =>
    have hl : 1 ≤ (h :: t).length := by simp
    have hbs := hb.set (.string ⟨t.toArray⟩)
    by_cases h4 : 4 < h.toNat
    · have hg := Lib.hid (getN_big t h4)
      go_enter Tryz.func132, Tryz.ntmps132
      go_wp2_with fail
      refine (take_ok Bs 1 (h :: t) (by simp) (by simp; omega) _ hb).mono ?_
      rintro e w' ⟨rfl, rfl⟩
      go_wp2_with fail
      go_ret2
      exact ⟨grownBy_setCell' _ _ _, by rw [hg.out]; rfl⟩
    · have h5 : h.toNat ≤ 4 := by omega
      clear h4
      by_cases hlt : t.length < h.toNat
      · have hg := Lib.hid (getN_short h5 hlt)
        go_enter Tryz.func132, Tryz.ntmps132
        go_wp2_with fail
        refine (take_ok Bs 1 (h :: t) (by simp) (by simp; omega) _ hb).mono ?_
        rintro e w' ⟨rfl, rfl⟩
        go_wp2_with fail
        refine (take_no Bs h.toNat t (by omega) _ hbs).mono ?_
        rintro e w' ⟨rfl, rfl⟩
        go_wp2_with fail
        go_ret2
        exact ⟨grownBy_setCell' _ _ _, by rw [hg.out]; rfl⟩
      · have hle : h.toNat ≤ t.length := by omega
        have hd4 : decide ((4 : Int) < h.toNat) = false := by simp; omega
        clear hlt
        have hbt := hbs.set (.string ⟨(t.drop h.toNat).toArray⟩)
        go_enter Tryz.func132, Tryz.ntmps132
        go_wp2_with fail
        refine (take_ok Bs 1 (h :: t) (by simp) (by simp; omega) _ hb).mono ?_
        rintro e w' ⟨rfl, rfl⟩
        go_wp2_with fail
        refine (take_ok Bs h.toNat t (by omega) (by omega) _ hbs).mono ?_
        rintro e w' ⟨rfl, rfl⟩
        go_wp2_with fail
        generalize hd : t.take h.toNat = d
        have hdl : d.length = h.toNat := by rw [← hd, List.length_take]; omega
        have HD := Lib.hid hd
        have HL := Lib.hid hdl
        have hle4 : d.length ≤ 4 := by omega
        clear hd hdl
        go_loopw [7, 33] (fun v i wr => ∃ k : Nat, k ≤ h.toNat ∧ i = .int .i64 k ∧ v = .int .i64 (valB (d.take k) : Nat) ∧ wr = ((w.setCell ⟨Bs, 0, none⟩ (.string ⟨t.toArray⟩)).setCell ⟨Bs, 0, none⟩ (.string ⟨(t.drop h.toNat).toArray⟩))) (fun _ i _ => h.toNat - (intOf i).toNat)
        case atStart => exact ⟨0, Nat.zero_le _, rfl, rfl, rfl⟩
        case round =>
          obtain ⟨k, hk, rfl, rfl, rfl⟩ := hrel
          by_cases hkl : k < h.toNat
          · have hk2 : k < d.length := by rw [HL.out]; exact hkl
            have hvb := valB_small (d.take k) (by rw [List.length_take]; omega)
            have hs := valB_snoc (d.take k) d[k]
            rw [← List.take_succ_eq_append_getElem hk2] at hs
            have HS := Lib.hid hs
            clear hs
            go_wp2_with fail
            go_roundw
            case rel => exact ⟨k + 1, by omega, by go_num, by rw [HS.out, at_mk d k hk2, or_step _ _ hvb (UInt8.toNat_lt _)], trivial⟩
            case measure => simp [intOf]; omega
          · obtain rfl : k = h.toNat := by omega
            have hall : d.take h.toNat = d := List.take_of_length_le (by rw [HL.out]; exact Nat.le_refl _)
            have hvb := valB_small d hle4
            generalize hn : valB (d.take h.toNat) = n
            rw [hall] at hn
            rw [hn] at hvb
            have HN := Lib.hid hn
            clear hn hall
            by_cases hw : wid n = h.toNat
            · have hne : (((wid n : Nat) : Int) != (d.length : Int)) = false := by simp [hw, HL.out]
              have hg := Lib.hid (getN_ok h5 hle (by rw [HD.out, HN.out]; exact hw))
              have HW := Lib.hid hw
              clear hw
              go_wp2_with (go_at_call 152; refine (width_calls _ _ (by omega) (by omega)).mono ?_; rintro e w' ⟨rfl, rfl⟩)
              go_ret2
              exact ⟨grown_trans (grownBy_setCell' _ _ _) (grownBy_setCell' _ _ _), by rw [hg.out, HD.out, HN.out]; exact ⟨rfl, hbt⟩⟩
            · have hne : (((wid n : Nat) : Int) != (d.length : Int)) = true := by simp [HL.out]; omega
              have hg := Lib.hid (getN_wide h5 hle (by rw [HD.out, HN.out]; exact hw))
              have HW := Lib.hid hw
              clear hw
              go_wp2_with (go_at_call 152; refine (width_calls _ _ (by omega) (by omega)).mono ?_; rintro e w' ⟨rfl, rfl⟩)
              go_ret2
              exact ⟨grown_trans (grownBy_setCell' _ _ _) (grownBy_setCell' _ _ _), by rw [hg.out]; rfl⟩

theorem readNumber_none (Bs : Nat) (s : List UInt8) (hm : s.length ≤ 4611686018427387904) (h : getN s = none) (w : World) (hb : Boxed w Bs 9 (.string ⟨s.toArray⟩)) :
    Calls Tryz.prog 132 #[takeV Bs] w fun e w' => e = .returned (.tuple #[.int .i64 0, .bool false]) ∧ w.grownBy w' (some Bs) :=
  (readNumber_calls Bs s hm w hb).mono fun e w' hp => by
    rw [h] at hp
    exact ⟨hp.2, hp.1⟩

theorem readNumber_some (Bs : Nat) (s : List UInt8) (hm : s.length ≤ 4611686018427387904) {n : Nat} {r : List UInt8} (h : getN s = some (n, r)) (w : World) (hb : Boxed w Bs 9 (.string ⟨s.toArray⟩)) :
    Calls Tryz.prog 132 #[takeV Bs] w fun e w' => e = .returned (.tuple #[.int .i64 n, .bool true]) ∧ w.grownBy w' (some Bs) ∧ Boxed w' Bs 9 (.string ⟨r.toArray⟩) :=
  (readNumber_calls Bs s hm w hb).mono fun e w' hp => by
    rw [h] at hp
    exact ⟨hp.2.1, hp.1, hp.2.2⟩

end Go.Proofs.YtaaabmnaindgaaaGreatDoor

/-
  codec.GetNumber: the number that bytes begin with.
-/
namespace Go.Proofs.YtaaabmnaindgaaaGreatDoor
open Go.RowKit

set_option maxHeartbeats 1000000 in
theorem getNumber_none (s : List UInt8) (hm : s.length ≤ 4611686018427387904) (h : getN s = none) (w : World) :
    Calls Tryz.prog 131 #[.string ⟨s.toArray⟩, .func (.func 132) #[] #[]] w fun e w' => e = .returned (.tuple #[.int .i64 0, .string ⟨#[]⟩, .bool false]) ∧ Below w.heap.size w w' := by
  have H := Lib.hid h
  clear h
  have hb := Boxed.new w 9 (.string ⟨s.toArray⟩)
  go_enter Tryz.func131, Tryz.ntmps131
  go_wp2_with (first | (go_at_call 151; refine (open_calls s _).mono ?_; rintro e w1 ⟨rfl, rfl⟩) | (go_at_call 132; refine (readNumber_none w.heap.size s hm H.out _ hb).mono ?_; rintro e w2 ⟨rfl, hg2⟩))
  go_ret3
  exact ⟨rfl, below_box hg2⟩

set_option maxHeartbeats 1000000 in
theorem GetNumber_none (s : List UInt8) (hm : s.length ≤ 4611686018427387904) (h : getN s = none) (w : World) :
    Calls Tryz.prog 110 #[.string ⟨s.toArray⟩] w fun e w' => e = .returned (.tuple #[.int .i64 0, .string ⟨#[]⟩, .bool false]) ∧ Below w.heap.size w w' := by
  have H := Lib.hid h
  clear h
  go_enter Tryz.func110, Tryz.ntmps110
  go_wp2_with (go_at_call 131; refine (getNumber_none s hm H.out _).mono ?_; rintro e w1 ⟨rfl, hB⟩)
  go_ret3
  exact ⟨rfl, hB⟩

set_option maxHeartbeats 1000000 in
theorem getNumber_some (s : List UInt8) (hm : s.length ≤ 4611686018427387904) {n : Nat} {r : List UInt8} (h : getN s = some (n, r)) (w : World) :
    Calls Tryz.prog 131 #[.string ⟨s.toArray⟩, .func (.func 132) #[] #[]] w fun e w' => e = .returned (.tuple #[.int .i64 n, .string ⟨r.toArray⟩, .bool true]) ∧ Below w.heap.size w w' := by
  have H := Lib.hid h
  clear h
  have hb := Boxed.new w 9 (.string ⟨s.toArray⟩)
  go_enter Tryz.func131, Tryz.ntmps131
  go_wp2_with (first | (go_at_call 151; refine (open_calls s _).mono ?_; rintro e w1 ⟨rfl, rfl⟩) | (go_at_call 132; refine (readNumber_some w.heap.size s hm H.out _ hb).mono ?_; rintro e w2 ⟨rfl, hg2, hb2⟩) | (go_at_call 166; refine (rest_calls w.heap.size r _ hb2).mono ?_; rintro e w3 ⟨rfl, rfl⟩))
  go_ret3
  exact ⟨rfl, below_box hg2⟩

set_option maxHeartbeats 1000000 in
theorem GetNumber_some (s : List UInt8) (hm : s.length ≤ 4611686018427387904) {n : Nat} {r : List UInt8} (h : getN s = some (n, r)) (w : World) :
    Calls Tryz.prog 110 #[.string ⟨s.toArray⟩] w fun e w' => e = .returned (.tuple #[.int .i64 n, .string ⟨r.toArray⟩, .bool true]) ∧ Below w.heap.size w w' := by
  have H := Lib.hid h
  clear h
  go_enter Tryz.func110, Tryz.ntmps110
  go_wp2_with (go_at_call 131; refine (getNumber_some s hm H.out _).mono ?_; rintro e w1 ⟨rfl, hB⟩)
  go_ret3
  exact ⟨rfl, hB⟩

end Go.Proofs.YtaaabmnaindgaaaGreatDoor

/-
  codec.fromHighest: the iterator hands on the bytes of a number, the highest first.
-/
namespace Go.Proofs.YtaaabmnaindgaaaGreatDoor
open Go.RowKit Go.Shelf
attribute [local go_sem] Oper.semAt_some

/-- What a round keeps for the iterator: the box of the number. -/
def KeepsBox (Bn : Nat) (W W' : World) : Prop := W'.heap[Bn]? = W.heap[Bn]?
theorem keepsBox_t {Bn : Nat} {A B C : World} (h : KeepsBox Bn A B) (k : KeepsBox Bn B C) : KeepsBox Bn A C := Eq.trans k h
theorem keepsBox_b {Bn : Nat} {w : World} (hn : Bn < w.heap.size) (W : World) (l : Nat) (o o' : Obj) (hl : w.heap.size ≤ l) (_ : W.heap[l]? = some o) (_ : o.isCells = false) (_ : o.isWalk = false) : KeepsBox Bn W (W.putObj l o') :=
  World.putObj_heap_other (by omega)

theorem byte_shift (x k : Nat) : ((UInt8.ofNat (x / 256 ^ k)).toNat : Int) = (x : Int) / 2 ^ (8 * k) % 256 := by
  have e : (256 : Nat) ^ k = 2 ^ (8 * k) := by rw [Nat.pow_mul]
  rw [e]
  simp

set_option maxRecDepth 100000 in
set_option maxHeartbeats 1000000 in
theorem highest_in (n : Nat) (hn : 2 ≤ n) (l Bn : Nat) (x : Nat) (hx : x ≤ 4294967295) (J Jx : List UInt8 → World → Prop)
    (hY : ∀ pre b W, J pre W → pre.length < wid x → YieldAt Fence.wide (n - 1) Tryz.prog l #[.int .u8 (b.toNat : Int)] W fun e W' =>
      (e = .returned (.bool true) ∧ J (pre ++ [b]) W' ∧ KeepsBox Bn W W') ∨ (e = .returned (.bool false) ∧ Jx (pre ++ [b]) W'))
    (W : World) (hBn : Boxed W Bn 3 (.int .i64 x)) (h0 : J [] W) :
    CallsIn Fence.wide n Tryz.prog 170 #[.func (.yield l) #[] #[], .pointer (some ⟨Bn, 0, none⟩)] W fun e W' => (∃ v, e = .returned v) ∧
      ((∃ ys, ys = digs x ∧ J ys W') ∨ (∃ pre, pre <+: digs x ∧ Jx pre W')) := by
  have hc0 := hBn.cell
  have hfw : ∀ f, Fence.wide.fn f := fun _ => trivial
  have hn1 : 1 ≤ n := by omega
  have hwl := wid_le x
  refine callsIn_of_wp Tryz.func170 rfl trivial ?_ rfl
  simp only [Tryz.ntmps170, List.size_toArray, List.length_cons, List.length_nil, Nat.reduceAdd, Nat.reduceSub, Array.replicate_succ, Array.replicate_zero, List.push_toArray, List.append_toArray, List.nil_append, List.cons_append]
  gi_wp2_with (gi_at_call 152; refine (callsIn_wide.2 (width_calls _ _ (by omega) (by omega))).mono ?_; rintro e w' ⟨rfl, rfl⟩)
  go_outline
  gi_loopw [3] (fun p wr => ∃ (pre : List UInt8) (k : Nat), p = .int .i64 ((k : Int) - 1) ∧ k ≤ wid x ∧ pre ++ digsTo x k = digs x ∧ Boxed wr Bn 3 (.int .i64 x) ∧ J pre wr)
    (fun p _ => (intOf p + 1).toNat)
  case atStart =>
    exact ⟨[], wid x, rfl, Nat.le_refl _, rfl, hBn, h0⟩
  case round =>
    obtain ⟨pre, k, rfl, hk, hp, hb, hJs⟩ := hrel
    have hc := hb.cell
    have HP := Lib.hid hp
    clear hp
    cases k with
    | zero =>
      gi_wp2
      go_end0
      exact ⟨⟨_, rfl⟩, .inl ⟨pre, by simpa [digsTo] using HP.out, hJs⟩⟩
    | succ k =>
      have hlt : pre.length < wid x := by
        have := congrArg List.length HP.out
        simp [digsTo_length, digs_length] at this
        omega
      obtain ⟨fn, tmps, assign, body, hy, hR⟩ := hY pre (UInt8.ofNat (x / 256 ^ k)) wr hJs hlt
      clear hY
      rw [byte_shift] at hy
      have hk4 : k ≤ 3 := by omega
      gi_wp2
      refine hR.mono ?_
      rintro e W3 (⟨rfl, hJ3, hk3⟩ | ⟨rfl, hJx3⟩)
      · gi_wp2
        go_roundw
        case rel => exact ⟨pre ++ [UInt8.ofNat (x / 256 ^ k)], k, by go_num, by omega, by rw [← HP.out, digsTo]; simp, Eq.trans hk3 hb, hJ3⟩
        case measure => simp [intOf]
      · gi_wp2
        refine bodyPost_ret (results_none rfl _ _ _) rfl ?_
        exact ⟨⟨_, rfl⟩, .inr ⟨_, ⟨digsTo x k, by rw [← HP.out, digsTo]; simp⟩, hJx3⟩⟩

set_option maxHeartbeats 1000000 in
theorem fromHighest_in (n : Nat) (x : Int) (w : World) :
    CallsIn Fence.wide n Tryz.prog 157 #[.int .i64 x] w fun e w' => e = .returned (.func (.func 170) #[] #[.pointer (some ⟨w.heap.size, 0, none⟩)]) ∧ w' = w.alloc (.cells #[.int .i64 x] 3) := by
  refine callsIn_of_wp Tryz.func157 rfl trivial ?_ rfl
  simp only [Tryz.ntmps157, List.size_toArray, List.length_cons, List.length_nil, Nat.reduceAdd, Nat.reduceSub, Array.replicate_succ, Array.replicate_zero, List.push_toArray, List.append_toArray, List.nil_append, List.cons_append]
  gi_wp2
  go_ret
  exact ⟨rfl, rfl⟩

theorem highest_stops (n : Nat) (hn : 2 ≤ n) (Bn x : Nat) (hx : x ≤ 4294967295) (w : World) (hb : Boxed w Bn 3 (.int .i64 x)) :
    SeqStopsK Fence.wide n Tryz.prog 170 #[.pointer (some ⟨Bn, 0, none⟩)] (fun b : UInt8 => #[Value.int .u8 (b.toNat : Int)]) (KeepsBox Bn) (fun ys => ys = digs x) (fun pre => pre <+: digs x) (wid x) w := fun l J Jx W hW _ _ hY h0 =>
  highest_in n hn l Bn x hx J Jx hY W ((hW.block Bn hb.lt).trans hb) h0

end Go.Proofs.YtaaabmnaindgaaaGreatDoor

/-
  codec.addNumber: the number's bytes are appended to a row of the call's own.
-/
namespace Go.Proofs.YtaaabmnaindgaaaGreatDoor
open Go.RowKit Go.Shelf
attribute [local go_sem] Oper.semAt_some

/-- A byte as a cell. -/
def B8 (b : UInt8) : Value := .int .u8 (b.toNat : Int)
/-- The slice v owns just these bytes, in blocks from base on. -/
def Owns (w : World) (base : Nat) (v : Value) (bs : List UInt8) : Prop := w.ownsRow base 5 1 v bs.length (bs.map B8)

theorem info8 : (Tryz.prog.info? 5).map (fun i => (i.zero, i.size, i.bytes)) = some (some (.int .u8 0), 1, 1) := by kernel_rfl

theorem news_at (w : World) (o : Obj) (y : Value) (t : TypeId) : ∀ j u, [y][j]? = some u → ((w.alloc o).alloc (.cells #[y] t)).drew.cell? ((⟨w.heap.size + 1, 0, none⟩ : Addr).add j) = some u := by
  intro j u hu
  have h := cell_one_new (w.alloc o) y t j u hu
  rw [World.size_alloc] at h
  exact h

theorem wp_noPanic {P : Program} {c : Code} {K : Act → World → Prop} {Q : Exit → Act → World → Prop} {a : Act} {w : World} (h : c.wp P (Exit.then K (fun _ _ _ => False)) a w) : c.wp P (Exit.then K Q) a w :=
  wp_mono h (by intro e a w; cases e <;> simp [Exit.then])

theorem box_kept {w : World} {base : Nat} {v : Value} {bs : List UInt8} (hown : Owns w base v bs) (t : TypeId) (ht : t ≠ 5) {o1 : Obj} {w1 : World} (hg : ((w.alloc (.cells #[v] t)).alloc o1).drew.grownBy w1 v.ownBlock) : Boxed w1 w.heap.size t v := by
  have hb : Boxed ((w.alloc (.cells #[v] t)).alloc o1).drew w.heap.size t v := (Boxed.new w t v).alloc o1
  exact hb.kept hg ((Boxed.new w t v).not_row ht (World.ownsRow.alloc hown _))

theorem Owns.shape {w : World} {base : Nat} {v : Value} {bs : List UInt8} (h : Owns w base v bs) : ∃ va vl vc, v = .slice va vl vc := by
  rcases h.2 with ⟨rfl, _⟩ | ⟨g, cap, cur, rfl, _⟩
  · exact ⟨_, _, _, rfl⟩
  · exact ⟨_, _, _, rfl⟩

theorem wrap8_byte (k : Nat) (h : k < 256) : Value.int .u8 (IntKind.u8.wrap (k : Int)) = B8 (UInt8.ofNat k) := by
  have e : IntKind.u8.wrap (k : Int) = (k : Int) := by simp [IntKind.wrap, IntKind.bits, IntKind.signed]; omega
  rw [e, B8]
  congr 1
  simp
  omega

theorem add_first {w : World} {base : Nat} {v : Value} {bs : List UInt8} (hown : Owns w base v bs) (hbase : base ≤ w.heap.size) (k : Nat) (hk : k < 256) {v' : Value} {w1 : World} {o1 : Obj}
    (hown' : w1.ownsRow base 5 1 v' (bs.length + 1) (bs.map B8 ++ [Value.int .u8 (IntKind.u8.wrap (k : Int))]))
    (hg : ((w.alloc (.cells #[v] 185)).alloc o1).drew.grownBy w1 v.ownBlock) (hb : Boxed w1 w.heap.size 185 v) :
    ∃ v1, Boxed (w1.setCell ⟨w.heap.size, 0, none⟩ v') w.heap.size 185 v1 ∧ Owns (w1.setCell ⟨w.heap.size, 0, none⟩ v') base v1 (bs ++ [UInt8.ofNat k]) ∧ Below base w (w1.setCell ⟨w.heap.size, 0, none⟩ v') := by
  refine ⟨v', hb.set v', ?_, ?_⟩
  · have h := hown'.kept (grownBy_setCell' w1 w.heap.size v') (.inr (hb.not_row (by decide) hown').symm)
    rw [wrap8_byte k hk] at h
    simpa [Owns] using h
  · have h0 : Below base w ((w.alloc (.cells #[v] 185)).alloc o1).drew := (((Below.refl base w).alloc hbase _).alloc (by simp; omega) _).drew
    exact (h0.grown hg (by simp; omega) (fun j e => (hown.lt j e).1)).setCell (p := ⟨w.heap.size, 0, none⟩) hbase _

set_option maxRecDepth 100000 in
set_option maxHeartbeats 2000000 in
theorem addNumber_calls (base : Nat) (v : Value) (bs : List UInt8) (x : Nat) (hx : x ≤ 4294967295) (w : World) (hown : Owns w base v bs) (hbase : base ≤ w.heap.size) (hlen : bs.length ≤ 1099511627776) :
    Calls Tryz.prog 143 #[v, .int .i64 x] w fun e w' => ∃ v', e = .returned v' ∧ Owns w' base v' (bs ++ numB x) ∧ Below base w w' := by
  obtain ⟨i0, hi, hz0, hz1, hz2⟩ := info_parts info8
  obtain ⟨va, vl, vc, rfl⟩ := hown.shape
  have hwl := wid_le x
  refine (callsIn_wide (n := 6)).1 ?_
  refine callsIn_of_wp_marks Tryz.func143 rfl trivial ?_ rfl
  simp only [Tryz.ntmps143, List.size_toArray, List.length_cons, List.length_nil, Nat.reduceAdd, Nat.reduceSub, Array.replicate_succ, Array.replicate_zero, List.push_toArray, List.append_toArray, List.nil_append, List.cons_append]
  refine wpIn_wide.2 ?_
  go_upto_region 1 with fail
  go_cut [11] from 6 to 11 (fun _ wx => ∃ v1, Boxed wx w.heap.size 185 v1 ∧ Owns wx base v1 (bs ++ [UInt8.ofNat (wid x)]) ∧ Below base w wx)
  case first =>
    refine wp_noPanic ?_
    have hbxW := Lib.hid (fun o1 w1 => box_kept (w := w) hown 185 (by decide) (o1 := o1) (w1 := w1))
    have hownW := Lib.hid (fun o1 => World.ownsRow.drew ((World.ownsRow.alloc hown (Obj.cells #[.slice va vl vc] 185)).alloc o1))
    have hnewsW := Lib.hid (news_at w (Obj.cells #[.slice va vl vc] 185) (.int .u8 (IntKind.u8.wrap (wid x : Int))) 5)
    go_region_law (first | (refine step_append_lies _ rfl (.tmp 6) (.tmp 10) 185 rfl base 5 i0 (.int .u8 0) 1 1 Tryz.underlying185 hi hz0 hz1 hz2 rfl (by decide) (.slice va vl vc) bs.length (bs.map B8) (by simp [Act.eval]) (hownW.out _) ⟨w.heap.size + 1, 0, none⟩ 1 1 [.int .u8 (IntKind.u8.wrap (wid x : Int))] (by simp [Act.eval]) rfl hnewsW.out (by simp [Value.oneCell']) (by omega) (by unfold maxLen; omega) (by omega) (by simp; omega) (w.heap.size + 2) (by simp) ?_; intro g cap w1 hown' hgrow hg hlt; have hbx := hbxW.out _ _ hgrow; have hcx := hbx.cell; have hfx := hbx.frozen) | (go_simp; go_at_call 152; refine (width_calls _ _ (by omega) (by omega)).mono ?_; rintro e w' ⟨rfl, rfl⟩))
    all_goals (go_wp2_with fail; go_meet; exact add_first hown hbase (wid x) (by omega) hown' hgrow hbx)
  case rest =>
    obtain ⟨v1, hv1, hown1, hB1⟩ := hcut
    go_wp2_with (go_at_call 157; refine (callsIn_wide.1 (fromHighest_in 5 _ _)).mono ?_; rintro e w' ⟨rfl, rfl⟩)
    have bN := Boxed.new wc 3 (.int .i64 (x : Int))
    have bO := hv1.alloc (.cells #[.int .i64 (x : Int)] 3)
    have hB2 : Below base w (wc.alloc (.cells #[.int .i64 (x : Int)] 3)) := hB1.alloc (Nat.le_trans hbase hB1.size) _
    have hsz : w.heap.size < wc.heap.size := hv1.lt
    refine (wpIn_wide (n := 6)).1 ?_
    refine wpIn_rangeFunc_ownG rfl (by omega) (gf := 170) (lb := #[.pointer (some ⟨wc.heap.size, 0, none⟩)]) rfl trivial (enters_of Tryz.func170 (by kernel_rfl) rfl)
      (highest_stops 5 (by omega) wc.heap.size x hx _ bN) (fun h k => keepsBox_t h k) (keepsBox_b (by simp)) (Below.refl _ _) (fun _ => rfl)
      (fun pre W => ((∃ v, Boxed W w.heap.size 185 v ∧ W.ownsRow base 5 1 v (bs.length + 1 + pre.length) ((bs ++ [UInt8.ofNat (wid x)] ++ pre).map B8) ∧ True) ∧ Boxed W wc.heap.size 3 (.int .i64 (x : Int))) ∧ Below base w W)
      (fun _ _ _ => False)
      (OwnFrom.and (OwnFrom.and (Own.from (holdsRow_own base w.heap.size 185 5 1 (fun pre : List UInt8 => bs.length + 1 + pre.length) (fun pre => (bs ++ [UInt8.ofNat (wid x)] ++ pre).map B8) (fun _ _ => True)) _) (Own.from (boxed_own _ _ _) _)) (ownFrom_below hbase (by simp; omega)))
      (fun _ _ _ _ _ hs _ _ => hs)
      ⟨⟨⟨v1, bO, by simpa [Owns] using World.ownsRow.alloc hown1 _, trivial⟩, bN⟩, hB2⟩
      (fun b => { tmps := #[.slice va vl vc, .int .i64 x, .pointer (some ⟨w.heap.size, 0, none⟩), undef, .slice none 0 0, .int .u8 (b.toNat : Int), u6, u7, u8, u9, u10, u11, .int .i64 x, .func (.func 170) #[] #[.pointer (some ⟨wc.heap.size, 0, none⟩)], .int .u8 (b.toNat : Int), undef, undef, undef, undef, undef], defers := [] }) ?assign ?body ?done ?stop
    case assign =>
      intro l b W K hK
      gi_wp2
      exact hK
    case body =>
      rintro l pre b W ⟨⟨⟨v, hv, hrow, _⟩, hbn⟩, hB⟩ hlt
      have hc := hv.cell
      have hfw : ∀ f, Fence.wide.fn f := fun _ => trivial
      gi_wp2_with (gi_at_builtin; refine wpListIn_append_own _ rfl _ _ 185 rfl base 5 i0 (.int .u8 0) 1 1 Tryz.underlying185 hi hz0 hz1 hz2 rfl (by decide) _ _ _ rfl (hrow.alloc _) ⟨W.heap.size, 0, none⟩ 1 1 [.int .u8 (b.toNat : Int)] rfl rfl (cell_one_new _ _ _) (by simp [Value.oneCell']) (by unfold maxLen; omega) (by omega) (by have := hB.size; simp; omega) ?_; intro v' w1 hown' hgrow _; obtain ⟨g', cap', rfl⟩ := ownsRow_succ hown'; obtain ⟨hv1', hv2, hr2, hk2, hb2⟩ := hv.appended (by decide) hrow (Nat.le_trans hbase hB.size) hbase hown' hgrow; have hc1 := hv1'.cell; have hf1 := hv1'.frozen)
      have hbn1 : Boxed w1 wc.heap.size 3 (.int .i64 (x : Int)) := (hbn.alloc _).kept hgrow (hbn.not_row (by decide) hrow)
      have hbn2 := hbn1.kept (grownBy_setCell' w1 w.heap.size (.slice (some ⟨g', 0, none⟩) (bs.length + 1 + pre.length + 1) cap')) (by simp; omega)
      exact ⟨hk2.from _, Eq.trans hbn2 hbn.symm, ⟨⟨⟨_, hv2, by simpa [B8, ← Nat.add_assoc] using hr2, trivial⟩, hbn2⟩, hB.trans hb2⟩⟩
    case done =>
      rintro D ys W hD rfl ⟨⟨⟨v, hv, hrow, _⟩, hbn⟩, hB⟩ hK
      have hc := hv.cell
      go_wp2
      refine ⟨by simp, .inl ⟨_, _, rfl, run_takeDeferred hK, ?_⟩⟩
      exact ⟨_, results_tmp rfl _ _ _, v, rfl, by simpa [Owns, numB, digs_length, Nat.add_assoc, Nat.add_comm] using ownsRow_putObj hrow _ hK rfl, hB.trans (belowK_b (w := w) hbase W D _ _ (by simp at hD; omega) hK rfl rfl)⟩
    case stop =>
      rintro D c pre W _ _ h _
      exact h.elim

end Go.Proofs.YtaaabmnaindgaaaGreatDoor

/-
  'string(b)' of bytes of the call's own.
-/
namespace Go.Proofs.YtaaabmnaindgaaaGreatDoor
open Go.RowKit

theorem cells_at {w : World} {base : Nat} {g cap : Nat} {bs : List UInt8} (h : Owns w base (.slice (some ⟨g, 0, none⟩) bs.length cap) bs) : ∀ j (hj : j < bs.length), w.cell? ((⟨g, 0, none⟩ : Addr).add j) = some (.int .u8 (bs[j].toNat : Int)) := by
  intro j hj
  refine h.cells (g := g) rfl j _ ?_
  simp [List.getElem?_eq_getElem hj, B8]

/-- 'string(b)' of the bytes that v owns. -/
theorem conv_owns {w : World} {base : Nat} {v : Value} {bs : List UInt8} (h : Owns w base v bs) (hne : bs ≠ []) : (convert 185 9 v).run Tryz.prog w = .ok (.string ⟨bs.toArray⟩) w := by
  rcases h.2 with ⟨_, hn⟩ | ⟨g, cap, cur, rfl, _⟩
  · exact absurd (List.eq_nil_of_length_eq_zero hn) hne
  · exact run_convert_bytes_back w 185 9 5 ⟨g, 0, none⟩ cap bs Tryz.underlying185 Tryz.underlying5 Tryz.underlying9 (cells_at h)

theorem numB_ne (n : Nat) : numB n ≠ [] := by simp [numB]

end Go.Proofs.YtaaabmnaindgaaaGreatDoor

/-
  codec.Number: the bytes of a number, or its refusal.
-/
namespace Go.Proofs.YtaaabmnaindgaaaGreatDoor
open Go.RowKit

set_option maxHeartbeats 1000000 in
theorem number_ok (n : Nat) (h : n ≤ 4294967295) (w : World) :
    Calls Tryz.prog 120 #[.int .i64 n] w fun e w' => e = .returned (.tuple #[.string ⟨(numB n).toArray⟩, .int .i64 0]) ∧ Below w.heap.size w w' := by
  have hne := Lib.hid (numB_ne n)
  go_enter Tryz.func120, Tryz.ntmps120
  go_wp2_with (go_at_call 143; refine (addNumber_calls w.heap.size (.slice none 0 0) [] n h _ (World.ownsRow_nil _ _ _ _) (Nat.le_refl _) (by simp)).mono ?_; rintro e w1 ⟨v1, rfl, hown1, hB1⟩; have hconv := conv_owns hown1 (by simpa using hne.out); rw [List.nil_append] at hconv; clear hown1)
  go_ret2
  exact ⟨rfl, hB1⟩

end Go.Proofs.YtaaabmnaindgaaaGreatDoor

/-
  The document's own Number: the same bytes.
-/
namespace Go.Proofs.YtaaabmnaindgaaaGreatDoor
open Go.RowKit

theorem app_two (a b : List UInt8) : ByteArray.mk a.toArray ++ ByteArray.mk b.toArray = ⟨(a ++ b).toArray⟩ := by
  apply ByteArray.ext
  simp
attribute [local go_sem] app_two

/-- 'string([]byte{x})'. -/
theorem conv_one (W : World) (x : Int) : (convert 185 9 (.slice (some ⟨W.heap.size, 0, none⟩) 1 1)).run Tryz.prog (W.alloc (.cells #[.int .u8 x] 5)) = .ok (.string ⟨[UInt8.ofNat x.toNat].toArray⟩) (W.alloc (.cells #[.int .u8 x] 5)) := by
  have h := run_convert_bytes_arg (P := Tryz.prog) (W.alloc (.cells #[.int .u8 x] 5)) 185 5 Tryz.underlying185 Tryz.underlying5 W.heap.size 0 1 1 [x] rfl (fun i hi => by
    obtain rfl : i = 0 := by omega
    simp) 9 Tryz.underlying9
  rw [h]
  rfl

theorem digsTo_step (n j : Nat) : digsTo n (j + 1) = UInt8.ofNat (n / 256 ^ j) :: digsTo n j := rfl
theorem div_pos_wid {n j : Nat} (hn : n ≤ 4294967295) (hj : j ≤ wid n) : 0 < n / 256 ^ j ↔ j < wid n := by
  have hw := wid_le n
  have hj4 : j ≤ 4 := by omega
  rcases (by omega : j = 0 ∨ j = 1 ∨ j = 2 ∨ j = 3 ∨ j = 4) with rfl | rfl | rfl | rfl | rfl <;> simp only [Nat.reducePow, Nat.div_one] <;> unfold wid at hj ⊢ <;> repeat (first | omega | split at hj | split)
theorem div_next (n j : Nat) : n / 256 ^ j / 256 = n / 256 ^ (j + 1) := by rw [Nat.div_div_eq_div_mul, ← Nat.pow_succ]
theorem byte_low (m : Nat) : UInt8.ofNat (m % 256) = UInt8.ofNat m := by
  apply UInt8.toNat_inj.1
  simp

set_option maxHeartbeats 1000000 in
theorem refNumber_ok (n : Nat) (h : n ≤ 4294967295) (w : World) :
    Calls Tryz.prog 156 #[.int .i64 n] w fun e w' => e = .returned (.tuple #[.string ⟨(numB n).toArray⟩, .int .i64 0]) ∧ Below w.heap.size w w' := by
  have hwl := wid_le n
  have kc := conv_one
  go_enter Tryz.func156, Tryz.ntmps156
  go_wp2_with fail
  go_loopw [0, 4, 5] (fun m o k wr => ∃ j : Nat, j ≤ wid n ∧ m = .int .i64 (n / 256 ^ j : Nat) ∧ o = .string ⟨(digsTo n j).toArray⟩ ∧ k = .int .i64 j ∧ Below w.heap.size w wr) (fun _ _ k _ => wid n - (intOf k).toNat)
  case atStart => exact ⟨0, Nat.zero_le _, by simp, rfl, rfl, Below.refl _ _⟩
  case round =>
    obtain ⟨j, hj, rfl, rfl, rfl, hB⟩ := hrel
    have hdp := div_pos_wid h hj
    have hdn := div_next n j
    have hdl : n / 256 ^ j ≤ 4294967295 := Nat.le_trans (Nat.div_le_self _ _) h
    have hst := digsTo_step n j
    have hlen := digsTo_length n j
    generalize hm : n / 256 ^ j = m at *
    have HDN := Lib.hid hdn
    have HST := Lib.hid hst
    have HLEN := Lib.hid hlen
    have hle : (digsTo n j).length ≤ 4 := by omega
    clear hdn hst hlen
    by_cases hlt : j < wid n
    · have hp : 0 < m := hdp.2 hlt
      clear hdp
      go_wp2_with fail
      go_roundw
      case rel => exact ⟨j + 1, by omega, by rw [← HDN.out]; rfl, by rw [HST.out, byte_low], by go_num, hB.alloc hB.size _⟩
      case measure => simp [intOf]; omega
    · have hp : ¬ 0 < m := fun h => hlt (hdp.1 h)
      obtain rfl : m = 0 := by omega
      obtain rfl : j = wid n := by omega
      clear hdp hp hm
      go_wp2_with fail
      go_ret2
      exact ⟨rfl, hB.alloc hB.size _⟩

end Go.Proofs.YtaaabmnaindgaaaGreatDoor

/-
  The document's own GetNumber.
-/
namespace Go.Proofs.YtaaabmnaindgaaaGreatDoor
open Go.RowKit
attribute [local go_sem] app_two ext_take ext_drop

attribute [local go_sem] at_str

theorem step256 (v b : Nat) (hv : v ≤ 4294967295) (hb : b < 256) : wrap64 (256 * (v : Int) + wrap64 (b : Int)) = ((v * 256 + b : Nat) : Int) := by
  rw [IntWalk.wrap64_in (b : Int) ⟨by omega, by omega⟩, IntWalk.wrap64_in _ ⟨by omega, by omega⟩]
  omega

/-- What GetNumber leaves. -/
def GNPost (w : World) (o : Option (Nat × List UInt8)) (e : Ending) (w' : World) : Prop :=
  Below w.heap.size w w' ∧ (match o with
      | none => e = .returned (.tuple #[.int .i64 0, .string ⟨#[]⟩, .bool false])
      | some (n, r) => e = .returned (.tuple #[.int .i64 n, .string ⟨r.toArray⟩, .bool true]))

theorem cmp_at (s : List UInt8) (hs0 : 0 < s.length) (hle : 1 + s[0].toNat ≤ s.length) :
    (numB (valB ((s.drop 1).take s[0].toNat)) == s.take (1 + s[0].toNat)) = decide (wid (valB ((s.drop 1).take s[0].toNat)) = s[0].toNat) := by
  cases s with
  | nil => simp at hs0
  | cons h t =>
    simp only [List.getElem_cons_zero, List.length_cons] at hle
    simp only [List.getElem_cons_zero, List.drop_succ_cons, List.drop_zero]
    rw [Nat.add_comm 1, List.take_succ_cons]
    have hl : (t.take h.toNat).length = h.toNat := by rw [List.length_take]; omega
    generalize hd : t.take h.toNat = d at *
    by_cases hw : wid (valB d) = h.toNat
    · have e : numB (valB d) = h :: d := by rw [numB, digs, hw, digs_valB _ _ hl]; simp
      rw [e]
      simp [hw]
    · have e : numB (valB d) ≠ h :: d := by
        intro e
        simp only [numB, List.cons.injEq] at e
        have h1 := congrArg UInt8.toNat e.1
        have h2 := wid_le (valB d)
        simp at h1
        omega
      simp [hw, e]

theorem getN_at (s : List UInt8) (hs0 : 0 < s.length) (h5 : s[0].toNat ≤ 4) (hle : 1 + s[0].toNat ≤ s.length) :
    getN s = if wid (valB ((s.drop 1).take s[0].toNat)) = s[0].toNat then some (valB ((s.drop 1).take s[0].toNat), (s.drop 1).drop s[0].toNat) else none := by
  cases s with
  | nil => simp at hs0
  | cons h t =>
    simp only [List.getElem_cons_zero, List.length_cons] at h5 hle
    simp only [List.getElem_cons_zero, List.drop_succ_cons, List.drop_zero]
    by_cases hw : wid (valB (t.take h.toNat)) = h.toNat
    · rw [if_pos hw]; exact getN_ok h5 (by omega) hw
    · rw [if_neg hw]; exact getN_wide h5 (by omega) hw

set_option maxHeartbeats 2000000 in
theorem refGetNumber_ok (s : List UInt8) (hs0 : 0 < s.length) (h5 : s[0].toNat ≤ 4) (hle : 1 + s[0].toNat ≤ s.length) (hm : s.length ≤ 4611686018427387904) (w : World) :
    Calls Tryz.prog 140 #[.string ⟨s.toArray⟩] w (GNPost w (getN s)) := by
  have hl0 : ((s.length : Int) == 0) = false := by rw [beq_eq_false_iff_ne]; omega
  have hd4 : decide ((4 : Int) < s[0].toNat) = false := by simp; omega
  have hlt : decide ((s.length : Int) < (1 : Int) + (s[0].toNat : Int)) = false := decide_eq_false (by omega)
  go_enter Tryz.func140, Tryz.ntmps140
  go_wp2_with fail
  have hgn := getN_at s hs0 h5 hle
  have hcm := cmp_at s hs0 hle
  generalize s[0].toNat = c at *
  have HG := Lib.hid hgn
  have HCM := Lib.hid hcm
  have hd1 : (s.drop 1).length = s.length - 1 := by simp
  generalize hd : s.drop 1 = d at *
  have HD := Lib.hid hd
  have HD1 := Lib.hid hd1
  have hcd : c ≤ d.length := by omega
  have hdi : ∀ j (h1 : j < d.length) (h2 : j + 1 < s.length), s[j + 1] = d[j] := by
    intro j h1 h2
    subst hd
    rw [List.getElem_drop]
    congr 1
    omega
  have HDI := Lib.hid hdi
  clear hgn hd hd1 hdi hcm
  go_loopw [6, 7] (fun v i wr => ∃ j : Nat, j ≤ c ∧ i = .int .i64 (j + 1 : Nat) ∧ v = .int .i64 (valB (d.take j) : Nat) ∧ wr = w) (fun _ i _ => c + 1 - (intOf i).toNat)
  case atStart => exact ⟨0, Nat.zero_le _, rfl, rfl, rfl⟩
  case round =>
    obtain ⟨j, hj, rfl, rfl, rfl⟩ := hrel
    have hvb := valB_small (d.take j) (by rw [List.length_take]; omega)
    by_cases hjl : j < c
    · have hk2 : j < d.length := by omega
      have hk3 : j + 1 < s.length := by have := HD1.out; omega
      have hs := valB_snoc (d.take j) d[j]
      rw [← List.take_succ_eq_append_getElem hk2, ← HDI.out j hk2 hk3] at hs
      have HS := Lib.hid hs
      clear hs
      go_wp2_with fail
      go_roundw
      case rel => exact ⟨j + 1, by omega, by go_num, by rw [HS.out, step256 _ _ hvb (UInt8.toNat_lt _)], trivial⟩
      case measure => simp [intOf]; omega
    · obtain rfl : j = c := by omega
      generalize hn : valB (d.take j) = n at *
      have hb5 : (numB n).length ≤ 5 := by rw [numB_length]; have := wid_le n; omega
      by_cases hw : wid n = j
      · have heq : (numB n == s.take (1 + j)) = true := by rw [HCM.out]; simp [hw]
        rw [if_pos hw] at HG
        clear hw HCM
        have hsum1 : (0 : Int) ≤ 1 + (j : Int) := by omega
        have hsum2 : (1 + (j : Int)) ≤ s.length := by omega
        go_wp2_with (go_at_call 156; refine (refNumber_ok n (by omega) _).mono ?_; rintro e w1 ⟨rfl, hB1⟩)
        go_quiet (fail)
        go_wp2_with fail
        go_ret3
        exact ⟨below_drewN hB1 _, by rw [HG.out, ← HD.out, List.drop_drop]; rfl⟩
      · have heq : (numB n == s.take (1 + j)) = false := by rw [HCM.out]; simp [hw]
        rw [if_neg hw] at HG
        clear hw HCM
        go_wp2_with (go_at_call 156; refine (refNumber_ok n (by omega) _).mono ?_; rintro e w1 ⟨rfl, hB1⟩)
        go_ret3
        exact ⟨hB1, by rw [HG.out]; rfl⟩

set_option maxHeartbeats 2000000 in
theorem refGetNumber_no (s : List UInt8) (hm : s.length ≤ 4611686018427387904) (hno : ∀ hs0 : 0 < s.length, ¬ (s[0].toNat ≤ 4 ∧ 1 + s[0].toNat ≤ s.length)) (w : World) :
    Calls Tryz.prog 140 #[.string ⟨s.toArray⟩] w fun e w' => e = .returned (.tuple #[.int .i64 0, .string ⟨#[]⟩, .bool false]) ∧ w = w' := by
  by_cases hs0 : 0 < s.length
  · have hn := hno hs0
    clear hno
    have hl0 : ((s.length : Int) == 0) = false := by rw [beq_eq_false_iff_ne]; omega
    by_cases h5 : s[0].toNat ≤ 4
    · have hd4 : decide ((4 : Int) < s[0].toNat) = false := by simp; omega
      have hlt : s.length < 1 + s[0].toNat := by omega
      clear hn
      go_enter Tryz.func140, Tryz.ntmps140
      go_wp2_with fail
      go_ret3
      exact ⟨rfl, rfl⟩
    · have hd4 : decide ((4 : Int) < s[0].toNat) = true := by simp; omega
      clear hn h5
      go_enter Tryz.func140, Tryz.ntmps140
      go_wp2_with fail
      go_ret3
      exact ⟨rfl, rfl⟩
  · obtain rfl : s = [] := List.eq_nil_of_length_eq_zero (by omega)
    clear hno
    go_enter Tryz.func140, Tryz.ntmps140
    go_wp2_with fail
    go_ret3
    exact ⟨rfl, rfl⟩

theorem getN_no (s : List UInt8) (hno : ∀ hs0 : 0 < s.length, ¬ (s[0].toNat ≤ 4 ∧ 1 + s[0].toNat ≤ s.length)) : getN s = none := by
  cases s with
  | nil => rfl
  | cons h t =>
    have h1 := hno (by simp)
    simp only [List.getElem_cons_zero, List.length_cons] at h1
    by_cases h4 : 4 < h.toNat
    · exact getN_big t h4
    · exact getN_short (by omega) (by omega)

theorem refGetNumber_calls (s : List UInt8) (hm : s.length ≤ 4611686018427387904) (w : World) :
    Calls Tryz.prog 140 #[.string ⟨s.toArray⟩] w (GNPost w (getN s)) := by
  by_cases hs : ∃ hs0 : 0 < s.length, s[0].toNat ≤ 4 ∧ 1 + s[0].toNat ≤ s.length
  · obtain ⟨hs0, h5, hle⟩ := hs
    exact refGetNumber_ok s hs0 h5 hle hm w
  · have hno : ∀ hs0 : 0 < s.length, ¬ (s[0].toNat ≤ 4 ∧ 1 + s[0].toNat ≤ s.length) := fun hs0 h => hs ⟨hs0, h⟩
    refine (refGetNumber_no s hm hno w).mono fun e w' h => ?_
    rw [getN_no s hno]
    exact ⟨by rw [← h.2]; exact Below.refl _ _, h.1⟩

theorem refGetNumber_none (s : List UInt8) (hm : s.length ≤ 4611686018427387904) (h : getN s = none) (w : World) :
    Calls Tryz.prog 140 #[.string ⟨s.toArray⟩] w fun e w' => e = .returned (.tuple #[.int .i64 0, .string ⟨#[]⟩, .bool false]) ∧ Below w.heap.size w w' :=
  (refGetNumber_calls s hm w).mono fun e w' hp => by rw [h] at hp; exact ⟨hp.2, hp.1⟩
theorem refGetNumber_some (s : List UInt8) (hm : s.length ≤ 4611686018427387904) {n : Nat} {r : List UInt8} (h : getN s = some (n, r)) (w : World) :
    Calls Tryz.prog 140 #[.string ⟨s.toArray⟩] w fun e w' => e = .returned (.tuple #[.int .i64 n, .string ⟨r.toArray⟩, .bool true]) ∧ Below w.heap.size w w' :=
  (refGetNumber_calls s hm w).mono fun e w' hp => by rw [h] at hp; exact ⟨hp.2, hp.1⟩

end Go.Proofs.YtaaabmnaindgaaaGreatDoor
