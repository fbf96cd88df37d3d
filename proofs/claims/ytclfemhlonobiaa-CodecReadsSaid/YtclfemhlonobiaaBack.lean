/-
  The statement CodecBack is proved: for every number, text, row and rest the law returns true, and the arguments read as they did. No condition.
-/
import Derived.Test.YtclfemhlonobiaaSame
import Derived.Test.YtclfemhlonobiaaTexts
namespace Go.Proofs.Ytclfemhlonobiaa
open Go.ChangeShapes Go.WideShapes Go.ChangeAt Go.RowKit
open Go.ChangeMaps (open_string shut_string)
attribute [local go_sem] app_mk

theorem row_bad (v : Value) (ls : List (List UInt8)) (w : World) (hs : Strs w v ls) (hm : ls.length ≤ 9223372036854775807) (ho : rowOut ls = ([], 2)) :
    Calls Try.prog 14 #[v] w fun e w' => e = .returned (.tuple #[.string ⟨#[]⟩, .int .i64 2]) ∧ Below w.heap.size w w' := by
  by_cases h : ls.length ≤ 1000
  · exact (row_short v ls w hs h).mono fun e w' hp => by rw [ho] at hp; exact hp
  · exact (row_long w v ls hs (by omega) (by omega)).mono fun e w' hp => ⟨hp.1, by rw [← hp.2]; exact Below.refl _ _⟩

theorem rowOut_cases (ls : List (List UInt8)) : rowOut ls = (rowB ls, 0) ∨ rowOut ls = ([], 2) := by
  unfold rowOut
  split
  · exact .inl rfl
  · exact .inr rfl

theorem short_two {s r : List UInt8} (h : shortB [s, r] = true) : s.length ≤ 300 ∧ r.length ≤ 300 := by simpa [shortB] using h

theorem strs_two (w : World) (s r : List UInt8) : Strs (w.alloc (.cells #[.string ⟨s.toArray⟩, .string ⟨r.toArray⟩] 9)) (.slice (some ⟨w.heap.size, 0, none⟩) 2 2) [s, r] := by
  refine ⟨_, 2, rfl, .inr ⟨w.heap.size, 0, rfl, fun i hi => ?_⟩⟩
  match i, hi with
  | 0, _ => simp
  | 1, _ => simp

theorem short_at (w : World) (s r : List UInt8) : Calls Try.prog 24 #[.slice (some ⟨w.heap.size, 0, none⟩) 2 2] (w.alloc (.cells #[.string ⟨s.toArray⟩, .string ⟨r.toArray⟩] 9)) fun e w' => e = .returned (.bool (shortB [s, r])) ∧ Below w.heap.size w w' :=
  (short_calls _ _ _ (strs_two w s r) (by simp)).mono fun e w' h => ⟨h.1, by rw [← h.2]; exact (Below.refl _ w).alloc (Nat.le_refl _) _⟩

theorem rowB_size {ls : List (List UInt8)} (h : rowOut ls = (rowB ls, 0)) : (rowB ls).length ≤ 5000000 := by
  obtain ⟨h1, h2, _⟩ := rowOut_zero (by rw [h])
  have := rowTo_length ls ls.length (fun s hs => h2 s (by simpa using hs)) (Nat.le_refl _)
  rw [rowTo_all] at this
  omega

set_option maxRecDepth 100000 in
set_option maxHeartbeats 4000000 in
theorem back_skip (n : Int) (s : List UInt8) (v : Value) (ls : List (List UInt8)) (r : List UInt8) (w : World) (hstrs : Strs w v ls) (hm : ls.length ≤ 9223372036854775807) (hskip : shortB [s, r] = false ∨ farB ls = true) :
    Calls Try.prog 5 #[.int .i64 n, .string ⟨s.toArray⟩, v, .string ⟨r.toArray⟩] w fun e w' => e = .returned (.bool true) ∧ Below w.heap.size w w' := by
  obtain ⟨ao, cap, rfl⟩ := hstrs.form
  by_cases hsh : shortB [s, r] = false
  · clear hskip
    go_enter Try.func5, Try.ntmps5
    go_wp2_with fail
    refine (short_at _ s r).mono ?_
    rintro e w1 ⟨rfl, hB1⟩
    go_wp2_with fail
    go_ret
    exact ⟨rfl, hB1⟩
  · have hsh2 : shortB [s, r] = true := by simpa using hsh
    have hfar : farB ls = true := by simpa [hsh2] using hskip
    clear hskip hsh
    have HC := Lib.hid hstrs
    clear hstrs
    go_enter Try.func5, Try.ntmps5
    go_wp2_with fail
    refine (short_at _ s r).mono ?_
    rintro e w1 ⟨rfl, hB1⟩
    go_wp2_with fail
    refine (far_calls _ ls _ (HC.out.below hB1) hm).mono ?_
    rintro e w2 ⟨rfl, rfl⟩
    go_wp2_with fail
    go_ret
    exact ⟨rfl, hB1⟩

set_option maxRecDepth 100000 in
set_option maxHeartbeats 8000000 in
theorem back_in_ok (n : Nat) (s : List UInt8) (v : Value) (ls : List (List UInt8)) (r : List UInt8) (w : World) (hstrs : Strs w v ls) (hm : ls.length ≤ 9223372036854775807) (hsh : shortB [s, r] = true) (hfar : farB ls = false) (hn : n ≤ 4294967295) (ho : rowOut ls = (rowB ls, 0)) :
    Calls Try.prog 5 #[.int .i64 n, .string ⟨s.toArray⟩, v, .string ⟨r.toArray⟩] w fun e w' => e = .returned (.bool true) ∧ Below w.heap.size w w' := by
  obtain ⟨ao, cap, rfl⟩ := hstrs.form
  obtain ⟨hsl, hrl⟩ := short_two hsh
  have HC := Lib.hid hstrs
  have HO := Lib.hid ho
  clear hstrs ho
  have hg1 := Lib.hid (laid_getN n hn r)
  have hi1 : decide (0 ≤ (n : Int)) = true := by simp
  have hi2 : decide ((n : Int) ≤ 4294967295) = true := by simp; omega
  have hb1 : (numB n).length ≤ 5 := by rw [numB_length]; have := wid_le n; omega
  have hg2 := Lib.hid (laid_getT s (by omega) r)
  have hb2 : (txtB s).length ≤ 305 := by rw [txtB_length]; have := wid_le s.length; omega
  obtain ⟨hr1, hr2, _⟩ := rowOut_zero (ts := ls) (by rw [HO.out])
  have hg3 := Lib.hid (laid_getR ls hr1 hr2 r)
  have hb3 := rowB_size HO.out
  clear hr2
  go_enter Try.func5, Try.ntmps5
  go_wp2_with fail
  refine (short_at _ s r).mono ?_
  rintro e w1 ⟨rfl, hB1⟩
  go_wp2_with fail
  refine (far_calls _ ls _ (HC.out.below hB1) hm).mono ?_
  rintro e w1 ⟨rfl, rfl⟩
  go_wp2_with fail
  refine (number_ok n hn _).mono ?_
  rintro e w2 ⟨rfl, hB2⟩
  have hBa := below2 hB1 hB2
  clear hB1 hB2
  go_wp2_with fail
  refine (GetNumber_some (numB n ++ r) (by rw [List.length_append]; omega) hg1.out _).mono ?_
  rintro e w3 ⟨rfl, hB3⟩
  have hBb := below2 hBa hB3
  clear hBa hB3
  go_wp2_with fail
  refine (text_ok s (by omega) _).mono ?_
  rintro e w4 ⟨rfl, hB4⟩
  go_wp2_with fail
  refine (GetText_some (txtB s ++ r) (by rw [List.length_append]; omega) hg2.out _).mono ?_
  rintro e w5 ⟨rfl, hB5⟩
  have hBc := below3 hBb hB4 hB5
  clear hBb hB4 hB5
  go_wp2_with fail
  refine (row_any _ ls _ (HC.out.below hBc) hr1 HO.out).mono ?_
  rintro e w6 ⟨rfl, hB6⟩
  have hBd := below2 hBc hB6
  clear hBc hB6
  go_wp2_with fail
  refine (GetRow_some (rowB ls ++ r) (by rw [List.length_append]; omega) hg3.out _).mono ?_
  rintro e w7 ⟨v7, rfl, hB7, hown7⟩
  have hst7 := strs_own hown7
  obtain ⟨a7, c7, rfl⟩ := hst7.form
  have HT7 := Lib.hid hst7
  have hBe := below2 hBd hB7
  clear hBd hB7 hst7 hown7
  go_wp2_with fail
  refine (laid_calls _).mono ?_
  rintro e w8 ⟨rfl, hB8⟩
  have hBf := below2 hBe hB8
  have HT8 := Lib.hid (HT7.out.below hB8)
  clear hBe hB8
  go_wp2_with fail
  refine (texts_calls _ _ ls ls _ HT8.out (HC.out.below hBf) hm).mono ?_
  rintro e w9 ⟨rfl, hB9⟩
  have hBg := below2 hBf hB9
  clear hBf hB9
  go_wp2_with fail
  go_ret
  exact ⟨rfl, hBg⟩

set_option maxRecDepth 100000 in
set_option maxHeartbeats 8000000 in
theorem back_in_bad (n : Nat) (s : List UInt8) (v : Value) (ls : List (List UInt8)) (r : List UInt8) (w : World) (hstrs : Strs w v ls) (hm : ls.length ≤ 9223372036854775807) (hsh : shortB [s, r] = true) (hfar : farB ls = false) (hn : n ≤ 4294967295) (ho : rowOut ls = ([], 2)) :
    Calls Try.prog 5 #[.int .i64 n, .string ⟨s.toArray⟩, v, .string ⟨r.toArray⟩] w fun e w' => e = .returned (.bool true) ∧ Below w.heap.size w w' := by
  obtain ⟨ao, cap, rfl⟩ := hstrs.form
  obtain ⟨hsl, hrl⟩ := short_two hsh
  have HC := Lib.hid hstrs
  have HO := Lib.hid ho
  clear hstrs ho
  have hg1 := Lib.hid (laid_getN n hn r)
  have hi1 : decide (0 ≤ (n : Int)) = true := by simp
  have hi2 : decide ((n : Int) ≤ 4294967295) = true := by simp; omega
  have hb1 : (numB n).length ≤ 5 := by rw [numB_length]; have := wid_le n; omega
  have hg2 := Lib.hid (laid_getT s (by omega) r)
  have hb2 : (txtB s).length ≤ 305 := by rw [txtB_length]; have := wid_le s.length; omega
  go_enter Try.func5, Try.ntmps5
  go_wp2_with fail
  refine (short_at _ s r).mono ?_
  rintro e w1 ⟨rfl, hB1⟩
  go_wp2_with fail
  refine (far_calls _ ls _ (HC.out.below hB1) hm).mono ?_
  rintro e w1 ⟨rfl, rfl⟩
  go_wp2_with fail
  refine (number_ok n hn _).mono ?_
  rintro e w2 ⟨rfl, hB2⟩
  have hBa := below2 hB1 hB2
  clear hB1 hB2
  go_wp2_with fail
  refine (GetNumber_some (numB n ++ r) (by rw [List.length_append]; omega) hg1.out _).mono ?_
  rintro e w3 ⟨rfl, hB3⟩
  have hBb := below2 hBa hB3
  clear hBa hB3
  go_wp2_with fail
  refine (text_ok s (by omega) _).mono ?_
  rintro e w4 ⟨rfl, hB4⟩
  go_wp2_with fail
  refine (GetText_some (txtB s ++ r) (by rw [List.length_append]; omega) hg2.out _).mono ?_
  rintro e w5 ⟨rfl, hB5⟩
  have hBc := below3 hBb hB4 hB5
  clear hBb hB4 hB5
  go_wp2_with fail
  refine (row_bad _ ls _ (HC.out.below hBc) hm HO.out).mono ?_
  rintro e w6 ⟨rfl, hB6⟩
  have hBd := below2 hBc hB6
  clear hBc hB6
  go_wp2_with fail
  refine (getRow_any r (by omega) _).mono ?_
  rintro e w7 ⟨v7, ts7, r7, ok7, rfl, hst7, _, _, _, hB7⟩
  obtain ⟨a7, c7, rfl⟩ := hst7.form
  have hBe := below2 hBd hB7
  clear hBd hB7 hst7
  go_wp2_with fail
  refine (laid_calls _).mono ?_
  rintro e w8 ⟨rfl, hB8⟩
  have hBf := below2 hBe hB8
  clear hBe hB8
  go_wp2_with fail
  go_ret
  exact ⟨rfl, hBf⟩

set_option maxRecDepth 100000 in
set_option maxHeartbeats 8000000 in
theorem back_out_ok (n : Int) (s : List UInt8) (v : Value) (ls : List (List UInt8)) (r : List UInt8) (w : World) (hstrs : Strs w v ls) (hm : ls.length ≤ 9223372036854775807) (hsh : shortB [s, r] = true) (hfar : farB ls = false) (hn : n < 0 ∨ 4294967295 < n) (ho : rowOut ls = (rowB ls, 0)) :
    Calls Try.prog 5 #[.int .i64 n, .string ⟨s.toArray⟩, v, .string ⟨r.toArray⟩] w fun e w' => e = .returned (.bool true) ∧ Below w.heap.size w w' := by
  obtain ⟨ao, cap, rfl⟩ := hstrs.form
  obtain ⟨hsl, hrl⟩ := short_two hsh
  have HC := Lib.hid hstrs
  have HO := Lib.hid ho
  clear hstrs ho
  have hg2 := Lib.hid (laid_getT s (by omega) r)
  have hb2 : (txtB s).length ≤ 305 := by rw [txtB_length]; have := wid_le s.length; omega
  obtain ⟨hr1, hr2, _⟩ := rowOut_zero (ts := ls) (by rw [HO.out])
  have hg3 := Lib.hid (laid_getR ls hr1 hr2 r)
  have hb3 := rowB_size HO.out
  clear hr2
  go_enter Try.func5, Try.ntmps5
  go_wp2_with fail
  refine (short_at _ s r).mono ?_
  rintro e w1 ⟨rfl, hB1⟩
  go_wp2_with fail
  refine (far_calls _ ls _ (HC.out.below hB1) hm).mono ?_
  rintro e w1 ⟨rfl, rfl⟩
  go_wp2_with fail
  refine (number_bad n hn _).mono ?_
  rintro e w2 ⟨rfl, rfl⟩
  have hBa := hB1
  clear hB1
  have hinr : (decide (0 ≤ n) && decide (n ≤ 4294967295)) = false := by
    rcases hn with h | h
    · have : decide (0 ≤ n) = false := by simp; omega
      simp [this]
    · have : decide (n ≤ 4294967295) = false := by simp; omega
      simp [this]
  go_wp2_with fail
  refine (getNumber_any r (by omega) _).mono ?_
  rintro e w3 ⟨n3, r3, ok3, rfl, _, _, hB3⟩
  have hBb := below2 hBa hB3
  clear hBa hB3
  rcases hn with hn | hn
  case' inr => have hn0 : 0 ≤ n := by omega
  all_goals
    go_wp2_with fail
    refine (text_ok s (by omega) _).mono ?_
    rintro e w4 ⟨rfl, hB4⟩
    go_wp2_with fail
    refine (GetText_some (txtB s ++ r) (by rw [List.length_append]; omega) hg2.out _).mono ?_
    rintro e w5 ⟨rfl, hB5⟩
    have hBc := below3 hBb hB4 hB5
    clear hBb hB4 hB5
    go_wp2_with fail
    refine (row_any _ ls _ (HC.out.below hBc) hr1 HO.out).mono ?_
    rintro e w6 ⟨rfl, hB6⟩
    have hBd := below2 hBc hB6
    clear hBc hB6
    go_wp2_with fail
    refine (GetRow_some (rowB ls ++ r) (by rw [List.length_append]; omega) hg3.out _).mono ?_
    rintro e w7 ⟨v7, rfl, hB7, hown7⟩
    have hst7 := strs_own hown7
    obtain ⟨a7, c7, rfl⟩ := hst7.form
    have HT7 := Lib.hid hst7
    have hBe := below2 hBd hB7
    clear hBd hB7 hst7 hown7
    go_wp2_with fail
    refine (laid_calls _).mono ?_
    rintro e w8 ⟨rfl, hB8⟩
    have hBf := below2 hBe hB8
    have HT8 := Lib.hid (HT7.out.below hB8)
    clear hBe hB8
    go_wp2_with fail
    refine (texts_calls _ _ ls ls _ HT8.out (HC.out.below hBf) hm).mono ?_
    rintro e w9 ⟨rfl, hB9⟩
    have hBg := below2 hBf hB9
    clear hBf hB9
    go_wp2_with fail
    go_ret
    exact ⟨rfl, hBg⟩

set_option maxRecDepth 100000 in
set_option maxHeartbeats 8000000 in
theorem back_out_bad (n : Int) (s : List UInt8) (v : Value) (ls : List (List UInt8)) (r : List UInt8) (w : World) (hstrs : Strs w v ls) (hm : ls.length ≤ 9223372036854775807) (hsh : shortB [s, r] = true) (hfar : farB ls = false) (hn : n < 0 ∨ 4294967295 < n) (ho : rowOut ls = ([], 2)) :
    Calls Try.prog 5 #[.int .i64 n, .string ⟨s.toArray⟩, v, .string ⟨r.toArray⟩] w fun e w' => e = .returned (.bool true) ∧ Below w.heap.size w w' := by
  obtain ⟨ao, cap, rfl⟩ := hstrs.form
  obtain ⟨hsl, hrl⟩ := short_two hsh
  have HC := Lib.hid hstrs
  have HO := Lib.hid ho
  clear hstrs ho
  have hg2 := Lib.hid (laid_getT s (by omega) r)
  have hb2 : (txtB s).length ≤ 305 := by rw [txtB_length]; have := wid_le s.length; omega
  go_enter Try.func5, Try.ntmps5
  go_wp2_with fail
  refine (short_at _ s r).mono ?_
  rintro e w1 ⟨rfl, hB1⟩
  go_wp2_with fail
  refine (far_calls _ ls _ (HC.out.below hB1) hm).mono ?_
  rintro e w1 ⟨rfl, rfl⟩
  go_wp2_with fail
  refine (number_bad n hn _).mono ?_
  rintro e w2 ⟨rfl, rfl⟩
  have hBa := hB1
  clear hB1
  have hinr : (decide (0 ≤ n) && decide (n ≤ 4294967295)) = false := by
    rcases hn with h | h
    · have : decide (0 ≤ n) = false := by simp; omega
      simp [this]
    · have : decide (n ≤ 4294967295) = false := by simp; omega
      simp [this]
  go_wp2_with fail
  refine (getNumber_any r (by omega) _).mono ?_
  rintro e w3 ⟨n3, r3, ok3, rfl, _, _, hB3⟩
  have hBb := below2 hBa hB3
  clear hBa hB3
  rcases hn with hn | hn
  case' inr => have hn0 : 0 ≤ n := by omega
  all_goals
    go_wp2_with fail
    refine (text_ok s (by omega) _).mono ?_
    rintro e w4 ⟨rfl, hB4⟩
    go_wp2_with fail
    refine (GetText_some (txtB s ++ r) (by rw [List.length_append]; omega) hg2.out _).mono ?_
    rintro e w5 ⟨rfl, hB5⟩
    have hBc := below3 hBb hB4 hB5
    clear hBb hB4 hB5
    go_wp2_with fail
    refine (row_bad _ ls _ (HC.out.below hBc) hm HO.out).mono ?_
    rintro e w6 ⟨rfl, hB6⟩
    have hBd := below2 hBc hB6
    clear hBc hB6
    go_wp2_with fail
    refine (getRow_any r (by omega) _).mono ?_
    rintro e w7 ⟨v7, ts7, r7, ok7, rfl, hst7, _, _, _, hB7⟩
    obtain ⟨a7, c7, rfl⟩ := hst7.form
    have hBe := below2 hBd hB7
    clear hBd hB7 hst7
    go_wp2_with fail
    refine (laid_calls _).mono ?_
    rintro e w8 ⟨rfl, hB8⟩
    have hBf := below2 hBe hB8
    clear hBe hB8
    go_wp2_with fail
    go_ret
    exact ⟨rfl, hBf⟩

theorem back_walk (n : Int) (s : List UInt8) (v : Value) (ls : List (List UInt8)) (r : List UInt8) (w : World) (_ : (Lit.int .i64 n).wf = true) (_ : s.length ≤ maxLen) (hstrs : Strs w v ls) (hm0 : ls.length ≤ maxLen) (_ : r.length ≤ maxLen) :
    Calls Try.prog 5 #[.int .i64 n, .string ⟨s.toArray⟩, v, .string ⟨r.toArray⟩] w fun e w' => e = .returned (.bool true) ∧ Below w.heap.size w w' := by
  have hm : ls.length ≤ 9223372036854775807 := by unfold maxLen at hm0; omega
  by_cases hsk : shortB [s, r] = false ∨ farB ls = true
  · exact back_skip n s v ls r w hstrs hm hsk
  · have hsh : shortB [s, r] = true := by
      cases h : shortB [s, r] with
      | false => exact absurd (.inl h) hsk
      | true => rfl
    have hfar : farB ls = false := by
      cases h : farB ls with
      | true => exact absurd (.inr h) hsk
      | false => rfl
    by_cases hn : 0 ≤ n ∧ n ≤ 4294967295
    · obtain ⟨n, rfl⟩ := Int.eq_ofNat_of_zero_le hn.1
      rcases rowOut_cases ls with ho | ho
      · exact back_in_ok n s v ls r w hstrs hm hsh hfar (by omega) ho
      · exact back_in_bad n s v ls r w hstrs hm hsh hfar (by omega) ho
    · rcases rowOut_cases ls with ho | ho
      · exact back_out_ok n s v ls r w hstrs hm hsh hfar (by omega) ho
      · exact back_out_bad n s v ls r w hstrs hm hsh hfar (by omega) ho

set_option linter.unusedVariables false
set_option maxRecDepth 100000 in
theorem codecBack_lifted (os : Os) (started : os.Started) (H : Type) (enc : TypeId × Value → H) :
    ReturnsInHanded {} Try.checked os 5 .any (Rows.codecBackSpec.pre6 enc Try.prog Try.f5 Rows.codecBackRow.domain false) (Rows.codecBackSpec.post enc Try.prog Try.f5 false true false false) := by
  refine returnsInHanded_of_change (C := Try.checked) own_knob started (by kernel_rfl) Try.func5
    (ChangeSpec.witness6 (enc := enc) (C := Try.checked) false ⟨#[], #[.int .i64 0, .string ⟨#[]⟩, .slice none 0 0, .string ⟨#[]⟩], []⟩ 8 (by kernel_rfl) (by kernel_rfl) (by kernel_rfl) (by kernel_rfl)) ?_
  intro W base args ds gs before hval0 hW hcnd _
  have hval : ∀ (j : Nat) t v, Try.f5.params[j]? = some t → args[j]? = some v → Value.okWide Try.prog W .any base t v := hval0
  have hW' := hW
  obtain ⟨p, q, hA0, hV, rfl, hfz, hnd⟩ := hW
  have hA : DataW.TrodAll enc Try.prog W 0 (fun _ => true) true Try.f5.params.toList args.toList ds p := hA0
  rw [Try.params5] at hA hval
  obtain ⟨v0, vs0, d0, ds0, p0, q0, hargs, rfl, rfl, h0, r0⟩ := trodAll_cons hA
  obtain ⟨v1, vs1, d1, ds1, p1, q1, rfl, rfl, rfl, h1, r1⟩ := trodAll_cons r0
  obtain ⟨v2, vs2, d2, ds2, p2, q2, rfl, rfl, rfl, h2, r2⟩ := trodAll_cons r1
  obtain ⟨v3, vs3, d3, ds3, p3, q3, rfl, rfl, rfl, h3, r3⟩ := trodAll_cons r2
  obtain ⟨rfl, rfl, rfl⟩ := trodAll_nil r3
  obtain rfl : args = #[v0, v1, v2, v3] := by cases args; simp_all
  obtain ⟨rfl, rfl⟩ := trodVars_none hV
  have k0 := h0
  have lt0 : ∀ x ∈ p0, x.block < W.heap.size := by obtain ⟨m, hm⟩ := k0; exact DataW.trod_lt m _ _ _ hm
  have k1 := h1
  have lt1 : ∀ x ∈ p1, x.block < W.heap.size := by obtain ⟨m, hm⟩ := k1; exact DataW.trod_lt m _ _ _ hm
  have k2 := h2
  have lt2 : ∀ x ∈ p2, x.block < W.heap.size := by obtain ⟨m, hm⟩ := k2; exact DataW.trod_lt m _ _ _ hm
  have k3 := h3
  have lt3 : ∀ x ∈ p3, x.block < W.heap.size := by obtain ⟨m, hm⟩ := k3; exact DataW.trod_lt m _ _ _ hm
  obtain ⟨a0, rfl, e0, f0, w0⟩ := open_int Try.underlying3 (hval 0 3 v0 rfl rfl) h0
  obtain ⟨s1, rfl, e1, f1, w1⟩ := open_string Try.underlying9 (hval 1 9 v1 rfl rfl) h1
  obtain ⟨l1, rfl⟩ := bytes_list s1
  rw [size_mk] at w1
  obtain ⟨ls2, w2, x2⟩ := strs_open (hval 2 22 v2 rfl rfl) h2
  obtain ⟨s3, rfl, e3, f3, w3⟩ := open_string Try.underlying9 (hval 3 9 v3 rfl rfl) h3
  obtain ⟨l3, rfl⟩ := bytes_list s3
  rw [size_mk] at w3
  refine (back_walk a0 l1 v2 ls2 l3 W w0 w1 w2 x2 w3).mono fun e W' ⟨he, bel⟩ => ?_
  subst he
  exact ⟨_, rfl, _, _, _, [], _, [], hW', trodAll_mk1 (shut_bool Try.underlying4 _), (trodAll_cons_mk (Below.trod laid_out (by kernel_rfl) (of_decide_eq_true (by kernel_rfl)) k0 bel lt0) (trodAll_cons_mk (Below.trod laid_out (by kernel_rfl) (of_decide_eq_true (by kernel_rfl)) k1 bel lt1) (trodAll_cons_mk (Below.trod laid_out (by kernel_rfl) (of_decide_eq_true (by kernel_rfl)) k2 bel lt2) (trodAll_cons_mk (Below.trod laid_out (by kernel_rfl) (of_decide_eq_true (by kernel_rfl)) k3 bel lt3) trodAll_mk0)))), rfl, bel.frame _, fun h => by cases h⟩

theorem codecBack_holds : Rows.CodecBackSaid :=
  OpenClaim.holds_of_wide 5 Try.f5 rfl rfl rfl rfl rfl rfl rfl ⟨rfl, rfl, rfl, rfl, rfl⟩ rfl rfl rfl rfl rfl (by kernel_rfl) Try.func5 (by kernel_rfl)
    (of_decide_eq_true (by kernel_rfl)) (by unfold Func.isWrapper; first | (rw [if_pos (by decide +kernel)]; kernel_rfl) | (rw [if_neg (by decide +kernel)]; exact ⟨rfl, rfl⟩))
    (fun os started H enc _ => codecBack_lifted os started H enc)


end Go.Proofs.Ytclfemhlonobiaa
