/-
  The statement CodecLays is proved: for every number, text and row the law returns true, and the arguments read as they did. No condition.
-/
import Derived.Test.YtclfemhlonobiaaReads
import Derived.Test.YtclfemhlonobiaaRefR
namespace Go.Proofs.Ytclfemhlonobiaa
open Go.ChangeShapes Go.WideShapes Go.ChangeAt Go.RowKit
open Go.ChangeMaps (open_string shut_string)

def numL (n : Int) : List UInt8 × Int := if 0 ≤ n ∧ n ≤ 4294967295 then (numB n.toNat, 0) else ([], 1)
def txtL (s : List UInt8) : List UInt8 × Int := if s.length ≤ 4000 then (txtB s, 0) else ([], 2)

theorem numL_a (n : Int) (w : World) : Calls Try.prog 10 #[.int .i64 n] w fun e w' => e = .returned (.tuple #[.string ⟨(numL n).1.toArray⟩, .int .i64 (numL n).2]) ∧ Below w.heap.size w w' := by
  by_cases h : 0 ≤ n ∧ n ≤ 4294967295
  · obtain ⟨m, rfl⟩ := Int.eq_ofNat_of_zero_le h.1
    rw [numL, if_pos h]
    exact number_ok m (by omega) w
  · rw [numL, if_neg h]
    exact (number_bad n (by omega) w).mono fun e w' hp => ⟨hp.1, by rw [← hp.2]; exact Below.refl _ _⟩
theorem numL_b (n : Int) (w : World) : Calls Try.prog 11 #[.int .i64 n] w fun e w' => e = .returned (.tuple #[.string ⟨(numL n).1.toArray⟩, .int .i64 (numL n).2]) ∧ Below w.heap.size w w' := by
  by_cases h : 0 ≤ n ∧ n ≤ 4294967295
  · obtain ⟨m, rfl⟩ := Int.eq_ofNat_of_zero_le h.1
    rw [numL, if_pos h]
    exact refNumber_ok m (by omega) w
  · rw [numL, if_neg h]
    exact (refNumber_bad n (by omega) w).mono fun e w' hp => ⟨hp.1, by rw [← hp.2]; exact Below.refl _ _⟩
theorem txtL_a (s : List UInt8) (hm : s.length ≤ 9223372036854775807) (w : World) : Calls Try.prog 12 #[.string ⟨s.toArray⟩] w fun e w' => e = .returned (.tuple #[.string ⟨(txtL s).1.toArray⟩, .int .i64 (txtL s).2]) ∧ Below w.heap.size w w' := by
  by_cases h : s.length ≤ 4000
  · rw [txtL, if_pos h]
    exact text_ok s h w
  · rw [txtL, if_neg h]
    exact (text_bad s (by omega) hm w).mono fun e w' hp => ⟨hp.1, by rw [← hp.2]; exact Below.refl _ _⟩
theorem txtL_b (s : List UInt8) (hm : s.length ≤ 9223372036854775807) (w : World) : Calls Try.prog 13 #[.string ⟨s.toArray⟩] w fun e w' => e = .returned (.tuple #[.string ⟨(txtL s).1.toArray⟩, .int .i64 (txtL s).2]) ∧ Below w.heap.size w w' := by
  by_cases h : s.length ≤ 4000
  · rw [txtL, if_pos h]
    exact refText_ok s h w
  · rw [txtL, if_neg h]
    exact (refText_bad s (by omega) hm w).mono fun e w' hp => ⟨hp.1, by rw [← hp.2]; exact Below.refl _ _⟩
theorem rowL_a (v : Value) (ls : List (List UInt8)) (w : World) (hs : Strs w v ls) (hm : ls.length ≤ 9223372036854775807) : Calls Try.prog 14 #[v] w fun e w' => e = .returned (.tuple #[.string ⟨(rowOut ls).1.toArray⟩, .int .i64 (rowOut ls).2]) ∧ Below w.heap.size w w' := by
  by_cases h : ls.length ≤ 1000
  · exact row_short v ls w hs h
  · rw [rowOut_long (by omega)]
    exact (row_long w v ls hs (by omega) hm).mono fun e w' hp => ⟨hp.1, by rw [← hp.2]; exact Below.refl _ _⟩
theorem rowL_b (v : Value) (ls : List (List UInt8)) (w : World) (hs : Strs w v ls) (hm : ls.length ≤ 9223372036854775807) (hf : farB ls = false) : Calls Try.prog 15 #[v] w fun e w' => e = .returned (.tuple #[.string ⟨(rowOut ls).1.toArray⟩, .int .i64 (rowOut ls).2]) ∧ Below w.heap.size w w' := by
  by_cases h : ls.length ≤ 1000
  · refine refRow_short v ls w hs h ?_
    intro s hsm
    by_cases h60 : ls.length ≤ 60
    · rw [farB, if_pos h60, List.any_eq_false] at hf
      have := hf s hsm
      simp [farOne] at this
      omega
    · rw [farB, if_neg h60] at hf
      simp [h] at hf
  · rw [rowOut_long (by omega)]
    exact (refRow_long w v ls hs (by omega) hm).mono fun e w' hp => ⟨hp.1, by rw [← hp.2]; exact Below.refl _ _⟩

theorem far_few_of {ls : List (List UInt8)} (hf : farB ls = false) : ls.length ≤ 1100 := by
  by_cases h60 : ls.length ≤ 60
  · omega
  · rw [farB, if_neg h60] at hf
    simp at hf
    omega

set_option maxRecDepth 100000 in
set_option maxHeartbeats 4000000 in
theorem lays_skip (n : Int) (s : List UInt8) (v : Value) (ls : List (List UInt8)) (w : World) (hms : s.length ≤ 9223372036854775807) (hstrs : Strs w v ls) (hm : ls.length ≤ 9223372036854775807) (hskip : 5000 < s.length ∨ farB ls = true) :
    Calls Try.prog 3 #[.int .i64 n, .string ⟨s.toArray⟩, v] w fun e w' => e = .returned (.bool true) ∧ Below w.heap.size w w' := by
  obtain ⟨ao, cap, rfl⟩ := hstrs.form
  by_cases hl : 5000 < s.length
  · clear hskip hstrs
    go_enter Try.func3, Try.ntmps3
    go_wp2_with fail
    go_ret
    exact ⟨rfl, Below.refl _ _⟩
  · have hl2 : s.length ≤ 5000 := by omega
    have hfar : farB ls = true := by simpa [hl] using hskip
    clear hskip hl
    have HC := Lib.hid hstrs
    clear hstrs
    go_enter Try.func3, Try.ntmps3
    go_wp2_with fail
    refine (far_calls _ ls _ HC.out hm).mono ?_
    rintro e w2 ⟨rfl, rfl⟩
    go_wp2_with fail
    go_ret
    exact ⟨rfl, Below.refl _ _⟩

set_option maxRecDepth 100000 in
set_option maxHeartbeats 8000000 in
theorem lays_main (n : Int) (s : List UInt8) (v : Value) (ls : List (List UInt8)) (w : World) (hl2 : s.length ≤ 5000) (hstrs : Strs w v ls) (hfar : farB ls = false) :
    Calls Try.prog 3 #[.int .i64 n, .string ⟨s.toArray⟩, v] w fun e w' => e = .returned (.bool true) ∧ Below w.heap.size w w' := by
  obtain ⟨ao, cap, rfl⟩ := hstrs.form
  have hm := far_few_of hfar
  have HF := Lib.hid hfar
  have HC := Lib.hid hstrs
  clear hstrs
  go_enter Try.func3, Try.ntmps3
  go_wp2_with fail
  refine (far_calls _ ls _ HC.out (by omega)).mono ?_
  rintro e w2 ⟨rfl, rfl⟩
  go_wp2_with fail
  refine (own_calls _ ls _ HC.out hm).mono ?_
  rintro e w1 ⟨v1, rfl, hs1, hB1⟩
  obtain ⟨a1, c1, rfl⟩ := hs1.form
  have HS1 := Lib.hid hs1
  clear hs1
  go_wp2_with fail
  refine (numL_a n _).mono ?_
  rintro e w2 ⟨rfl, hB2⟩
  go_wp2_with fail
  refine (numL_b n _).mono ?_
  rintro e w3 ⟨rfl, hB3⟩
  have hS3 := below2 hB2 hB3
  clear hB2 hB3
  go_wp2_with fail
  refine (txtL_a s (by omega) _).mono ?_
  rintro e w4 ⟨rfl, hB4⟩
  go_wp2_with fail
  refine (txtL_b s (by omega) _).mono ?_
  rintro e w5 ⟨rfl, hB5⟩
  have hS5 := below3 hS3 hB4 hB5
  clear hS3 hB4 hB5
  go_wp2_with fail
  refine (rowL_a _ ls _ (HC.out.below (below2 hB1 hS5)) (by omega)).mono ?_
  rintro e w6 ⟨rfl, hB6⟩
  have hS6 := below2 hS5 hB6
  clear hS5 hB6
  go_wp2_with fail
  refine (rowL_b _ ls _ (HS1.out.below hS6) (by omega) HF.out).mono ?_
  rintro e w7 ⟨rfl, hB7⟩
  have hS7 := below2 hS6 hB7
  clear hS6 hB7
  go_wp2_with fail
  refine (laid_calls _).mono ?_
  rintro e w8 ⟨rfl, hB8⟩
  have hS8 := below2 hS7 hB8
  clear hS7 hB8
  go_wp2_with fail
  refine (texts_calls _ _ ls ls _ (HC.out.below (below2 hB1 hS8)) (HS1.out.below hS8) (by omega)).mono ?_
  rintro e w9 ⟨rfl, hB9⟩
  have hBf := below3 hB1 hS8 hB9
  clear hB1 hS8 hB9
  go_wp2_with fail
  go_ret
  exact ⟨rfl, hBf⟩

theorem lays_walk (n : Int) (s : List UInt8) (v : Value) (ls : List (List UInt8)) (w : World) (_ : (Lit.int .i64 n).wf = true) (hms : s.length ≤ maxLen) (hstrs : Strs w v ls) (hm : ls.length ≤ maxLen) :
    Calls Try.prog 3 #[.int .i64 n, .string ⟨s.toArray⟩, v] w fun e w' => e = .returned (.bool true) ∧ Below w.heap.size w w' := by
  unfold maxLen at hms hm
  by_cases hsk : 5000 < s.length ∨ farB ls = true
  · exact lays_skip n s v ls w (by omega) hstrs (by omega) hsk
  · have hfar : farB ls = false := by
      cases h : farB ls with
      | true => exact absurd (.inr h) hsk
      | false => rfl
    exact lays_main n s v ls w (by omega) hstrs hfar

set_option linter.unusedVariables false
set_option maxRecDepth 100000 in
theorem codecLays_lifted (os : Os) (started : os.Started) (H : Type) (enc : TypeId × Value → H) :
    ReturnsInHanded {} Try.checked os 3 .any (Rows.codecLaysSpec.pre6 enc Try.prog Try.f3 Rows.codecLaysRow.domain false) (Rows.codecLaysSpec.post enc Try.prog Try.f3 false true false false) := by
  refine returnsInHanded_of_change (C := Try.checked) own_knob started (by kernel_rfl) Try.func3
    (ChangeSpec.witness6 (enc := enc) (C := Try.checked) false ⟨#[], #[.int .i64 0, .string ⟨#[]⟩, .slice none 0 0], []⟩ 8 (by kernel_rfl) (by kernel_rfl) (by kernel_rfl) (by kernel_rfl)) ?_
  intro W base args ds gs before hval0 hW hcnd _
  have hval : ∀ (j : Nat) t v, Try.f3.params[j]? = some t → args[j]? = some v → Value.okWide Try.prog W .any base t v := hval0
  have hW' := hW
  obtain ⟨p, q, hA0, hV, rfl, hfz, hnd⟩ := hW
  have hA : DataW.TrodAll enc Try.prog W 0 (fun _ => true) true Try.f3.params.toList args.toList ds p := hA0
  rw [Try.params3] at hA hval
  obtain ⟨v0, vs0, d0, ds0, p0, q0, hargs, rfl, rfl, h0, r0⟩ := trodAll_cons hA
  obtain ⟨v1, vs1, d1, ds1, p1, q1, rfl, rfl, rfl, h1, r1⟩ := trodAll_cons r0
  obtain ⟨v2, vs2, d2, ds2, p2, q2, rfl, rfl, rfl, h2, r2⟩ := trodAll_cons r1
  obtain ⟨rfl, rfl, rfl⟩ := trodAll_nil r2
  obtain rfl : args = #[v0, v1, v2] := by cases args; simp_all
  obtain ⟨rfl, rfl⟩ := trodVars_none hV
  have k0 := h0
  have lt0 : ∀ x ∈ p0, x.block < W.heap.size := by obtain ⟨m, hm⟩ := k0; exact DataW.trod_lt m _ _ _ hm
  have k1 := h1
  have lt1 : ∀ x ∈ p1, x.block < W.heap.size := by obtain ⟨m, hm⟩ := k1; exact DataW.trod_lt m _ _ _ hm
  have k2 := h2
  have lt2 : ∀ x ∈ p2, x.block < W.heap.size := by obtain ⟨m, hm⟩ := k2; exact DataW.trod_lt m _ _ _ hm
  obtain ⟨a0, rfl, e0, f0, w0⟩ := open_int Try.underlying3 (hval 0 3 v0 rfl rfl) h0
  obtain ⟨s1, rfl, e1, f1, w1⟩ := open_string Try.underlying9 (hval 1 9 v1 rfl rfl) h1
  obtain ⟨l1, rfl⟩ := bytes_list s1
  rw [size_mk] at w1
  obtain ⟨ls2, w2, x2⟩ := strs_open (hval 2 22 v2 rfl rfl) h2
  refine (lays_walk a0 l1 v2 ls2 W w0 w1 w2 x2).mono fun e W' ⟨he, bel⟩ => ?_
  subst he
  exact ⟨_, rfl, _, _, _, [], _, [], hW', trodAll_mk1 (shut_bool Try.underlying4 _), (trodAll_cons_mk (Below.trod laid_out (by kernel_rfl) (of_decide_eq_true (by kernel_rfl)) k0 bel lt0) (trodAll_cons_mk (Below.trod laid_out (by kernel_rfl) (of_decide_eq_true (by kernel_rfl)) k1 bel lt1) (trodAll_cons_mk (Below.trod laid_out (by kernel_rfl) (of_decide_eq_true (by kernel_rfl)) k2 bel lt2) trodAll_mk0))), rfl, bel.frame _, fun h => by cases h⟩

theorem codecLays_holds : Rows.CodecLaysSaid :=
  OpenClaim.holds_of_wide 3 Try.f3 rfl rfl rfl rfl rfl rfl rfl ⟨rfl, rfl, rfl, rfl, rfl⟩ rfl rfl rfl rfl rfl (by kernel_rfl) Try.func3 (by kernel_rfl)
    (of_decide_eq_true (by kernel_rfl)) (by unfold Func.isWrapper; first | (rw [if_pos (by decide +kernel)]; kernel_rfl) | (rw [if_neg (by decide +kernel)]; exact ⟨rfl, rfl⟩))
    (fun os started H enc _ => codecLays_lifted os started H enc)

end Go.Proofs.Ytclfemhlonobiaa
