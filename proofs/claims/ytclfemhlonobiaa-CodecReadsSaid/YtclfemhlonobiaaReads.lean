/-
  The statement CodecReads is proved: for every text the law returns true, and the argument reads as it did. No condition.
-/
import Derived.Test.YtclfemhlonobiaaOwn
import Derived.Test.YtclfemhlonobiaaBack
namespace Go.Proofs.Ytclfemhlonobiaa
open Go.ChangeShapes Go.WideShapes Go.ChangeAt Go.RowKit
open Go.ChangeMaps (open_string shut_string)

def numOut (s : List UInt8) : Nat × List UInt8 × Bool := match getN s with | none => (0, [], false) | some (n, r) => (n, r, true)
def txtOut (s : List UInt8) : List UInt8 × List UInt8 × Bool := match getT s with | none => ([], [], false) | some (t, r) => (t, r, true)
def rowGot (s : List UInt8) : List (List UInt8) × List UInt8 × Bool := match getR s with | none => ([], [], false) | some (t, r) => (t, r, true)

theorem num_a (s : List UInt8) (hm : s.length ≤ 4611686018427387904) (w : World) : Calls Try.prog 18 #[.string ⟨s.toArray⟩] w fun e w' => e = .returned (.tuple #[.int .i64 (numOut s).1, .string ⟨(numOut s).2.1.toArray⟩, .bool (numOut s).2.2]) ∧ Below w.heap.size w w' := by
  unfold numOut
  cases h : getN s with
  | none => exact GetNumber_none s hm h w
  | some p => exact GetNumber_some s hm h w
theorem num_b (s : List UInt8) (hm : s.length ≤ 4611686018427387904) (w : World) : Calls Try.prog 19 #[.string ⟨s.toArray⟩] w fun e w' => e = .returned (.tuple #[.int .i64 (numOut s).1, .string ⟨(numOut s).2.1.toArray⟩, .bool (numOut s).2.2]) ∧ Below w.heap.size w w' := by
  unfold numOut
  cases h : getN s with
  | none => exact refGetNumber_none s hm h w
  | some p => exact refGetNumber_some s hm h w
theorem txt_a (s : List UInt8) (hm : s.length ≤ 4611686018427387904) (w : World) : Calls Try.prog 20 #[.string ⟨s.toArray⟩] w fun e w' => e = .returned (.tuple #[.string ⟨(txtOut s).1.toArray⟩, .string ⟨(txtOut s).2.1.toArray⟩, .bool (txtOut s).2.2]) ∧ Below w.heap.size w w' := by
  unfold txtOut
  cases h : getT s with
  | none => exact GetText_none s hm h w
  | some p => exact GetText_some s hm h w
theorem txt_b (s : List UInt8) (hm : s.length ≤ 4611686018427387904) (w : World) : Calls Try.prog 21 #[.string ⟨s.toArray⟩] w fun e w' => e = .returned (.tuple #[.string ⟨(txtOut s).1.toArray⟩, .string ⟨(txtOut s).2.1.toArray⟩, .bool (txtOut s).2.2]) ∧ Below w.heap.size w w' := by
  unfold txtOut
  cases h : getT s with
  | none => exact refGetText_none s hm h w
  | some p => exact refGetText_some s hm h w
theorem row_a (s : List UInt8) (hm : s.length ≤ 4611686018427387904) (w : World) : Calls Try.prog 22 #[.string ⟨s.toArray⟩] w fun e w' => ∃ ao cap, e = .returned (.tuple #[.slice ao (rowGot s).1.length cap, .string ⟨(rowGot s).2.1.toArray⟩, .bool (rowGot s).2.2]) ∧ Strs w' (.slice ao (rowGot s).1.length cap) (rowGot s).1 ∧ Below w.heap.size w w' := by
  unfold rowGot
  cases h : getR s with
  | none => exact (GetRow_none s hm h w).mono fun e w' hp => ⟨none, 0, hp.1, ⟨none, 0, rfl, .inl rfl⟩, hp.2⟩
  | some p =>
    refine (GetRow_some s hm h w).mono fun e w' hp => ?_
    obtain ⟨v, he, hB, ho⟩ := hp
    obtain ⟨ao, cap, rfl⟩ := (strs_own ho).form
    exact ⟨ao, cap, he, strs_own ho, hB⟩
theorem row_b (s : List UInt8) (hm : s.length ≤ 4611686018427387904) (w : World) : Calls Try.prog 23 #[.string ⟨s.toArray⟩] w fun e w' => ∃ ao cap, e = .returned (.tuple #[.slice ao (rowGot s).1.length cap, .string ⟨(rowGot s).2.1.toArray⟩, .bool (rowGot s).2.2]) ∧ Strs w' (.slice ao (rowGot s).1.length cap) (rowGot s).1 ∧ Below w.heap.size w w' := by
  unfold rowGot
  cases h : getR s with
  | none => exact (refGetRow_none s hm h w).mono fun e w' hp => ⟨none, 0, hp.1, ⟨none, 0, rfl, .inl rfl⟩, hp.2⟩
  | some p =>
    refine (refGetRow_some s hm h w).mono fun e w' hp => ?_
    obtain ⟨v, he, hB, ho⟩ := hp
    obtain ⟨ao, cap, rfl⟩ := (strs_own ho).form
    exact ⟨ao, cap, he, strs_own ho, hB⟩

theorem got_few {s : List UInt8} : (rowGot s).1.length ≤ 1000 := by
  unfold rowGot
  cases h : getR s with
  | none => simp
  | some p => exact (getR_laid h).2.1

set_option maxRecDepth 100000 in
set_option maxHeartbeats 4000000 in
theorem reads_long (s : List UInt8) (w : World) (hm : s.length ≤ 9223372036854775807) (hl : 1000 < s.length) : Calls Try.prog 4 #[.string ⟨s.toArray⟩] w fun e w' => e = .returned (.bool true) ∧ Below w.heap.size w w' := by
  go_enter Try.func4, Try.ntmps4
  go_wp2_with fail
  go_ret
  exact ⟨rfl, Below.refl _ _⟩

set_option maxRecDepth 100000 in
set_option maxHeartbeats 8000000 in
theorem reads_short (s : List UInt8) (w : World) (hl2 : s.length ≤ 1000) : Calls Try.prog 4 #[.string ⟨s.toArray⟩] w fun e w' => e = .returned (.bool true) ∧ Below w.heap.size w w' := by
  have hgf := @got_few s
  go_enter Try.func4, Try.ntmps4
  go_wp2_with fail
  refine (num_a s (by omega) _).mono ?_
  rintro e w1 ⟨rfl, hB1⟩
  go_wp2_with fail
  refine (num_b s (by omega) _).mono ?_
  rintro e w2 ⟨rfl, hB2⟩
  have hBa := below2 hB1 hB2
  clear hB1 hB2
  go_wp2_with fail
  refine (txt_a s (by omega) _).mono ?_
  rintro e w3 ⟨rfl, hB3⟩
  go_wp2_with fail
  refine (txt_b s (by omega) _).mono ?_
  rintro e w4 ⟨rfl, hB4⟩
  have hBb := below3 hBa hB3 hB4
  clear hBa hB3 hB4
  go_wp2_with fail
  refine (row_a s (by omega) _).mono ?_
  rintro e w5 ⟨a5, c5, rfl, hs5, hB5⟩
  have HS5 := Lib.hid hs5
  clear hs5
  have hBc := below2 hBb hB5
  clear hBb hB5
  go_wp2_with fail
  refine (row_b s (by omega) _).mono ?_
  rintro e w6 ⟨a6, c6, rfl, hs6, hB6⟩
  have HS5' := Lib.hid (HS5.out.below hB6)
  have HS6 := Lib.hid hs6
  clear hs6 HS5
  have hBd := below2 hBc hB6
  clear hBc hB6
  go_wp2_with fail
  refine (laid_calls _).mono ?_
  rintro e w7 ⟨rfl, hB7⟩
  have HT5 := Lib.hid (HS5'.out.below hB7)
  have HT6 := Lib.hid (HS6.out.below hB7)
  clear HS5' HS6
  have hBe := below2 hBd hB7
  clear hBd hB7
  go_wp2_with fail
  refine (texts_calls _ _ _ _ _ HT5.out HT6.out (by omega)).mono ?_
  rintro e w8 ⟨rfl, hB8⟩
  have hBf := below2 hBe hB8
  clear hBe hB8
  go_wp2_with fail
  go_ret
  exact ⟨rfl, hBf⟩

theorem reads_walk (s : List UInt8) (w : World) (hm : s.length ≤ maxLen) : Calls Try.prog 4 #[.string ⟨s.toArray⟩] w fun e w' => e = .returned (.bool true) ∧ Below w.heap.size w w' := by
  unfold maxLen at hm
  by_cases hl : 1000 < s.length
  · exact reads_long s w (by omega) hl
  · exact reads_short s w (by omega)

set_option linter.unusedVariables false
set_option maxRecDepth 100000 in
theorem codecReads_lifted (os : Os) (started : os.Started) (H : Type) (enc : TypeId × Value → H) :
    ReturnsInHanded {} Try.checked os 4 .any (Rows.codecReadsSpec.pre6 enc Try.prog Try.f4 Rows.codecReadsRow.domain false) (Rows.codecReadsSpec.post enc Try.prog Try.f4 false true false false) := by
  refine returnsInHanded_of_change (C := Try.checked) own_knob started (by kernel_rfl) Try.func4
    (ChangeSpec.witness6 (enc := enc) (C := Try.checked) false ⟨#[], #[.string ⟨#[]⟩], []⟩ 8 (by kernel_rfl) (by kernel_rfl) (by kernel_rfl) (by kernel_rfl)) ?_
  intro W base args ds gs before hval0 hW hcnd _
  have hval : ∀ (j : Nat) t v, Try.f4.params[j]? = some t → args[j]? = some v → Value.okWide Try.prog W .any base t v := hval0
  have hW' := hW
  obtain ⟨p, q, hA0, hV, rfl, hfz, hnd⟩ := hW
  have hA : DataW.TrodAll enc Try.prog W 0 (fun _ => true) true Try.f4.params.toList args.toList ds p := hA0
  rw [Try.params4] at hA hval
  obtain ⟨v0, vs0, d0, ds0, p0, q0, hargs, rfl, rfl, h0, r0⟩ := trodAll_cons hA
  obtain ⟨rfl, rfl, rfl⟩ := trodAll_nil r0
  obtain rfl : args = #[v0] := by cases args; simp_all
  obtain ⟨rfl, rfl⟩ := trodVars_none hV
  have k0 := h0
  have lt0 : ∀ x ∈ p0, x.block < W.heap.size := by obtain ⟨m, hm⟩ := k0; exact DataW.trod_lt m _ _ _ hm
  obtain ⟨s0, rfl, e0, f0, w0⟩ := open_string Try.underlying9 (hval 0 9 v0 rfl rfl) h0
  obtain ⟨l0, rfl⟩ := bytes_list s0
  rw [size_mk] at w0
  refine (reads_walk l0 W w0).mono fun e W' ⟨he, bel⟩ => ?_
  subst he
  exact ⟨_, rfl, _, _, _, [], _, [], hW', trodAll_mk1 (shut_bool Try.underlying4 _), (trodAll_cons_mk (Below.trod laid_out (by kernel_rfl) (of_decide_eq_true (by kernel_rfl)) k0 bel lt0) trodAll_mk0), rfl, bel.frame _, fun h => by cases h⟩

theorem codecReads_holds : Rows.CodecReadsSaid :=
  OpenClaim.holds_of_wide 4 Try.f4 rfl rfl rfl rfl rfl rfl rfl ⟨rfl, rfl, rfl, rfl, rfl⟩ rfl rfl rfl rfl rfl (by kernel_rfl) Try.func4 (by kernel_rfl)
    (of_decide_eq_true (by kernel_rfl)) (by unfold Func.isWrapper; first | (rw [if_pos (by decide +kernel)]; kernel_rfl) | (rw [if_neg (by decide +kernel)]; exact ⟨rfl, rfl⟩))
    (fun os started H enc _ => codecReads_lifted os started H enc)

end Go.Proofs.Ytclfemhlonobiaa
