/-
  The statement CodecSame is proved: for every text the law returns true, and the argument reads as it did. No condition.
-/
import Derived.Test.YtclfemhlonobiaaRises
import Derived.Test.YtclfemhlonobiaaMath2
namespace Go.Proofs.Ytclfemhlonobiaa
open Go.ChangeShapes Go.WideShapes Go.ChangeAt Go.RowKit
open Go.ChangeMaps (open_string shut_string)

theorem getNumber_any (s : List UInt8) (hm : s.length ≤ 4611686018427387904) (w : World) :
    Calls Try.prog 18 #[.string ⟨s.toArray⟩] w fun e w' => ∃ (n : Nat) (r : List UInt8) (ok : Bool), e = .returned (.tuple #[.int .i64 n, .string ⟨r.toArray⟩, .bool ok]) ∧ n ≤ 4294967295 ∧ (ok = true → s = numB n ++ r) ∧ Below w.heap.size w w' := by
  cases h : getN s with
  | none => exact (GetNumber_none s hm h w).mono fun e w' hp => ⟨0, [], false, hp.1, by omega, by simp, hp.2⟩
  | some p => exact (GetNumber_some s hm h w).mono fun e w' hp => ⟨p.1, p.2, true, hp.1, (getN_laid h).2, fun _ => (getN_laid h).1, hp.2⟩

theorem getText_any (s : List UInt8) (hm : s.length ≤ 4611686018427387904) (w : World) :
    Calls Try.prog 20 #[.string ⟨s.toArray⟩] w fun e w' => ∃ (t r : List UInt8) (ok : Bool), e = .returned (.tuple #[.string ⟨t.toArray⟩, .string ⟨r.toArray⟩, .bool ok]) ∧ t.length ≤ 4000 ∧ (ok = true → s = txtB t ++ r) ∧ Below w.heap.size w w' := by
  cases h : getT s with
  | none => exact (GetText_none s hm h w).mono fun e w' hp => ⟨[], [], false, hp.1, by simp, by simp, hp.2⟩
  | some p => exact (GetText_some s hm h w).mono fun e w' hp => ⟨p.1, p.2, true, hp.1, (getT_laid h).2, fun _ => (getT_laid h).1, hp.2⟩

/-- What a slice of texts that the call owns reads as. -/
theorem strs_own {w : World} {base : Nat} {v : Value} {ts : List (List UInt8)} (h : w.ownsRow base 9 1 v ts.length (ts.map SV)) : Strs w v ts := by
  rcases h.2 with ⟨rfl, hn⟩ | ⟨g, cap, cur, rfl, _⟩
  · have : ts = [] := List.eq_nil_of_length_eq_zero hn
    subst this
    exact ⟨none, 0, rfl, .inl rfl⟩
  · refine ⟨_, cap, rfl, .inr ⟨g, 0, rfl, fun i hi => ?_⟩⟩
    have h1 := h.cells (g := g) rfl i (SV ts[i]) (by simp [List.getElem?_eq_getElem hi])
    rw [Go.WideShapes.add_plain] at h1
    exact h1

theorem getRow_any (s : List UInt8) (hm : s.length ≤ 4611686018427387904) (w : World) :
    Calls Try.prog 22 #[.string ⟨s.toArray⟩] w fun e w' => ∃ (v : Value) (ts : List (List UInt8)) (r : List UInt8) (ok : Bool), e = .returned (.tuple #[v, .string ⟨r.toArray⟩, .bool ok]) ∧ Strs w' v ts ∧ ts.length ≤ 1000 ∧ rowOut ts = (rowB ts, 0) ∧ (ok = true → s = rowB ts ++ r) ∧ Below w.heap.size w w' := by
  cases h : getR s with
  | none => exact (GetRow_none s hm h w).mono fun e w' hp => ⟨.slice none 0 0, [], [], false, hp.1, ⟨none, 0, rfl, .inl rfl⟩, by simp, rowOut_fine (by simp) (by simp), by simp, hp.2⟩
  | some p =>
    obtain ⟨ts, r⟩ := p
    obtain ⟨e1, e2, e3⟩ := getR_laid h
    refine (GetRow_some s hm h w).mono fun e w' hp => ?_
    obtain ⟨v, he, hB, ho⟩ := hp
    exact ⟨v, ts, r, true, he, strs_own ho, e2, rowOut_fine e2 e3, fun _ => e1, hB⟩

theorem row_any (v : Value) (ls : List (List UInt8)) (w : World) (hs : Strs w v ls) (h : ls.length ≤ 1000) (ho : rowOut ls = (rowB ls, 0)) :
    Calls Try.prog 14 #[v] w fun e w' => e = .returned (.tuple #[.string ⟨(rowB ls).toArray⟩, .int .i64 0]) ∧ Below w.heap.size w w' :=
  (row_short v ls w hs h).mono fun e w' hp => by rw [ho] at hp; exact hp

theorem app_mk (a b : List UInt8) : ByteArray.mk a.toArray ++ ByteArray.mk b.toArray = ⟨(a ++ b).toArray⟩ := by
  apply ByteArray.ext
  simp
attribute [local go_sem] app_mk

set_option maxRecDepth 100000 in
set_option maxHeartbeats 4000000 in
theorem same_long (s : List UInt8) (w : World) (hm : s.length ≤ 9223372036854775807) (hl : 1000 < s.length) : Calls Try.prog 6 #[.string ⟨s.toArray⟩] w fun e w' => e = .returned (.bool true) ∧ Below w.heap.size w w' := by
  go_enter Try.func6, Try.ntmps6
  go_wp2_with fail
  go_ret
  exact ⟨rfl, Below.refl _ _⟩

set_option maxRecDepth 100000 in
set_option maxHeartbeats 8000000 in
theorem same_short (s : List UInt8) (w : World) (hl2 : s.length ≤ 1000) : Calls Try.prog 6 #[.string ⟨s.toArray⟩] w fun e w' => e = .returned (.bool true) ∧ Below w.heap.size w w' := by
  go_enter Try.func6, Try.ntmps6
  go_wp2_with fail
  refine (getNumber_any s (by omega) _).mono ?_
  rintro e w1 ⟨n, r, ok, rfl, hn, hs, hB1⟩
  have HS := Lib.hid hs
  clear hs
  go_wp2_with fail
  refine (number_ok n hn _).mono ?_
  rintro e w2 ⟨rfl, hB2⟩
  have hB := below2 hB1 hB2
  clear hB1 hB2
  cases ok
  case' true =>
    have hs := HS.out rfl
    have heq : (numB n ++ r == s) = true := by rw [hs]; simp
    have hsum : (numB n).length + r.length ≤ 1000 := by rw [← List.length_append, ← hs]; exact hl2
    clear hs
  all_goals
    clear HS
    go_wp2_with fail
    refine (getText_any s (by omega) _).mono ?_
    rintro e w3 ⟨t, r2, ok2, rfl, ht, hs2, hB3⟩
    have HS2 := Lib.hid hs2
    clear hs2
    go_wp2_with fail
    refine (text_ok t ht _).mono ?_
    rintro e w4 ⟨rfl, hB4⟩
    have hB' := below3 hB hB3 hB4
    clear hB hB3 hB4
    cases ok2
    case' true =>
      have hs2 := HS2.out rfl
      have heq2 : (txtB t ++ r2 == s) = true := by rw [hs2]; simp
      have hsum2 : (txtB t).length + r2.length ≤ 1000 := by rw [← List.length_append, ← hs2]; exact hl2
      clear hs2
    all_goals
      clear HS2
      go_wp2_with fail
      refine (getRow_any s (by omega) _).mono ?_
      rintro e w5 ⟨v, ts, r3, ok3, rfl, hstrs, hts, ho, hs3, hB5⟩
      have HS3 := Lib.hid hs3
      have HO := Lib.hid ho
      clear hs3 ho
      obtain ⟨ao, cap, rfl⟩ : ∃ ao cap, v = .slice ao ts.length cap := by obtain ⟨ao, cap, h, _⟩ := hstrs; exact ⟨ao, cap, h⟩
      go_wp2_with fail
      refine (row_any _ ts _ hstrs hts HO.out).mono ?_
      rintro e w6 ⟨rfl, hB6⟩
      have hB'' := below3 hB' hB5 hB6
      clear hB' hB5 hB6 hstrs HO
      go_wp2_with fail
      refine (laid_calls _).mono ?_
      rintro e w7 ⟨rfl, hB7⟩
      have hBB := below2 hB'' hB7
      clear hB'' hB7
      cases ok3
      case' true =>
        have hs3 := HS3.out rfl
        have heq3 : (rowB ts ++ r3 == s) = true := by rw [hs3]; simp
        have hsum3 : (rowB ts).length + r3.length ≤ 1000 := by rw [← List.length_append, ← hs3]; exact hl2
        clear hs3
      all_goals
        clear HS3
        go_wp2_with fail
        go_ret
        exact ⟨rfl, hBB⟩

theorem same_walk (s : List UInt8) (w : World) (hm : s.length ≤ maxLen) : Calls Try.prog 6 #[.string ⟨s.toArray⟩] w fun e w' => e = .returned (.bool true) ∧ Below w.heap.size w w' := by
  unfold maxLen at hm
  by_cases hl : 1000 < s.length
  · exact same_long s w (by omega) hl
  · exact same_short s w (by omega)

set_option linter.unusedVariables false
set_option maxRecDepth 100000 in
theorem codecSame_lifted (os : Os) (started : os.Started) (H : Type) (enc : TypeId × Value → H) :
    ReturnsInHanded {} Try.checked os 6 .any (Rows.codecSameSpec.pre6 enc Try.prog Try.f6 Rows.codecSameRow.domain false) (Rows.codecSameSpec.post enc Try.prog Try.f6 false true false false) := by
  refine returnsInHanded_of_change (C := Try.checked) own_knob started (by kernel_rfl) Try.func6
    (ChangeSpec.witness6 (enc := enc) (C := Try.checked) false ⟨#[], #[.string ⟨#[]⟩], []⟩ 8 (by kernel_rfl) (by kernel_rfl) (by kernel_rfl) (by kernel_rfl)) ?_
  intro W base args ds gs before hval0 hW hcnd _
  have hval : ∀ (j : Nat) t v, Try.f6.params[j]? = some t → args[j]? = some v → Value.okWide Try.prog W .any base t v := hval0
  have hW' := hW
  obtain ⟨p, q, hA0, hV, rfl, hfz, hnd⟩ := hW
  have hA : DataW.TrodAll enc Try.prog W 0 (fun _ => true) true Try.f6.params.toList args.toList ds p := hA0
  rw [Try.params6] at hA hval
  obtain ⟨v0, vs0, d0, ds0, p0, q0, hargs, rfl, rfl, h0, r0⟩ := trodAll_cons hA
  obtain ⟨rfl, rfl, rfl⟩ := trodAll_nil r0
  obtain rfl : args = #[v0] := by cases args; simp_all
  obtain ⟨rfl, rfl⟩ := trodVars_none hV
  have k0 := h0
  have lt0 : ∀ x ∈ p0, x.block < W.heap.size := by obtain ⟨m, hm⟩ := k0; exact DataW.trod_lt m _ _ _ hm
  obtain ⟨s0, rfl, e0, f0, w0⟩ := open_string Try.underlying9 (hval 0 9 v0 rfl rfl) h0
  obtain ⟨l0, rfl⟩ := bytes_list s0
  rw [size_mk] at w0
  refine (same_walk l0 W w0).mono fun e W' ⟨he, bel⟩ => ?_
  subst he
  exact ⟨_, rfl, _, _, _, [], _, [], hW', trodAll_mk1 (shut_bool Try.underlying4 _), (trodAll_cons_mk (Below.trod laid_out (by kernel_rfl) (of_decide_eq_true (by kernel_rfl)) k0 bel lt0) trodAll_mk0), rfl, bel.frame _, fun h => by cases h⟩

theorem codecSame_holds : Rows.CodecSameSaid :=
  OpenClaim.holds_of_wide 6 Try.f6 rfl rfl rfl rfl rfl rfl rfl ⟨rfl, rfl, rfl, rfl, rfl⟩ rfl rfl rfl rfl rfl (by kernel_rfl) Try.func6 (by kernel_rfl)
    (of_decide_eq_true (by kernel_rfl)) (by unfold Func.isWrapper; first | (rw [if_pos (by decide +kernel)]; kernel_rfl) | (rw [if_neg (by decide +kernel)]; exact ⟨rfl, rfl⟩))
    (fun os started H enc _ => codecSame_lifted os started H enc)


end Go.Proofs.Ytclfemhlonobiaa
