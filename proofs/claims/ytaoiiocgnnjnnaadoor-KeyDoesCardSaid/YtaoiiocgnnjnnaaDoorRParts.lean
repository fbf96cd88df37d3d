/-
  The document's own Parts, name.
-/
import Derived.Test.YtaoiiocgnnjnnaaDoorPName
import Derived.WalkMore
namespace Go.Proofs.YtaoiiocgnnjnnaaDoor
open Go.RowKit

theorem ext_mid (s : List UInt8) (a b : Nat) : (ByteArray.mk s.toArray).extract a b = ⟨((s.take b).drop a).toArray⟩ := by
  apply ByteArray.ext
  apply Array.toList_inj.1
  rw [Lib.extract_data]
  simp [List.drop_take]
attribute [local go_sem] at_str ext_mid app_mk

/-- done are the parts that end ahead of i; the next one begins at a. -/
def PartsTo (s : List UInt8) (a i : Nat) (done : List (List UInt8)) : Prop := a ≤ i ∧ (47 : UInt8) ∉ (s.take i).drop a ∧ cut s = done ++ cut (s.drop a) ∧ done.length ≤ i
theorem partsTo_zero (s : List UInt8) : PartsTo s 0 0 [] := ⟨Nat.le_refl _, by simp, by simp, by simp⟩
theorem partsTo_slash {s : List UInt8} {a i : Nat} {done : List (List UInt8)} (h : PartsTo s a i done) (hi : i < s.length) (hs : s[i] = 47) : PartsTo s (i + 1) (i + 1) (done ++ [(s.take i).drop a]) := by
  obtain ⟨h1, h2, h3, h4⟩ := h
  refine ⟨Nat.le_refl _, by simp, ?_, by simp; omega⟩
  have e : s.drop a = (s.take i).drop a ++ 47 :: s.drop (i + 1) := by
    have : s = s.take i ++ 47 :: s.drop (i + 1) := by
      rw [← hs, ← List.drop_eq_getElem_cons hi, List.take_append_drop]
    conv => lhs; rw [this]
    rw [List.drop_append_of_le_length (by simp; omega)]
  rw [h3, e, cut_app, cut_plain h2]
  simp
theorem partsTo_other {s : List UInt8} {a i : Nat} {done : List (List UInt8)} (h : PartsTo s a i done) (hi : i < s.length) (hs : s[i] ≠ 47) : PartsTo s a (i + 1) done := by
  obtain ⟨h1, h2, h3, h4⟩ := h
  refine ⟨by omega, ?_, h3, by omega⟩
  rw [List.take_succ_eq_append_getElem hi, List.drop_append_of_le_length (by simp; omega)]
  intro hm
  rcases List.mem_append.1 hm with hm | hm
  · exact h2 hm
  · simp at hm; exact hs hm.symm
theorem partsTo_end {s : List UInt8} {a : Nat} {done : List (List UInt8)} (h : PartsTo s a s.length done) : done ++ [s.drop a] = cut s := by
  obtain ⟨h1, h2, h3, h4⟩ := h
  rw [List.take_length] at h2
  rw [h3, cut_plain h2]

set_option maxHeartbeats 4000000 in
theorem parts_calls (s : List UInt8) (h : s.length ≤ 1000000) (w : World) :
    Calls Tryd.prog 35 #[.string ⟨s.toArray⟩] w fun e w' => ∃ v, e = .returned v ∧ w'.ownsRow w.heap.size 9 1 v (cut s).length ((cut s).map SV) ∧ Below w.heap.size w w' := by
  obtain ⟨i0, hi, hz0, hz1, hz2⟩ := info_parts info9
  go_enter Tryd.func35, Tryd.ntmps35
  go_wp2_with fail
  go_loopw [3, 4, 5] (fun v a i wr => ∃ (x k : Nat) (done : List (List UInt8)), k ≤ s.length ∧ a = .int .i64 x ∧ i = .int .i64 k ∧ PartsTo s x k done ∧ wr.ownsRow w.heap.size 9 1 v done.length (done.map SV) ∧ Below w.heap.size w wr) (fun _ _ i _ => s.length - (intOf i).toNat)
  case atStart => exact ⟨0, 0, [], Nat.zero_le _, rfl, rfl, partsTo_zero s, World.ownsRow_nil _ _ _ _, Below.refl _ _⟩
  case round =>
    obtain ⟨x, k, done, hk, rfl, rfl, hp, hown, hB⟩ := hrel
    have hxk := hp.1
    have hdl := hp.2.2.2
    have HP := Lib.hid hp
    clear hp
    by_cases hlt : k < s.length
    · by_cases hs : s[k] = 47
      · have HS := Lib.hid (partsTo_slash HP.out hlt hs)
        have hb : ((s[k].toNat : Int) == 47) = true := by rw [hs]; rfl
        clear hs
        go_wp2_with (at_builtin; refine wpList_append_own _ rfl _ _ 41 rfl w.heap.size 9 i0 (.string ⟨#[]⟩) 1 16 Tryd.underlying41 hi hz0 hz1 hz2 rfl (by decide) _ _ _ rfl (hown.alloc _) ⟨wr.heap.size, 0, none⟩ 1 1 [.string ⟨((s.take k).drop x).toArray⟩] rfl rfl (cell_one_new _ _ _) (by simp [Value.oneCell']) (by unfold maxLen; omega) (by omega) (by have := hB.size; simp; omega) ?_; intro v3 w3 hown3 hg3 _)
        go_roundw
        case rel => exact ⟨k + 1, k + 1, done ++ [(s.take k).drop x], by omega, by go_num, by go_num, HS.out, by simpa [SV] using hown3, (hB.alloc hB.size _).grown hg3 (by have := hB.size; simp; omega) (fun j e => (hown.lt j e).1)⟩
        case measure => simp [intOf]; omega
      · have HS := Lib.hid (partsTo_other HP.out hlt hs)
        have hb : ((s[k].toNat : Int) == 47) = false := by
          rw [beq_eq_false_iff_ne]
          intro e
          have e2 : s[k].toNat = 47 := by omega
          exact hs (UInt8.toNat_inj.1 e2)
        clear hs
        go_wp2_with fail
        go_roundw
        case rel => exact ⟨x, k + 1, done, by omega, rfl, by go_num, HS.out, hown, hB⟩
        case measure => simp [intOf]; omega
    · obtain rfl : k = s.length := by omega
      have HE := Lib.hid (partsTo_end HP.out)
      go_wp2_with (at_builtin; refine wpList_append_own _ rfl _ _ 41 rfl w.heap.size 9 i0 (.string ⟨#[]⟩) 1 16 Tryd.underlying41 hi hz0 hz1 hz2 rfl (by decide) _ _ _ rfl (hown.alloc _) ⟨wr.heap.size, 0, none⟩ 1 1 [.string ⟨(s.drop x).toArray⟩] rfl rfl (cell_one_new _ _ _) (by simp [Value.oneCell']) (by unfold maxLen; omega) (by omega) (by have := hB.size; simp; omega) ?_; intro v3 w3 hown3 hg3 _)
      go_ret
      refine ⟨v3, rfl, ?_, (hB.alloc hB.size _).grown hg3 (by have := hB.size; simp; omega) (fun j e => (hown.lt j e).1)⟩
      rw [← HE.out]
      simpa [SV] using hown3

theorem byte_ne {b c : UInt8} (h : b ≠ c) : ((b.toNat : Int) == (c.toNat : Int)) = false := by
  rw [beq_eq_false_iff_ne]
  intro e
  have e2 : b.toNat = c.toNat := by omega
  exact h (UInt8.toNat_inj.1 e2)

/-- Among the first k bytes is no 0. -/
def noZero (l : List UInt8) (k : Nat) : Prop := (0 : UInt8) ∉ l.take k
theorem noZero_succ {l : List UInt8} {k : Nat} (h : noZero l k) (hk : k < l.length) (h0 : l[k] ≠ 0) : noZero l (k + 1) := by
  unfold noZero at h ⊢
  rw [List.take_succ_eq_append_getElem hk]
  intro hm
  rcases List.mem_append.1 hm with hm | hm
  · exact h hm
  · simp at hm; exact h0 hm.symm
theorem zero_nm {l : List UInt8} {k : Nat} (hk : k < l.length) (h0 : l[k] = 0) : isNm l = false := by
  have : l.contains 0 = true := by
    rw [List.contains_iff_mem, ← h0]; exact List.getElem_mem hk
  simp [isNm]
  intros
  simpa using this

set_option maxHeartbeats 4000000 in
theorem name_calls (l : List UInt8) (hl : l.length ≤ 1000000) (hs : (47 : UInt8) ∉ l) (w : World) :
    Calls Tryd.prog 36 #[.string ⟨l.toArray⟩] w fun e w' => e = .returned (.bool (isNm l)) ∧ w = w' := by
  go_enter Tryd.func36, Tryd.ntmps36
  go_wp2_with fail
  go_loop [3] (fun i => ∃ k : Nat, k ≤ l.length ∧ i = .int .i64 k ∧ noZero l k) (fun i => l.length - (intOf i).toNat)
  case atStart => exact ⟨0, Nat.zero_le _, rfl, by simp [noZero]⟩
  case round =>
    obtain ⟨k, hk, rfl, hn⟩ := hrel
    by_cases hlt : k < l.length
    · have b47 : ((l[k].toNat : Int) == 47) = false := byte_ne (b := l[k]) (c := 47) (fun e => hs (e ▸ List.getElem_mem hlt))
      by_cases h0 : l[k] = 0
      · have HN := Lib.hid (zero_nm hlt h0)
        have b0 : ((l[k].toNat : Int) == 0) = true := by rw [h0]; rfl
        clear h0 hs
        go_wp2_with fail
        go_ret
        exact ⟨by rw [HN.out]; rfl, rfl⟩
      · have b0 : ((l[k].toNat : Int) == 0) = false := byte_ne (b := l[k]) (c := 0) h0
        have HS := Lib.hid (noZero_succ hn hlt h0)
        clear h0 hs
        go_wp2_with fail
        go_round
        case rel => exact ⟨k + 1, by omega, by go_num, HS.out⟩
        case measure => simp [intOf]; omega
    · obtain rfl : k = l.length := by omega
      have hc : l.contains 0 = false := by
        unfold noZero at hn
        rw [List.take_length] at hn
        simpa using hn
      clear hn hs hlt
      by_cases h1 : l = []
      · subst h1
        go_wp2_with fail
        go_ret
        exact ⟨rfl, rfl⟩
      have hpos : 1 ≤ l.length := List.length_pos_iff.2 h1
      by_cases h2 : l.length ≤ 30
      · have H := Lib.hid (show isNm l = (!(l == [46]) && !(l == [46, 46])) by
          have b1 : (l == []) = false := by simpa using h1
          simp only [isNm, hc, b1, decide_eq_true h2, Bool.not_false, Bool.true_and, Bool.and_true])
        cases b3 : (l == [46]) with
        | true =>
          rw [b3] at H
          clear h1 hc
          go_wp2_with fail
          go_ret
          exact ⟨by rw [H.out]; rfl, rfl⟩
        | false =>
          rw [b3] at H
          cases b4 : (l == [46, 46]) with
          | true =>
            rw [b4] at H
            clear h1 hc
            go_wp2_with fail
            go_ret
            exact ⟨by rw [H.out]; rfl, rfl⟩
          | false =>
            rw [b4] at H
            clear h1 hc
            go_wp2_with fail
            go_ret
            exact ⟨by rw [H.out]; rfl, rfl⟩
      · have H := Lib.hid (show isNm l = false by simp [isNm, h2])
        have h3 : 30 < l.length := by omega
        clear h1 h2 hc
        go_wp2_with fail
        go_ret
        exact ⟨by rw [H.out]; rfl, rfl⟩

end Go.Proofs.YtaoiiocgnnjnnaaDoor
