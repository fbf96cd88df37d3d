/-
  What the laws of chains lean on: Describe in two cases; texts without those of a sum.
-/
import Derived.Test.YtinbeapkhmcifaaDoorChKnown
import Derived.Test.YtinbeapkhmcifaaDoorChTwins
namespace Go.Proofs.YtinbeapkhmcifaaDoor
set_option maxRecDepth 100000
open Go.RowKit

theorem desc_yes {s : List UInt8} {n d : Int} (h : descE s n d = 0) : cutE s n = 0 ∧ metaB s.length d (sumsL (cutL s n)) = true := by
  by_cases hc : cutE s n = 0
  · refine ⟨hc, ?_⟩
    cases hm : metaB s.length d (sumsL (cutL s n)) with
    | true => rfl
    | false => rw [(desc_bad hc hm).1] at h; cases h
  · rw [(desc_cut hc).1] at h
    exact absurd h hc
theorem desc_not {s : List UInt8} {n d : Int} (h : descE s n d ≠ 0) : descL s n d = [] ∧ descZ s n d = 0 ∧ descD s n d = 0 ∧ descS s n d = [] := by
  by_cases hc : cutE s n = 0
  · cases hm : metaB s.length d (sumsL (cutL s n)) with
    | true => exact absurd (desc_ok hc hm).1 h
    | false => exact (desc_bad hc hm).2
  · exact (desc_cut hc).2

theorem cdesc_yes {s : List UInt8} {n d : Int} (hs : s.length ≤ 1000000) {w : World} (hT : TabOk w) (h : descE s n d = 0) {L : List (List UInt8)} (hL : L = cutL s n) :
    Calls Tryd.prog 12 #[.string ⟨s.toArray⟩, .int .i64 n, .int .i64 d] w fun e w' => ∃ ao cap av vc, e = .returned (.tuple #[MV s.length d (.slice ao L.length cap), .slice av L.length vc, .int .i64 0]) ∧
      Ints w' (.slice ao L.length cap) (sumsL L) ∧ Txts w' (.slice av L.length vc) L ∧ Below w.heap.size w w' := by
  subst hL
  obtain ⟨h1, h2⟩ := desc_yes h
  obtain ⟨e1, e2, e3, e4, e5⟩ := desc_ok h1 h2
  refine (cdesc_calls s n d hs w hT).mono fun e w' ⟨u, v, he, hI, hL, hB⟩ => ?_
  rw [e1, e3, e4] at he
  rw [e5] at hI
  rw [e2] at hL
  obtain ⟨ao, cap, rfl⟩ := (ints_own hI).form
  obtain ⟨av, vc, rfl⟩ := (ownL_txts hL).strs.form
  have hl := sums_len (cutL s n)
  have hI2 := ints_own hI
  rw [hl] at he hI2
  exact ⟨ao, cap, av, vc, he, hI2, ownL_txts hL, hB⟩
theorem cdesc_not {s : List UInt8} {n d : Int} (hs : s.length ≤ 1000000) {w : World} (hT : TabOk w) (h : descE s n d ≠ 0) {E : Int} (hE : E = descE s n d) :
    Calls Tryd.prog 12 #[.string ⟨s.toArray⟩, .int .i64 n, .int .i64 d] w fun e w' => ∃ au cu av vc, e = .returned (.tuple #[MV 0 0 (.slice au 0 cu), .slice av 0 vc, .int .i64 E]) ∧ Below w.heap.size w w' := by
  subst hE
  obtain ⟨e2, e3, e4, e5⟩ := desc_not h
  refine (cdesc_calls s n d hs w hT).mono fun e w' ⟨u, v, he, hI, hL, hB⟩ => ?_
  rw [e3, e4] at he
  rw [e2] at hL
  rw [e5] at hI
  obtain ⟨av, vc, rfl⟩ := (ownL_txts hL).strs.form
  obtain ⟨au, cu, rfl⟩ := (ints_own hI).form
  exact ⟨au, cu, av, vc, he, hB⟩

/-- Texts without those of a sum. -/
def lessL (L : List (List UInt8)) (c : Int) : List (List UInt8) := L.filter fun t => ((sumN t : Nat) : Int) != c
theorem less_take {L : List (List UInt8)} {c : Int} {k : Nat} (hk : k < L.length) : lessL (L.take (k + 1)) c = if ((sumN L[k] : Nat) : Int) = c then lessL (L.take k) c else lessL (L.take k) c ++ [L[k]] := by
  unfold lessL
  rw [List.take_succ_eq_append_getElem hk, List.filter_append]
  by_cases h : ((sumN L[k] : Nat) : Int) = c
  · rw [if_pos h]; simp [h]
  · rw [if_neg h]; simp [h]
theorem less_len (L : List (List UInt8)) (c : Int) : (lessL L c).length ≤ L.length := List.length_filter_le _ _
theorem less_lens {m : Nat} {L : List (List UInt8)} (h : LenL m L) (c : Int) : LenL m (lessL L c) := fun t ht => h t (List.mem_filter.1 ht).1
theorem less_has (L : List (List UInt8)) (c : Int) : hasSum (lessL L c) c = false := by
  rw [hasSum, List.any_eq_false]
  intro t ht
  have := (List.mem_filter.1 ht).2
  simpa using this
theorem less_all {L : List (List UInt8)} {k : Nat} (hk : k < L.length) {c : Int} (hc : c = ((sumN L[k] : Nat) : Int)) : allB (lessL L c) (sumsL L) = false := by
  have hk2 : k < (sumsL L).length := by rw [sums_len]; exact hk
  refine all_not hk2 ?_
  have : (sumsL L)[k] = c := by rw [hc]; simp [sumsL]
  rw [this]
  exact less_has L c
theorem have_less {l : List (List UInt8)} {cs : List Int} (h : allB l cs = false) : (haveL l cs cs.length).length < cs.length := by
  unfold haveL
  rw [List.length_map]
  have h2 : ((List.range cs.length).filter fun i => hasSum l (cs.getD i 0)).length < (List.range cs.length).length := by
    rw [List.length_filter_lt_length_iff_exists]
    unfold allB at h
    rw [List.all_eq_false] at h
    obtain ⟨c, hc, hn⟩ := h
    obtain ⟨i, hi, rfl⟩ := List.getElem_of_mem hc
    exact ⟨i, List.mem_range.2 hi, by simpa [List.getD_eq_getElem?_getD, List.getElem?_eq_getElem hi] using hn⟩
  rwa [List.length_range] at h2

end Go.Proofs.YtinbeapkhmcifaaDoor
