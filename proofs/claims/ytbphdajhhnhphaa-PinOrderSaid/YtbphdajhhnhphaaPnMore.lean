/-
  Pins in plain words: by places. No program is named here.
-/
import Derived.Test.YtbphdajhhnhphaaPnSpec
namespace Go.Proofs.Ytbphdajhhnhphaa
set_option maxRecDepth 100000
open Go.RowKit

/-- The first k pins are right, one behind the other. -/
def PinTo (l : List Pn) (k : Nat) : Prop := ∀ i (hi : i < l.length), i < k → oneP l[i] = true ∧ ∀ j (hj : j < l.length), i = j + 1 → l[j].1 < l[i].1
theorem riseN_next {l : List Pn} (h : ∀ i (hi : i + 1 < l.length), l[i].1 < l[i + 1].1) : RiseN l := by
  unfold RiseN
  rw [List.pairwise_iff_getElem]
  intro i j hi hj hij
  induction j with
  | zero => omega
  | succ j ih =>
    by_cases e : i = j
    · subst e
      exact h i hj
    · have h1 := ih (by omega) (by omega)
      have h2 := h j hj
      omega
theorem pinTo_all {l : List Pn} (h : PinTo l l.length) : (∀ p ∈ l, oneP p = true) ∧ RiseN l := by
  refine ⟨fun x hx => ?_, riseN_next fun i hi => (h (i + 1) hi hi).2 i (by omega) rfl⟩
  obtain ⟨i, hi, rfl⟩ := List.getElem_of_mem hx
  exact (h i hi hi).1
theorem pinTo_next {l : List Pn} {k : Nat} (h : PinTo l k) (hk : k < l.length) (h1 : oneP l[k] = true) (h2 : ∀ j (hj : j < l.length), k = j + 1 → l[j].1 < l[k].1) : PinTo l (k + 1) := by
  intro i hi hik
  by_cases e : i = k
  · subst e
    exact ⟨h1, h2⟩
  · exact h i hi (by omega)
theorem pin_not {l : List Pn} {k : Nat} (hk : k < l.length) (h : oneP l[k] = false) : isN l = false := by
  cases hn : isN l with
  | false => rfl
  | true =>
    have := (isN_iff.1 hn).2.1 _ (List.getElem_mem hk)
    rw [h] at this
    cases this
theorem pin_less {l : List Pn} {k j : Nat} (hj : j < l.length) (hk : k < l.length) (e : k = j + 1) (h : l[k].1 ≤ l[j].1) : isN l = false := by
  cases hn : isN l with
  | false => rfl
  | true =>
    have hr := (isN_iff.1 hn).2.2
    unfold RiseN at hr
    rw [List.pairwise_iff_getElem] at hr
    have := hr j k hj hk (by omega)
    omega
theorem pin_all {l : List Pn} (h : PinTo l l.length) : isN l = decide (l.length ≤ 50) := by
  obtain ⟨h1, h2⟩ := pinTo_all h
  by_cases hl : l.length ≤ 50
  · rw [decide_eq_true hl]
    exact isN_iff.2 ⟨hl, h1, h2⟩
  · rw [decide_eq_false hl]
    cases hn : isN l with
    | false => rfl
    | true => exact absurd (isN_iff.1 hn).1 hl
theorem ofN_drop {l : List Pn} {k : Nat} (hk : k < l.length) (s : Int) : ofN (l.drop k) s = if l[k].1 = s then some l[k].2 else ofN (l.drop (k + 1)) s := by
  rw [List.drop_eq_getElem_cons hk, ofN_cons]
/-- The place of a pin: how many stand ahead of it. -/
def placeP (l : List Pn) (s : Int) : Nat := (l.takeWhile fun q => decide (q.1 < s)).length
theorem placeP_le (l : List Pn) (s : Int) : placeP l s ≤ l.length := by
  unfold placeP
  have := congrArg List.length (List.takeWhile_append_dropWhile (p := fun q : Pn => decide (q.1 < s)) (l := l))
  rw [List.length_append] at this
  omega
theorem parts_of {l a b : List Pn} (h : a ++ b = l) : l.take a.length = a ∧ l.drop a.length = b := by
  subst h
  simp
theorem addN_place (l : List Pn) (p : Pn) : addN l p = l.take (placeP l p.1) ++ [p] ++ l.drop (placeP l p.1) := by
  obtain ⟨h1, h2⟩ := parts_of (List.takeWhile_append_dropWhile (p := fun q : Pn => decide (q.1 < p.1)) (l := l))
  unfold placeP
  rw [h1, h2]
  unfold addN
  simp
theorem placeP_ahead {l : List Pn} {s : Int} {k : Nat} (hk : k < l.length) (h : k < placeP l s) : l[k].1 < s := by
  induction l generalizing k with
  | nil => simp at hk
  | cons x r ih =>
    unfold placeP at h
    rw [List.takeWhile_cons] at h
    split at h
    · rename_i hx
      cases k with
      | zero => simpa using hx
      | succ k => exact ih (by simpa using hk) (by simpa [placeP] using h)
    · simp at h
theorem placeP_at {l : List Pn} {s : Int} (hk : placeP l s < l.length) : ¬ l[placeP l s].1 < s := by
  induction l with
  | nil => simp at hk
  | cons x r ih =>
    by_cases hx : x.1 < s
    · have e : placeP (x :: r) s = placeP r s + 1 := by unfold placeP; rw [List.takeWhile_cons, if_pos (by simpa using hx)]; rfl
      have hk2 : placeP r s < r.length := by rw [e] at hk; simpa using hk
      have := ih hk2
      simp only [e, List.getElem_cons_succ]
      exact this
    · have e : placeP (x :: r) s = 0 := by unfold placeP; rw [List.takeWhile_cons, if_neg (by simpa using hx)]; rfl
      simp only [e, List.getElem_cons_zero]
      exact hx
theorem one_isN (p : Pn) : isN [p] = oneP p := by simp [isN, RiseN]
theorem dropN_snoc {l : List Pn} {k : Nat} (hk : k < l.length) (s : Int) : dropN (l.take (k + 1)) s = dropN (l.take k) s ++ (if l[k].1 = s then [] else [l[k]]) := by
  unfold dropN
  rw [List.take_succ_eq_append_getElem hk, List.filter_append]
  congr 1
  by_cases h : l[k].1 = s <;> simp [h]
theorem dropN_len (l : List Pn) (s : Int) : (dropN l s).length ≤ l.length := List.length_filter_le _ _
theorem dropN_all {l : List Pn} {s : Int} : (dropN l s).length = l.length ↔ ofN l s = none := by
  rw [ofN_none]
  unfold dropN
  rw [List.length_filter_eq_length_iff]
  simp
theorem leastN_take {l : List Pn} {k : Nat} (h0 : 0 < k) (hk : k < l.length) {n : Int} (h : leastN (l.take k) = some n) : leastN (l.take (k + 1)) = some (min n l[k].2) := by
  cases l with
  | nil => simp at hk
  | cons x r =>
    cases k with
    | zero => omega
    | succ k =>
      have hk' : k < r.length := by simpa using hk
      rw [List.take_succ_cons] at h ⊢
      unfold leastN at h ⊢
      cases h
      rw [List.take_succ_eq_append_getElem hk']
      show some (List.foldl _ x.2 (List.take k r ++ [r[k]])) = _
      rw [List.foldl_append]
      rfl

end Go.Proofs.Ytbphdajhhnhphaa
