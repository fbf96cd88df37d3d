/-
  Pins in plain words: where the first one is that is asked for; numbers that are folded. No program is named here.
-/
import Derived.Test.YtbphdajhhnhphaaPnMore
namespace Go.Proofs.Ytbphdajhhnhphaa
set_option maxRecDepth 100000

/-- How many pins stand ahead of the first one that is asked for. -/
def whereN (P : Pn → Bool) (l : List Pn) : Nat := (l.takeWhile fun q => !P q).length
theorem whereN_le (P : Pn → Bool) (l : List Pn) : whereN P l ≤ l.length := (List.takeWhile_sublist _).length_le
theorem whereN_cons (P : Pn → Bool) (x : Pn) (r : List Pn) : whereN P (x :: r) = if P x = true then 0 else whereN P r + 1 := by
  unfold whereN
  rw [List.takeWhile_cons]
  cases P x <;> simp
theorem whereN_is {P : Pn → Bool} {l : List Pn} {k : Nat} (hk : k ≤ l.length) (h1 : ∀ i (hi : i < l.length), i < k → P l[i] = false) (h2 : ∀ (h : k < l.length), P l[k] = true) : whereN P l = k := by
  induction l generalizing k with
  | nil => simp at hk; subst hk; rfl
  | cons x r ih =>
    rw [whereN_cons]
    cases k with
    | zero =>
      have := h2 (by simp)
      rw [List.getElem_cons_zero] at this
      rw [if_pos this]
    | succ k =>
      have h0 := h1 0 (by simp) (by omega)
      rw [List.getElem_cons_zero] at h0
      rw [if_neg (by rw [h0]; decide)]
      rw [ih (k := k) (by simpa using hk) (fun i hi hik => by have := h1 (i + 1) (by simpa using hi) (by omega); rwa [List.getElem_cons_succ] at this)
        (fun hlt => by have := h2 (by simpa using hlt); rwa [List.getElem_cons_succ] at this)]
theorem whereN_at {P : Pn → Bool} {l : List Pn} (h : whereN P l < l.length) : P l[whereN P l] = true := by
  induction l with
  | nil => simp at h
  | cons x r ih =>
    by_cases hx : P x = true
    · have e : whereN P (x :: r) = 0 := by rw [whereN_cons, if_pos hx]
      simp only [e, List.getElem_cons_zero]
      exact hx
    · have e : whereN P (x :: r) = whereN P r + 1 := by rw [whereN_cons, if_neg hx]
      rw [e] at h
      have := ih (by simpa using h)
      simp only [e, List.getElem_cons_succ]
      exact this
theorem whereN_ahead {P : Pn → Bool} {l : List Pn} {i : Nat} (hi : i < l.length) (h : i < whereN P l) : P l[i] = false := by
  induction l generalizing i with
  | nil => simp at hi
  | cons x r ih =>
    rw [whereN_cons] at h
    by_cases hx : P x = true
    · rw [if_pos hx] at h; omega
    · rw [if_neg hx] at h
      cases i with
      | zero => simpa using hx
      | succ i => rw [List.getElem_cons_succ]; exact ih (by simpa using hi) (by omega)
abbrev holdsP (s : Int) (q : Pn) : Bool := q.1 == s
abbrev behindP (s : Int) (q : Pn) : Bool := decide (s < q.1)
theorem ofN_where (l : List Pn) (s : Int) : ofN l s = (l[whereN (holdsP s) l]?).map fun q => q.2 := by
  induction l with
  | nil => rfl
  | cons x r ih =>
    rw [ofN_cons, whereN_cons]
    by_cases hx : x.1 = s
    · rw [if_pos hx, if_pos (by simpa using hx)]; rfl
    · rw [if_neg hx, if_neg (by simpa using hx), ih, List.getElem?_cons_succ]
theorem ofN_at {l : List Pn} {s : Int} (h : whereN (holdsP s) l < l.length) : ofN l s = some l[whereN (holdsP s) l].2 := by
  rw [ofN_where, List.getElem?_eq_getElem h]; rfl
theorem ofN_out {l : List Pn} {s : Int} (h : whereN (holdsP s) l = l.length) : ofN l s = none := by
  rw [ofN_where, h]; simp
theorem place_where {l : List Pn} {s : Int} (h : ofN l s = none) : placeP l s = whereN (behindP s) l := by
  induction l with
  | nil => rfl
  | cons x r ih =>
    rw [ofN_cons] at h
    by_cases hx : x.1 = s
    · rw [if_pos hx] at h; cases h
    · rw [if_neg hx] at h
      rw [whereN_cons, ← ih h]
      unfold placeP
      rw [List.takeWhile_cons]
      by_cases hs : x.1 < s
      · rw [if_pos (by simpa using hs), if_neg (by simp; omega)]; rfl
      · rw [if_neg (by simpa using hs), if_pos (by simp; omega)]; rfl
theorem dropN_none {l : List Pn} {s : Int} (h : ofN l s = none) : dropN l s = l := by
  unfold dropN
  rw [List.filter_eq_self]
  intro q hq
  simpa using ofN_none.1 h q hq
theorem dropN_where {l : List Pn} {s : Int} (hr : RiseN l) (h : whereN (holdsP s) l < l.length) : dropN l s = l.take (whereN (holdsP s) l) ++ l.drop (whereN (holdsP s) l + 1) := by
  induction l with
  | nil => simp at h
  | cons x r ih =>
    obtain ⟨h1, h2⟩ := List.pairwise_cons.1 hr
    rw [whereN_cons] at h ⊢
    by_cases hx : x.1 = s
    · rw [if_pos (by simpa using hx)]
      have e : dropN (x :: r) s = dropN r s := by unfold dropN; rw [List.filter_cons]; simp [hx]
      rw [e, dropN_none (ofN_none.2 fun p hp => by have := h1 p hp; omega)]
      simp
    · rw [if_neg (by simpa using hx)] at h ⊢
      have e : dropN (x :: r) s = x :: dropN r s := by unfold dropN; rw [List.filter_cons]; simp [hx]
      rw [e, ih h2 (by simpa using h)]
      simp
theorem fold_map (l : List Pn) (n : Int) : (l.map fun q => q.2).foldl min n = l.foldl (fun m q => min m q.2) n := by
  rw [List.foldl_map]
theorem fold_least (l : List Pn) (n : Int) : l.foldl (fun m q => min m q.2) n = match leastN l with | none => n | some k => min n k := by
  cases l with
  | nil => rfl
  | cons x r =>
    unfold leastN
    show r.foldl _ (min n x.2) = min n (r.foldl _ x.2)
    generalize x.2 = y
    clear x
    induction r generalizing y with
    | nil => rfl
    | cons z r ih => rw [List.foldl_cons, List.foldl_cons, ← ih (min y z.2), Int.min_assoc]
theorem raise_fold (w b t : Int) (l : List Pn) : max w ((l.map (fun q => q.2) ++ [t]).foldl min b) = raiseN w b t l := by
  rw [List.foldl_append, fold_map, fold_least]
  unfold raiseN
  cases leastN l with
  | none => rfl
  | some n => simp only [List.foldl_cons, List.foldl_nil]; congr 1; omega
theorem least_fold (x : Pn) (r : List Pn) : leastN (x :: r) = some ((r.map fun q => q.2).foldl min x.2) := by rw [fold_map]; rfl
theorem least_bound {l : List Pn} {n : Int} (h : leastN l = some n) (hw : ∀ p ∈ l, -9223372036854775808 ≤ p.2 ∧ p.2 ≤ 9223372036854775807) : -9223372036854775808 ≤ n ∧ n ≤ 9223372036854775807 := by
  obtain ⟨⟨p, hp, rfl⟩, _⟩ := leastN_iff.1 h
  exact hw p hp

end Go.Proofs.Ytbphdajhhnhphaa
