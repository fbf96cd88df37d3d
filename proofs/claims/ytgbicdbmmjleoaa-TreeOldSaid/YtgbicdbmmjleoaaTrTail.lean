/-
  What From tells of rows put together. No program is named here.
-/
import Derived.Test.YtgbicdbmmjleoaaTrSpec
namespace Go.Proofs.Ytgbicdbmmjleoaa

theorem placeN_stop {l : List Pr} {k : Ky} (h : placeN l k < l.length) : ∃ x ∈ l, lessK x.1 k = false := by
  induction l with
  | nil => simp at h
  | cons x r ih =>
    cases hx : lessK x.1 k with
    | false => exact ⟨x, by simp, hx⟩
    | true =>
      rw [placeN, if_pos hx, List.length_cons] at h
      obtain ⟨y, hy, h1⟩ := ih (by omega)
      exact ⟨y, by simp [hy], h1⟩
theorem placeN_zero {l : List Pr} {k : Ky} (h : ∀ x ∈ l, lessK x.1 k = false) : placeN l k = 0 := by
  cases l with
  | nil => rfl
  | cons x r =>
    unfold placeN
    rw [if_neg (by rw [h x (by simp)]; simp)]
theorem placeN_full {l : List Pr} {k : Ky} (h : ∀ x ∈ l, lessK x.1 k = true) : placeN l k = l.length := by
  have := placeN_append h []
  simpa [placeN] using this
theorem tail_full {l : List Pr} {k : Ky} (h : ∀ x ∈ l, lessK x.1 k = true) : tailL l k = [] := by
  unfold tailL
  rw [placeN_full h]
  simp
theorem not_less_trans {a b k : Ky} (h1 : lessK a k = false) (h2 : lessK a b = true) : lessK b k = false := by
  cases h : lessK b k with
  | false => rfl
  | true =>
    rw [lessK_trans h2 h] at h1
    cases h1
/-- From tells of both rows, one behind the other. -/
theorem tail_append {a b : List Pr} (h : Rises (a ++ b)) (k : Ky) : tailL (a ++ b) k = tailL a k ++ tailL b k := by
  by_cases hp : placeN a k < a.length
  · obtain ⟨x, hx, h1⟩ := placeN_stop hp
    have hb : ∀ y ∈ b, lessK y.1 k = false := fun y hy => not_less_trans h1 ((List.pairwise_append.1 h).2.2 x hx y hy)
    have e : placeN (a ++ b) k = placeN a k := placeN_is (by rw [List.length_append]; omega)
      (fun i hi => by
        obtain ⟨y, e1, e2⟩ := placeN_ahead hi
        rw [List.getElem_append_left (by omega)]
        rw [List.getElem?_eq_getElem (by omega)] at e1
        cases e1
        exact e2)
      (fun hl => by
        rw [List.getElem_append_left hp]
        cases hc : lessK a[placeN a k].1 k with
        | false => rfl
        | true =>
          exfalso
          have hn : ∀ (l : List Pr) (h : placeN l k < l.length), lessK (l[placeN l k]'h).1 k = false := by
            intro l
            induction l with
            | nil => intro h; simp at h
            | cons y r ih =>
              intro h
              cases hy : lessK y.1 k with
              | true =>
                have e : placeN (y :: r) k = placeN r k + 1 := by rw [placeN, if_pos hy]
                simp only [e] at h ⊢
                simpa using ih (by simpa using h)
              | false =>
                have e : placeN (y :: r) k = 0 := by rw [placeN, if_neg (by simp [hy])]
                simp only [e]
                simpa using hy
          rw [hn a hp] at hc
          cases hc)
    unfold tailL
    rw [e, placeN_zero hb, List.drop_append_of_le_length (by omega)]
    simp
  · have ha : ∀ x ∈ a, lessK x.1 k = true := fun x hx => by
      obtain ⟨i, hi, rfl⟩ := List.getElem_of_mem hx
      have := placeN_le a k
      obtain ⟨y, e1, e2⟩ := placeN_ahead (l := a) (k := k) (i := i) (by omega)
      rw [List.getElem?_eq_getElem hi] at e1
      cases e1
      exact e2
    rw [tail_full ha]
    unfold tailL
    rw [placeN_append ha, List.drop_length_add_append]
    simp
/-- One more row is gathered. -/
theorem gather_more (A X Y : List Pr) (N : Nat) : (A ++ X.take (N - A.length)) ++ Y.take (N - (A ++ X.take (N - A.length)).length) = A ++ (X ++ Y).take (N - A.length) := by
  rw [List.append_assoc, List.take_append, List.length_append, List.length_take]
  congr 3
  omega
/-- There are enough. -/
theorem gather_full {A X : List Pr} {N : Nat} (h : N ≤ (A ++ X.take (N - A.length)).length) (hA : A.length ≤ N) (Y : List Pr) : A ++ X.take (N - A.length) = A ++ (X ++ Y).take (N - A.length) := by
  rw [List.length_append, List.length_take] at h
  rw [List.take_append_of_le_length (by omega)]
theorem gather_le (A X : List Pr) {N : Nat} (hA : A.length ≤ N) : (A ++ X.take (N - A.length)).length ≤ N := by
  rw [List.length_append, List.length_take]
  omega

end Go.Proofs.Ytgbicdbmmjleoaa
