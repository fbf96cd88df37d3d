/-
  Pairs of unlike keys, put one behind the other. No program is named here.
-/
import Derived.Test.YtgbicdbmmjleoaaNdSpec
namespace Go.Proofs.Ytgbicdbmmjleoaa

theorem unlike_succ {l : List Pr} {k : Nat} (hk : k < l.length) (h : Unlike (l.take k)) (h1 : ∀ j (hj : j < l.length), j < k → l[j].1 ≠ l[k].1) : Unlike (l.take (k + 1)) := by
  unfold Unlike at h ⊢
  rw [List.take_succ_eq_append_getElem hk, List.pairwise_append]
  refine ⟨h, by simp, fun x hx y hy => ?_⟩
  rw [List.mem_singleton] at hy
  subst hy
  obtain ⟨j, hj, rfl⟩ := List.mem_take_iff_getElem.1 hx
  exact h1 j (by omega) (by omega)
theorem unlike_step {l : List Pr} {k j : Nat} (hk : k < l.length) (hjl : j < l.length) (h : ∀ i (hi : i < l.length), i < j → l[i].1 ≠ l[k].1) (h1 : l[j].1 ≠ l[k].1) : ∀ i (hi : i < l.length), i < j + 1 → l[i].1 ≠ l[k].1 := by
  intro i hi hij
  by_cases e : i = j
  · subst e; exact h1
  · exact h i hi (by omega)
theorem puts_back {l : List Pr} {k r : Nat} (hk : k < l.length) (hr : r + k + 1 = l.length) : putL (putsL (l.reverse.take k)) (l[r]'(by omega)) = putsL (l.reverse.take (k + 1)) := by
  have h := putsL_succ (l := l.reverse) (k := k) (by simpa using hk)
  rw [← h]
  congr 1
  rw [List.getElem_reverse]
  congr 1
  omega
theorem puts_bound (l : List Pr) (k : Nat) (hk : k ≤ 80) : (putsL (l.take k)).length ≤ 80 := by
  have := putsL_le (l.take k)
  rw [List.length_take] at this
  omega

end Go.Proofs.Ytgbicdbmmjleoaa
