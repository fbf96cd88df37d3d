/-
  Where bytes of frames are cut: how many frames stand ahead. No program is named here.
-/
import Derived.Test.YtoaoinmmfpmgkaaDoorCrcSpec
namespace Go.Proofs.YtoaoinmmfpmgkaaDoor

theorem framesB_append (a b : List (List UInt8)) : framesB (a ++ b) = framesB a ++ framesB b := by simp [framesB]
theorem framesTo_mono (ls : List (List UInt8)) {i j : Nat} (h : i ≤ j) : (framesB (ls.take i)).length ≤ (framesB (ls.take j)).length := by
  have e : ls.take j = ls.take i ++ (ls.take j).drop i := by
    have := List.take_append_drop i (ls.take j)
    rw [List.take_take, Nat.min_eq_left h] at this
    exact this.symm
  have e2 : framesB (ls.take j) = framesB (ls.take i) ++ framesB ((ls.take j).drop i) := (congrArg framesB e).trans (framesB_append _ _)
  rw [e2, List.length_append]
  omega
/-- Of the first k texts' frames m stand ahead of the place. -/
def CutAt (ls : List (List UInt8)) (p : Int) (k m : Nat) : Prop :=
  m ≤ k ∧ (m = 0 ∨ ((framesB (ls.take m)).length : Int) ≤ p) ∧ (m = k ∨ p < ((framesB (ls.take (m + 1))).length : Int))
theorem cutAt_zero (ls : List (List UInt8)) (p : Int) : CutAt ls p 0 0 := ⟨Nat.le_refl _, .inl rfl, .inl rfl⟩
theorem cutAt_yes {ls : List (List UInt8)} {p : Int} {k m : Nat} (h : CutAt ls p k m) (hp : ((framesB (ls.take (k + 1))).length : Int) ≤ p) : m = k ∧ CutAt ls p (k + 1) (k + 1) := by
  obtain ⟨h1, h2, h3⟩ := h
  refine ⟨?_, Nat.le_refl _, .inr hp, .inl rfl⟩
  rcases h3 with h3 | h3
  · exact h3
  · have := framesTo_mono ls (show m + 1 ≤ k + 1 by omega)
    omega
theorem cutAt_no {ls : List (List UInt8)} {p : Int} {k m : Nat} (h : CutAt ls p k m) (hp : p < ((framesB (ls.take (k + 1))).length : Int)) : CutAt ls p (k + 1) m := by
  obtain ⟨h1, h2, h3⟩ := h
  refine ⟨by omega, h2, .inr ?_⟩
  rcases h3 with rfl | h3
  · exact hp
  · exact h3
theorem cut_end {ls : List (List UInt8)} {n m : Nat} (h : CutAt ls n ls.length m) (hn : n ≤ (framesB ls).length) (h4 : ∀ t ∈ ls, t.length ≤ 300) :
    ∃ r, allF ((framesB ls).take n) = (ls.take m, r) ∧ n = (framesB (ls.take m)).length + r.length := by
  obtain ⟨h1, h2, h3⟩ := h
  have hlow : ∀ t ∈ ls.take m, t.length ≤ 4000 := fun t ht => by have := h4 t (List.mem_of_mem_take ht); omega
  by_cases hm : m = ls.length
  · subst hm
    rw [List.take_length] at h2 hlow ⊢
    have e : n = (framesB ls).length := by
      rcases h2 with h2 | h2
      · have : ls = [] := List.eq_nil_of_length_eq_zero h2
        subst this
        simp [framesB] at hn ⊢
        omega
      · omega
    subst e
    rw [List.take_length]
    have e2 := allF_frames ls [] hlow
    rw [List.append_nil] at e2
    exact ⟨[], by rw [e2]; simp [allF, allN], by simp⟩
  · have hlt : m < ls.length := by omega
    have h5 := h3.resolve_left hm
    rw [framesTo_succ hlt, List.length_append] at h5
    have h6 : (framesB (ls.take m)).length ≤ n := by
      rcases h2 with rfl | h2
      · simp [framesB]
      · omega
    have e : framesB ls = framesB (ls.take m) ++ (frameB ls[m] ++ framesB (ls.drop (m + 1))) := by
      have e0 : ls = ls.take m ++ ls[m] :: ls.drop (m + 1) := by simp
      exact (congrArg framesB e0).trans (by rw [framesB_append, framesB_cons])
    generalize hj : n - (framesB (ls.take m)).length = j
    have hjl : j < (frameB ls[m]).length := by omega
    have e1 : (framesB ls).take n = framesB (ls.take m) ++ (frameB ls[m]).take j := by
      rw [e, List.take_append, List.take_of_length_le h6, hj, List.take_append_of_le_length (by omega)]
    have hc : getF ((frameB ls[m]).take j) = none := by
      refine getF_cut (t := ls[m]) (q := (frameB ls[m]).drop j) (by have := h4 _ (List.getElem_mem hlt); omega) (List.take_append_drop _ _).symm ?_
      intro e0
      have := congrArg List.length e0
      rw [List.length_drop, List.length_nil] at this
      omega
    refine ⟨(frameB ls[m]).take j, ?_, by rw [List.length_take]; omega⟩
    rw [e1, allF_frames _ _ hlow, allF_none hc, List.append_nil]

end Go.Proofs.YtoaoinmmfpmgkaaDoor
