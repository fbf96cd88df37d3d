/-
  Which vertex of a row a key belongs to: what stands in those ahead of it, and behind it.
-/
import Derived.Test.YtgbicdbmmjleoaaTrPlace
import Derived.Test.YtgbicdbmmjleoaaTrSpec
namespace Go.Proofs.Ytgbicdbmmjleoaa
open Go.RowKit

/-- The i-th vertex is the key's. -/
def Spot (S : List Ch) (k : Ky) (i : Nat) : Prop := i < S.length ∧ (∀ x ∈ allC (S.take i), lessK x.1 k = true) ∧ ∀ x ∈ allC (S.drop (i + 1)), lessK k x.1 = true
theorem drop_first {S : List Ch} (hr : Rises (allC S)) {j : Nat} (hj : j < S.length) (hne : S[j].2.1 ≠ []) : (∀ x ∈ allC (S.take j), lessK x.1 (fK S[j]) = true) ∧ ∀ x ∈ allC (S.drop j), x.1 = fK S[j] ∨ lessK (fK S[j]) x.1 = true := by
  have e := allC_parts hj
  cases h : S[j].2.1 with
  | nil => exact absurd h hne
  | cons y r =>
    have hf : fK S[j] = y.1 := by unfold fK; rw [h]
    have e2 : allC (S.drop j) = y :: (r ++ allC (S.drop (j + 1))) := by
      rw [← List.getElem_cons_drop hj, allC_cons, h]
      rfl
    rw [h] at e
    rw [e] at hr
    obtain ⟨h1, h2, h3⟩ := List.pairwise_append.1 hr
    rw [hf]
    refine ⟨fun x hx => h3 x hx y (by simp), fun x hx => ?_⟩
    rw [e2] at hx
    rcases List.mem_cons.1 hx with rfl | hx
    · exact .inl rfl
    · exact .inr ((List.pairwise_cons.1 h2).1 x hx)
theorem found_spot {S : List Ch} {k : Ky} {n : Nat} (hr : Rises (allC S)) (hne : ∀ c ∈ S, c.2.1 ≠ []) (h0 : 1 ≤ S.length) (h : Found S.length (fun j => lessK k ((S[j]?.map fK).getD ([], 0))) n) : Spot S k (n - 1) := by
  obtain ⟨hn, h1, h2⟩ := h
  dsimp only at h1 h2
  cases n with
  | zero =>
    have hk := h2 (by omega)
    rw [List.getElem?_eq_getElem (by omega)] at hk
    refine ⟨by omega, by simp [allC], fun x hx => ?_⟩
    obtain ⟨_, h4⟩ := drop_first hr (j := 0) (by omega) (hne _ (List.getElem_mem _))
    rcases h4 x (by
      rw [← List.getElem_cons_drop (show 0 < S.length by omega), allC_cons]
      exact List.mem_append_right _ hx) with e | e
    · rw [e]
      exact hk
    · exact lessK_trans hk e
  | succ i =>
    have hi := h1 i rfl
    rw [List.getElem?_eq_getElem (by omega)] at hi
    simp only [Nat.add_sub_cancel]
    refine ⟨by omega, fun x hx => ?_, fun x hx => ?_⟩
    · obtain ⟨h3, _⟩ := drop_first hr (j := i) (by omega) (hne _ (List.getElem_mem _))
      have := h3 x hx
      by_cases e : k = fK S[i]
      · rw [e]
        exact this
      · exact lessK_trans this (lessK_total hi e)
    · by_cases hl : i + 1 < S.length
      · have hk := h2 hl
        rw [List.getElem?_eq_getElem hl] at hk
        obtain ⟨_, h4⟩ := drop_first hr hl (hne _ (List.getElem_mem _))
        rcases h4 x hx with e | e
        · rw [e]
          exact hk
        · exact lessK_trans hk e
      · rw [List.drop_eq_nil_of_le (by omega)] at hx
        simp [allC] at hx
theorem spot_calls (d : Nat) (S : List Ch) (p : List UInt8) (m : Int) (g : Nat) (ao : Option Addr) (cap : Nat) (w : World)
    (hg : w.cell? ⟨g, 0, none⟩ = some (.slice ao S.length cap)) (hR : VRow d w (.slice ao S.length cap) S) (hS : Wide S) (h2 : 2 ≤ S.length) (hm : S.length ≤ 100000) (hr : Rises (allC S)) :
    Calls Try.prog 38 #[.pointer (some ⟨g, 0, none⟩), .agg #[.string ⟨p.toArray⟩, .int .i64 m]] w fun e w' => (∃ i : Nat, e = .returned (.int .i64 i) ∧ Spot S (p, m) i) ∧ Below w.heap.size w w' := by
  refine (place_br_calls d S p m g ao cap w hg hR hS h2 hm).mono ?_
  rintro e w' ⟨⟨n, i, rfl, hF, rfl⟩, hB⟩
  refine ⟨⟨_, rfl, found_spot hr (fun c hc => ?_) (by omega) hF⟩, hB⟩
  obtain ⟨x, r, h⟩ := (hR.2 c hc).first (by have := hS c hc; omega)
  rw [h]
  simp
/-- All pairs, parted at a spot. -/
theorem Spot.parts {S : List Ch} {k : Ky} {i : Nat} (h : Spot S k i) : allC S = allC (S.take i) ++ ((S[i]'h.1).2.1 ++ allC (S.drop (i + 1))) := allC_parts h.1

end Go.Proofs.Ytgbicdbmmjleoaa
