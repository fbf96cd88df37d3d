/-
  slices.Equal at lists of bytes.
-/
import Derived.Test.YtaoiiocgnnjnnaaDoorPLib
namespace Go.Proofs.YtaoiiocgnnjnnaaDoor
open Go.RowKit

/-- Are two rows of texts the same? -/
theorem equal_calls (va vb : Value) (la lb : List (List UInt8)) (w : World) (ha : Txts w va la) (hb : Txts w vb lb) (h1 : la.length ≤ 1000000) (h2 : lb.length ≤ 1000000) :
    Calls Tryd.prog 29 #[va, vb] w fun e w' => e = .returned (.bool (decide (la = lb))) ∧ Below w.heap.size w w' := by
  obtain ⟨aa, ca, rfl, hca, ha⟩ := ha
  obtain ⟨ab, cb, rfl, hcb, hb⟩ := hb
  by_cases hl : la.length = lb.length
  · by_cases h0 : la = []
    · subst h0
      have : lb = [] := List.eq_nil_of_length_eq_zero (by simpa using hl.symm)
      subst this
      refine (Tryd.slices_Equal_string_empty aa ab ca 0 cb w (by decide)).mono ?_
      rintro e w' ⟨rfl, rfl⟩
      exact ⟨by simp, Below.refl _ _⟩
    · have h0' : lb ≠ [] := by
        intro e; subst e; simp at hl; exact h0 hl
      obtain ⟨b1, o1, rfl, hc1⟩ := ha.resolve_left h0
      obtain ⟨b2, o2, rfl, hc2⟩ := hb.resolve_left h0'
      refine (Tryd.slices_Equal_string b1 o1 la.length ca b2 o2 lb.length cb (la.map fun l => ByteArray.mk l.toArray) (lb.map fun l => ByteArray.mk l.toArray) w (by simp) (by simp) (by omega) (by omega) ?_ ?_).mono ?_
      · intro j hj
        have hj' : j < la.length := by simpa using hj
        rw [hc1 j hj']; simp [List.getD, List.getElem?_eq_getElem hj', SV]
      · intro j hj
        have hj' : j < lb.length := by simpa using hj
        rw [hc2 j hj']; simp [List.getD, List.getElem?_eq_getElem hj', SV]
      · rintro e w' ⟨rfl, q, rfl⟩
        refine ⟨?_, drewn_below w q⟩
        congr 2
        rw [List.take_of_length_le (by simp), List.take_of_length_le (by simp)]
        have hinj : ∀ a b : List (List UInt8), (a.map fun l => ByteArray.mk l.toArray) = (b.map fun l => ByteArray.mk l.toArray) ↔ a = b := by
          intro a b
          constructor
          · intro h
            have := congrArg (List.map fun x : ByteArray => x.data.toList) h
            rwa [data_map, data_map] at this
          · rintro rfl; rfl
        simp only [hinj]
  · refine (Tryd.slices_Equal_string_lens aa ab la.length ca lb.length cb w hl).mono ?_
    rintro e w' ⟨rfl, rfl⟩
    refine ⟨?_, Below.refl _ _⟩
    have : la ≠ lb := fun e => hl (by rw [e])
    simp [this]

end Go.Proofs.YtaoiiocgnnjnnaaDoor
