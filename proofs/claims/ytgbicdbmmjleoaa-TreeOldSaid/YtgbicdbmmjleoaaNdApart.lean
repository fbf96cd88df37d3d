/-
  Rows of the call's own that lie in unlike blocks; two of them put together.
-/
import Derived.Test.YtgbicdbmmjleoaaNdJoin
namespace Go.Proofs.Ytgbicdbmmjleoaa
open Go.RowKit

/-- Two rows of the call's own lie in unlike blocks. -/
def Apart (x y : Value) : Prop := x.ownBlock = none ∨ x.ownBlock ≠ y.ownBlock
theorem Apart.symm {x y : Value} (h : Apart x y) (hy : y.ownBlock = none ∨ y.ownBlock ≠ none) : Apart y x := by
  unfold Apart at h ⊢
  rcases hy with hy | hy
  · exact .inl hy
  · rcases h with h | h
    · exact .inr (by rw [h]; exact hy)
    · exact .inr (Ne.symm h)
theorem apart_later {w1 w2 : World} {b1 b2 : Nat} {x y : Value} {lx ly : List Pr} (hx : OwnP w1 b1 x lx) (hy : OwnP w2 b2 y ly) (h : w1.heap.size ≤ b2) : Apart x y ∧ Apart y x := by
  unfold Apart
  cases ex : x.ownBlock with
  | none =>
    refine ⟨.inl rfl, ?_⟩
    cases y.ownBlock with
    | none => exact .inl rfl
    | some g => exact .inr (by simp)
  | some g =>
    have h1 := (World.ownsRow.lt hx g ex).2
    cases ey : y.ownBlock with
    | none => exact ⟨.inr (by simp), .inl rfl⟩
    | some k =>
      have h2 := (World.ownsRow.lt hy k ey).1
      have : g ≠ k := by omega
      exact ⟨.inr (by simpa using this), .inr (by simpa using Ne.symm this)⟩
theorem rws_of_cell {w : World} {g : Nat} {v : Value} {L : List Pr} (c : w.cell? ⟨g, 0, none⟩ = some v) (h : Prs w v L) : Rws w (.slice (some ⟨g, 0, none⟩) 1 1) [(v, L)] := by
  refine ⟨⟨rfl, _, _, rfl, Nat.le_refl _, .inr ⟨g, 0, rfl, fun j hj => ?_⟩⟩, fun x hx => ?_⟩
  · obtain rfl : j = 0 := by simpa using hj
    simpa using c
  · simp only [List.mem_singleton] at hx
    subst hx
    exact h

theorem joined_one {w W : World} {g : Nat} {v : Value} {L : List Pr} (h : Prs w v L) (hB : Below w.heap.size w W) (c : W.cell? ⟨g, 0, none⟩ = some v) (hm : L.length ≤ 1000000) :
    Calls Try.prog 41 #[.slice (some ⟨g, 0, none⟩) 1 1] W fun e w' => ∃ ao n cap, e = .returned (.slice ao n cap) ∧ OwnP w' W.heap.size (.slice ao n cap) L ∧ Below W.heap.size W w' := by
  have e1 : allP [(v, L)] = L := by simp [allP]
  refine (joined_calls _ [(v, L)] W (rws_of_cell c (h.below hB)) (by simp) (by rw [e1]; exact hm)).mono ?_
  rw [e1]
  rintro e w' ⟨ao, cap, rfl, ho, hB'⟩
  exact ⟨ao, _, cap, rfl, ho, hB'⟩
/-- Two rows that were made one behind the other. -/
theorem two_own {w wA W2 w2 : World} {bA : Nat} {x y : Value} {LA LB : List Pr} (hoA : OwnP wA bA x LA) (hbA : w.heap.size ≤ bA) (hBA : Below w.heap.size w wA) (hBX : Below wA.heap.size wA W2) (hoB : OwnP w2 W2.heap.size y LB) (hB2 : Below W2.heap.size W2 w2) :
    OwnP w2 w.heap.size x LA ∧ OwnP w2 w.heap.size y LB ∧ Apart x y ∧ Apart y x ∧ Below w.heap.size w w2 := by
  have hb := below2 hBX hB2
  obtain ⟨p, q⟩ := apart_later hoA hoB hBX.size
  exact ⟨(hoA.weak hbA).stays hb, hoB.weak (Nat.le_trans hBA.size hBX.size), p, q, below2 hBA hb⟩
theorem first_below (w : World) (o : Obj) : Below w.heap.size w (w.alloc o).drew := below2 (below_alloc w o) (drew_below _)
theorem first_below2 (w : World) (o o' : Obj) : Below w.heap.size w ((w.alloc o).alloc o').drew := below2 (below_alloc2 w o o') (drew_below _)
theorem two_cells (w : World) (v u : Value) (t : TypeId) : ((w.alloc (.cells #[v] t)).alloc (.cells #[u] t)).drew.cell? ⟨w.heap.size, 0, none⟩ = some v ∧ ((w.alloc (.cells #[v] t)).alloc (.cells #[u] t)).drew.cell? ⟨w.heap.size + 1, 0, none⟩ = some u := by
  constructor <;> go_simp
theorem drew_alloc_below (w : World) (o : Obj) : Below w.heap.size w (w.drew.alloc o) := below2 (drew_below _) (below_alloc _ o)

end Go.Proofs.Ytgbicdbmmjleoaa
