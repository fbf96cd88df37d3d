/-
  TreeOld's rows: of trees, and of the rows that they tell.
-/
import Derived.Test.YtgbicdbmmjleoaaTrKind
import Derived.Test.YtgbicdbmmjleoaaTrGrow
namespace Go.Proofs.Ytgbicdbmmjleoaa
open Go.RowKit

/-- A tree, the row that it told, its pairs. -/
abbrev Tri := Value × Value × List Pr
/-- What is known of each. -/
def Trues (w : World) (P : List Tri) (k : Nat) : Prop := ∀ x ∈ P, TreeV w x.1 x.2.2 ∧ Prs w x.2.1 x.2.2 ∧ Timed x.2.2 ∧ x.2.2.length ≤ k
/-- The row of trees and the row of rows. -/
def Both (w : World) (base : Nat) (tv rv : Value) (P : List Tri) (k : Nat) : Prop :=
  OwnK w base 26 isPtr tv (P.map (·.1)) ∧ OwnK w base 28 isSl rv (P.map (·.2.1)) ∧ P.length = k + 1 ∧ Trues w P k
/-- One more tree, whose row is still to be told. -/
def Half (w : World) (base : Nat) (tv rv : Value) (P : List Tri) (u : Value) (L : List Pr) (k : Nat) : Prop :=
  OwnK w base 26 isPtr tv (P.map (·.1) ++ [u]) ∧ OwnK w base 28 isSl rv (P.map (·.2.1)) ∧ P.length = k + 1 ∧ Trues w P k ∧ TreeV w u L
theorem Trues.below {w w' : World} {P : List Tri} {k : Nat} (h : Trues w P k) (hB : Below w.heap.size w w') : Trues w' P k := fun x hx => ⟨(h x hx).1.below hB, (h x hx).2.1.below hB, (h x hx).2.2⟩
theorem Trues.step {K : Value → Bool} (hK : Kind K) {e : TypeId} {w w' : World} {P : List Tri} {k : Nat} (h : Trues w P k) (hs : StepK K e w w') : Trues w' P k := fun x hx => ⟨(h x hx).1.step hK hs, (h x hx).2.1.step hK hs, (h x hx).2.2⟩
theorem Both.below {w w' : World} {base : Nat} {tv rv : Value} {P : List Tri} {k : Nat} (h : Both w base tv rv P k) (hB : Below w.heap.size w w') : Both w' base tv rv P k := ⟨h.1.stays hB, h.2.1.stays hB, h.2.2.1, h.2.2.2.below hB⟩
theorem Half.below {w w' : World} {base : Nat} {tv rv : Value} {P : List Tri} {u : Value} {L : List Pr} {k : Nat} (h : Half w base tv rv P u L k) (hB : Below w.heap.size w w') : Half w' base tv rv P u L k := ⟨h.1.stays hB, h.2.1.stays hB, h.2.2.1, h.2.2.2.1.below hB, h.2.2.2.2.below hB⟩
theorem Both.trees {w : World} {base : Nat} {tv rv : Value} {P : List Tri} {k : Nat} (h : Both w base tv rv P k) : ∃ g cap, tv = .slice (some ⟨g, 0, none⟩) (k + 1) cap ∧ ∀ j (hj : j < P.length), w.cell? ⟨g, j, none⟩ = some P[j].1 := by
  obtain ⟨g, cap, hv, hc⟩ := h.1.form
  rw [List.length_map, h.2.2.1] at hv
  refine ⟨g, cap, hv, fun j hj => ?_⟩
  have := hc j (by simpa using hj)
  rwa [Nat.zero_add, List.getElem_map] at this
theorem Both.rows {w : World} {base : Nat} {tv rv : Value} {P : List Tri} {k : Nat} (h : Both w base tv rv P k) : ∃ g cap, rv = .slice (some ⟨g, 0, none⟩) (k + 1) cap ∧ ∀ j (hj : j < P.length), w.cell? ⟨g, j, none⟩ = some P[j].2.1 := by
  obtain ⟨g, cap, hv, hc⟩ := h.2.1.form
  rw [List.length_map, h.2.2.1] at hv
  refine ⟨g, cap, hv, fun j hj => ?_⟩
  have := hc j (by simpa using hj)
  rwa [Nat.zero_add, List.getElem_map] at this
theorem TreeV.ptr {w : World} {v : Value} {l : List Pr} (h : TreeV w v l) : isPtr v = true ∧ v.oneCell' = true := by
  obtain ⟨_, ⟨rfl, _⟩ | ⟨g, u, rfl, _⟩⟩ := h <;> exact ⟨rfl, rfl⟩
theorem Prs.sl {w : World} {v : Value} {l : List Pr} (h : Prs w v l) : isSl v = true ∧ v.oneCell' = true := by
  obtain ⟨ao, cap, rfl⟩ := h.form
  exact ⟨rfl, rfl⟩
theorem infoT : (Try.prog.info? 26).map (fun i => (i.zero, i.size, i.bytes)) = some (some (.pointer none), 1, 8) := by kernel_rfl
theorem infoS : (Try.prog.info? 28).map (fun i => (i.zero, i.size, i.bytes)) = some (some (.slice none 0 0), 1, 24) := by kernel_rfl
theorem ptr_ne_sl : (26 : TypeId) ≠ 28 := by decide

theorem both_one {w : World} {u : Value} (hu : TreeV w u []) (base : Nat) (hb : base ≤ w.heap.size) :
    Both ((w.alloc (.cells #[u] 26)).alloc (.cells #[.slice none 0 0] 28)) base (.slice (some ⟨w.heap.size, 0, none⟩) 1 1) (.slice (some ⟨w.heap.size + 1, 0, none⟩) 1 1) [(u, .slice none 0 0, [])] 0 := by
  have h2 := OwnK.one (w := w.alloc (.cells #[u] 26)) (e := 28) (K := isSl) (u := .slice none 0 0) rfl
  rw [World.size_alloc] at h2
  refine ⟨((OwnK.one hu.ptr.1).stays (below_alloc _ _)).weak hb, h2.weak (by omega), rfl, fun x hx => ?_⟩
  simp only [List.mem_singleton] at hx
  subst hx
  exact ⟨hu.below (below_alloc2 _ _ _), Prs.nil _, fun x hx => by simp at hx, Nat.le_refl _⟩

theorem grow_trees {w : World} {base : Nat} {tv rv u : Value} {P : List Tri} {L : List Pr} {k : Nat} (hb : Both w base tv rv P k) (hu : TreeV w u L) {h : Nat} (hc : w.cell? ⟨h, 0, none⟩ = some u) (hk : k ≤ 100) {w0 : World} (hB : Below base w0 w) (hb0 : base ≤ w0.heap.size) :
    ∃ g cap w', (∀ ty, (Builtin.append_ #[45, 45] ty #[tv, .slice (some ⟨h, 0, none⟩) 1 1]).run Try.prog w = .ok (.slice (some ⟨g, 0, none⟩) (k + 2) cap) w') ∧ Half w' base (.slice (some ⟨g, 0, none⟩) (k + 2) cap) rv P u L k ∧ Below base w0 w' := by
  obtain ⟨i0, hi, hz0, hz1, hz2⟩ := info_parts infoT
  obtain ⟨hT, hR, hP, hA⟩ := hb
  have hl : (P.map (·.1)).length = k + 1 := by rw [List.length_map, hP]
  have run := fun ty => run_append_kind w 45 ty 26 i0 _ (.pointer none) 8 Try.underlying45 hi hz0 hz1 hz2 rfl isPtr rfl base tv u _ hT h hc hu.ptr.1 hu.ptr.2 (by rw [hl]; omega) (by decide) w0 hB hb0
  obtain ⟨g, cap, w', hr, ho, hs, hB'⟩ := run 0
  rw [hl] at hr ho
  refine ⟨g, cap, w', fun ty => ?_, ⟨ho, hR.step hs (Ne.symm ptr_ne_sl), hP, hA.step kind_ptr hs, hu.step kind_ptr hs⟩, hB'⟩
  exact hr
theorem grow_rows {w : World} {base : Nat} {tv rv u r : Value} {P : List Tri} {L : List Pr} {k : Nat} (hb : Half w base tv rv P u L k) (hr : Prs w r L) (hti : Timed L) (hL : L.length ≤ k + 1) {h : Nat} (hc : w.cell? ⟨h, 0, none⟩ = some r) (hk : k ≤ 100) {w0 : World} (hB : Below base w0 w) (hb0 : base ≤ w0.heap.size) :
    ∃ g cap w', (∀ ty, (Builtin.append_ #[46, 46] ty #[rv, .slice (some ⟨h, 0, none⟩) 1 1]).run Try.prog w = .ok (.slice (some ⟨g, 0, none⟩) (k + 2) cap) w') ∧ Both w' base tv (.slice (some ⟨g, 0, none⟩) (k + 2) cap) (P ++ [(u, r, L)]) (k + 1) ∧ Below base w0 w' := by
  obtain ⟨i0, hi, hz0, hz1, hz2⟩ := info_parts infoS
  obtain ⟨hT, hR, hP, hA, hu⟩ := hb
  have hl : (P.map (·.2.1)).length = k + 1 := by rw [List.length_map, hP]
  have run := fun ty => run_append_kind w 46 ty 28 i0 _ (.slice none 0 0) 24 Try.underlying46 hi hz0 hz1 hz2 rfl isSl rfl base rv r _ hR h hc hr.sl.1 hr.sl.2 (by rw [hl]; omega) (by decide) w0 hB hb0
  obtain ⟨g, cap, w', hrun, ho, hs, hB'⟩ := run 0
  rw [hl] at hrun ho
  refine ⟨g, cap, w', fun ty => hrun, ⟨?_, ?_, by rw [List.length_append, hP]; rfl, fun x hx => ?_⟩, hB'⟩
  · rw [List.map_append]
    exact hT.step hs ptr_ne_sl
  · rw [List.map_append]
    exact ho
  · rcases List.mem_append.1 hx with hx | hx
    · obtain ⟨h1, h2, h3, h4⟩ := hA.step kind_sl hs x hx
      exact ⟨h1, h2, h3, by omega⟩
    · simp only [List.mem_singleton] at hx
      subst hx
      exact ⟨hu.step kind_sl hs, hr.step kind_sl hs, hti, hL⟩

end Go.Proofs.Ytgbicdbmmjleoaa
