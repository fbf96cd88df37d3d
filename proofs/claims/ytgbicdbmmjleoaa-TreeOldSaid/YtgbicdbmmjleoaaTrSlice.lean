/-
  Parts of rows, whatever the elements' size: what a slice expression of a row is, as an equation for every world.
-/
import Derived.Test.YtgbicdbmmjleoaaTrRel
namespace Go.Proofs.Ytgbicdbmmjleoaa
open Go.RowKit

theorem rw_part {w : World} {s k cap : Nat} {ao : Option Addr} {cs : List Value} (h : Rw w s (.slice ao k cap) k cs) (l r : Nat) (hl : l ≤ r) (hr : r ≤ k) :
    ∃ a1 c1, sliced ao l r cap s = .slice a1 (r - l) c1 ∧ Rw w s (.slice a1 (r - l) c1) (r - l) ((cs.drop (l * s)).take ((r - l) * s)) := by
  obtain ⟨hlen, ao', c, he, hc, hx⟩ := h
  cases he
  have hsum : l * s + (r - l) * s = r * s := by rw [← Nat.add_mul]; congr 1; omega
  have hrs : r * s ≤ k * s := Nat.mul_le_mul_right _ hr
  have hl2 : ((cs.drop (l * s)).take ((r - l) * s)).length = (r - l) * s := by
    rw [List.length_take, List.length_drop]
    omega
  refine ⟨_, _, rfl, hl2, _, _, rfl, by omega, ?_⟩
  by_cases h0 : r - l = 0
  · exact .inl h0
  · rcases hx with hx | ⟨b, off, rfl, hcs⟩
    · omega
    · refine .inr ?_
      rw [if_neg (by omega), Option.map_some, Go.WideShapes.add_plain]
      refine ⟨b, off + l * s, rfl, fun j hj => ?_⟩
      rw [hl2] at hj
      rw [List.getElem_take, List.getElem_drop, Nat.add_assoc]
      exact hcs (l * s + j) (by omega)

/-! ### Rows of vertices -/

theorem row_elem : Try.prog.elem 68 = 53 := by kernel_rfl
theorem row_slice : Try.prog.underlying 68 = some (.slice (Try.prog.elem 68)) := by kernel_rfl
theorem row_size (W : World) : (sizeOf 53).run Try.prog W = .ok 1 W := by
  have h : (Try.prog.info? 53).map (·.size) = some 1 := by kernel_rfl
  cases hq : Try.prog.info? 53 with
  | none => simp [hq] at h
  | some i =>
    have hs : i.size = 1 := by simpa [hq] using h
    simp [sizeOf, typeInfo, hq, hs]
theorem vrow_part {d : Nat} {w : World} {k cap : Nat} {ao : Option Addr} {S : List Ch} (h : VRow d w (.slice ao k cap) S) (l r : Nat) (hl : l ≤ r) (hr : r ≤ k) :
    ∃ a1 c1, sliced ao l r cap 1 = .slice a1 (r - l) c1 ∧ VRow d w (.slice a1 (r - l) c1) ((S.drop l).take (r - l)) := by
  have hk := h.len
  have hR := h.1
  rw [hk] at hR
  obtain ⟨a1, c1, e, hw⟩ := rw_part hR l r hl hr
  refine ⟨a1, c1, e, ?_, fun c hc => h.2 c (List.mem_of_mem_drop (List.mem_of_mem_take hc))⟩
  have hl2 : ((S.drop l).take (r - l)).length = r - l := by
    rw [List.length_take, List.length_drop]
    omega
  rw [hl2, List.map_take, List.map_drop]
  simpa using hw
/-- row[l:] -/
theorem vrow_from {d : Nat} {w : World} {k cap : Nat} {ao : Option Addr} {S : List Ch} (h : VRow d w (.slice ao k cap) S) (l m : Nat) (hm : l + m = k) :
    ∃ a1 c1, (∀ W, (Instr.slice 68 (.slice ao k cap) (some (.int .i64 (l : Int))) none none).run Try.prog W = .ok (.slice a1 m c1) W) ∧ VRow d w (.slice a1 m c1) (S.drop l) := by
  obtain ⟨a1, c1, e, hR⟩ := vrow_part h l k (by omega) (Nat.le_refl _)
  obtain rfl : k - l = m := by omega
  have hk := h.len
  rw [List.take_of_length_le (by rw [List.length_drop]; omega)] at hR
  refine ⟨a1, c1, fun W => ?_, hR⟩
  rw [run_slice_l W _ ao k cap row_slice .i64 l (by omega) (by omega), row_elem, row_size, ← e]
  simp [Result.andThen]
/-- row[:r] -/
theorem vrow_to {d : Nat} {w : World} {k cap : Nat} {ao : Option Addr} {S : List Ch} (h : VRow d w (.slice ao k cap) S) (r : Nat) (hr : r ≤ k) :
    ∃ a1 c1, (∀ W, (Instr.slice 68 (.slice ao k cap) none (some (.int .i64 (r : Int))) none).run Try.prog W = .ok (.slice a1 r c1) W) ∧ VRow d w (.slice a1 r c1) (S.take r) := by
  obtain ⟨a1, c1, e, hR⟩ := vrow_part h 0 r (by omega) hr
  have hk := h.len
  have hcap : k ≤ cap := by
    obtain ⟨⟨_, _, _, he, hc, _⟩, _⟩ := h
    cases he
    omega
  rw [Nat.sub_zero] at e hR
  refine ⟨a1, c1, fun W => ?_, by simpa using hR⟩
  rw [run_slice_h W _ ao k cap row_slice .i64 r (by omega) (by omega), row_elem, row_size, ← e]
  simp [Result.andThen]

/-! ### Leaves -/

theorem leaf_elem : Try.prog.elem 66 = 31 := by kernel_rfl
theorem leaf_slice : Try.prog.underlying 66 = some (.slice (Try.prog.elem 66)) := by kernel_rfl
theorem leaf_slice2 : Try.prog.underlying 66 = some (.slice 31) := by kernel_rfl
/-- leaf[l:r] -/
theorem leaf_range {w : World} {k cap : Nat} {ao : Option Addr} {L : List Pr} (h : Prs w (.slice ao k cap) L) (l r m : Nat) (hr : r ≤ k) (hm : l + m = r) :
    ∃ a1 c1, (∀ W, (Instr.slice 66 (.slice ao k cap) (some (.int .i64 (l : Int))) (some (.int .i64 (r : Int))) none).run Try.prog W = .ok (.slice a1 m c1) W) ∧ Prs w (.slice a1 m c1) ((L.drop l).take m) := by
  have hk := h.len
  have hR := h
  unfold Prs at hR
  rw [hk] at hR
  obtain ⟨a1, c1, e, hw⟩ := rw_part hR l r (by omega) hr
  have hcap : k ≤ cap := by
    obtain ⟨_, _, _, he, hc, _⟩ := hR
    cases he
    exact hc
  obtain rfl : r - l = m := by omega
  refine ⟨a1, c1, fun W => ?_, ?_⟩
  · rw [run_slice_lh W _ ao k cap leaf_slice .i64 .i64 l r (by omega) (by omega) (by omega), leaf_elem, pair_size, ← e]
    simp [Result.andThen]
  · unfold Prs
    have hl2 : ((L.drop l).take (r - l)).length = r - l := by
      rw [List.length_take, List.length_drop]
      omega
    rw [hl2, pcells_take, pcells_drop]
    exact hw

end Go.Proofs.Ytgbicdbmmjleoaa
