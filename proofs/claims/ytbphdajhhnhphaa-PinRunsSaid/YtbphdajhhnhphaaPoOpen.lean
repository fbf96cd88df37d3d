/-
  A row of sexton/sextonlaw17.Op that came in, opened.
-/
import Derived.Test.YtbphdajhhnhphaaPoRow
import Derived.Test.YtbphdajhhnhphaaRowOpen
namespace Go.Proofs.Ytbphdajhhnhphaa
set_option maxRecDepth 100000
open Go.RowKit Go.Joins Go.ChangeShapes Go.WideShapes Go.Deep

theorem poCells : Try.prog.cellsOf 40 = 3 := by kernel_rfl
/-- Cells that are one. -/
theorem po_trod {W : World} {n : Nat} {H : Type} {enc : TypeId × Value → H} {x : DataW H × List MemPlace} {c_0 c_1 c_2 : Value}
    (hf : DataW.trod enc Try.prog W 0 (fun _ => true) true n 40 [c_0, c_1, c_2] = some x) : ∃ y : Po, c_0 = .int .i64 y.1 ∧ c_1 = .int .i64 y.2.1 ∧ c_2 = .int .i64 y.2.2 ∧ (Lit.int .i64 y.1).wf = true ∧ (Lit.int .i64 y.2.1).wf = true ∧ (Lit.int .i64 y.2.2).wf = true := by
  have c0 : Try.prog.cellsOf 3 = 1 := by kernel_rfl
  have c1 : Try.prog.cellsOf 24 = 2 := by kernel_rfl
  obtain ⟨xs1, k1, _, _, _, hl1, hc1⟩ := DataW.trod_struct Try.underlying40 hf
  match xs1, hl1 with
  | [z1_0, z1_1], _ =>
  have g1_0 := hc1 0 _ rfl
  simp [c0] at g1_0
  have g1_1 := hc1 1 _ rfl
  simp [c1] at g1_1
  obtain ⟨n0, e0, _, hw0⟩ := DataW.trod_int Try.underlying3 g1_0
  obtain ⟨xs2, k2, _, _, _, hl2, hc2⟩ := DataW.trod_struct Try.underlying24 g1_1
  match xs2, hl2 with
  | [z2_0, z2_1], _ =>
  have g2_0 := hc2 0 _ rfl
  simp [c0] at g2_0
  have g2_1 := hc2 1 _ rfl
  simp [c0] at g2_1
  obtain ⟨n1, e1, _, hw1⟩ := DataW.trod_int Try.underlying3 g2_0
  obtain ⟨n2, e2, _, hw2⟩ := DataW.trod_int Try.underlying3 g2_1
  simp at e0 e1 e2
  subst e0 e1 e2
  exact ⟨(n0, n1, n2), rfl, rfl, rfl, hw0, hw1, hw2⟩
theorem po_list {cs : List Value} (h : cs.length = 3) : ∃ c_0 c_1 c_2, cs = [c_0, c_1, c_2] := by
  match cs, h with
  | [c_0, c_1, c_2], _ => exact ⟨c_0, c_1, c_2, rfl⟩
/-- A row of these. -/
theorem pos_open {W : World} {base : Nat} {v : Value} {H : Type} {enc : TypeId × Value → H} {d : DataW H} {p : List MemPlace} (hv : Value.okWide Try.prog W .any base 38 v)
    (h : DataW.Trod enc Try.prog W 0 (fun _ => true) true 38 v d p) : ∃ l : List Po, Pos W v l ∧ l.length ≤ maxLen ∧ ∀ y ∈ l, (Lit.int .i64 y.1).wf = true ∧ (Lit.int .i64 y.2.1).wf = true ∧ (Lit.int .i64 y.2.2).wf = true :=
  rowOf_open (cell := pocell) (by decide : 0 < 3) (fun _ => rfl) Try.underlying38 poCells
    (fun y : Po => (Lit.int .i64 y.1).wf = true ∧ (Lit.int .i64 y.2.1).wf = true ∧ (Lit.int .i64 y.2.2).wf = true)
    (fun m cs y hy hl => by
      obtain ⟨c_0, c_1, c_2, rfl⟩ := po_list hl
      obtain ⟨z, rfl, rfl, rfl, hz⟩ := po_trod hy
      exact ⟨z, rfl, hz⟩) hv h

end Go.Proofs.Ytbphdajhhnhphaa
