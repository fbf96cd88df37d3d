/-
  A row of sexton/api.Pin that came in, opened.
-/
import Derived.Test.YtbphdajhhnhphaaPnRow
import Derived.Test.YtbphdajhhnhphaaRowOpen
namespace Go.Proofs.Ytbphdajhhnhphaa
set_option maxRecDepth 100000
open Go.RowKit Go.Joins Go.ChangeShapes Go.WideShapes Go.Deep

theorem pnCells : Try.prog.cellsOf 24 = 2 := by kernel_rfl
/-- Cells that are one. -/
theorem pn_trod {W : World} {n : Nat} {H : Type} {enc : TypeId × Value → H} {x : DataW H × List MemPlace} {c_0 c_1 : Value}
    (hf : DataW.trod enc Try.prog W 0 (fun _ => true) true n 24 [c_0, c_1] = some x) : ∃ y : Pn, c_0 = .int .i64 y.1 ∧ c_1 = .int .i64 y.2 ∧ (Lit.int .i64 y.1).wf = true ∧ (Lit.int .i64 y.2).wf = true := by
  have c0 : Try.prog.cellsOf 3 = 1 := by kernel_rfl
  obtain ⟨xs1, k1, _, _, _, hl1, hc1⟩ := DataW.trod_struct Try.underlying24 hf
  match xs1, hl1 with
  | [z1_0, z1_1], _ =>
  have g1_0 := hc1 0 _ rfl
  simp [c0] at g1_0
  have g1_1 := hc1 1 _ rfl
  simp [c0] at g1_1
  obtain ⟨n0, e0, _, hw0⟩ := DataW.trod_int Try.underlying3 g1_0
  obtain ⟨n1, e1, _, hw1⟩ := DataW.trod_int Try.underlying3 g1_1
  simp at e0 e1
  subst e0 e1
  exact ⟨(n0, n1), rfl, rfl, hw0, hw1⟩
theorem pn_list {cs : List Value} (h : cs.length = 2) : ∃ c_0 c_1, cs = [c_0, c_1] := by
  match cs, h with
  | [c_0, c_1], _ => exact ⟨c_0, c_1, rfl⟩
/-- A row of these. -/
theorem pns_open {W : World} {base : Nat} {v : Value} {H : Type} {enc : TypeId × Value → H} {d : DataW H} {p : List MemPlace} (hv : Value.okWide Try.prog W .any base 22 v)
    (h : DataW.Trod enc Try.prog W 0 (fun _ => true) true 22 v d p) : ∃ l : List Pn, Pns W v l ∧ l.length ≤ maxLen ∧ ∀ y ∈ l, (Lit.int .i64 y.1).wf = true ∧ (Lit.int .i64 y.2).wf = true :=
  rowOf_open (cell := pncell) (by decide : 0 < 2) (fun _ => rfl) Try.underlying22 pnCells
    (fun y : Pn => (Lit.int .i64 y.1).wf = true ∧ (Lit.int .i64 y.2).wf = true)
    (fun m cs y hy hl => by
      obtain ⟨c_0, c_1, rfl⟩ := pn_list hl
      obtain ⟨z, rfl, rfl, hz⟩ := pn_trod hy
      exact ⟨z, rfl, hz⟩) hv h

end Go.Proofs.Ytbphdajhhnhphaa
