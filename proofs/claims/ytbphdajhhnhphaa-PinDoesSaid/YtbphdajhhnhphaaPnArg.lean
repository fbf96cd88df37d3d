/-
  A pin that came in, opened.
-/
import Derived.Test.YtbphdajhhnhphaaPnOpen
import Derived.Lib.SmallJoins
namespace Go.Proofs.Ytbphdajhhnhphaa
set_option maxRecDepth 100000
open Go.RowKit Go.Joins Go.ChangeShapes Go.WideShapes

/-- A pin that came in. -/
theorem pin_open {W : World} {base : Nat} {v : Value} {H : Type} {enc : TypeId × Value → H} {d : DataW H} {p : List MemPlace} (hv : Value.okWide Try.prog W .any base 24 v)
    (h : DataW.Trod enc Try.prog W 0 (fun _ => true) true 24 v d p) : ∃ (s a : Int), v = .agg #[.int .i64 s, .int .i64 a] := by
  obtain ⟨c0, c1, y0, y1, n, rfl, _, _, t0, t1⟩ := open_agg2 Try.underlying24 (by kernel_rfl) pnCells hv h
  obtain ⟨s, e0, _, _⟩ := DataW.trod_int Try.underlying3 t0
  obtain ⟨z, e1, _, _⟩ := DataW.trod_int Try.underlying3 t1
  simp at e0 e1
  subst e0
  subst e1
  exact ⟨s, z, rfl⟩

end Go.Proofs.Ytbphdajhhnhphaa
