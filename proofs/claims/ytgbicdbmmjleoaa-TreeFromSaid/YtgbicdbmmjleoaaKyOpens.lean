/-
  A key that came in, opened.
-/
import Derived.Test.YtgbicdbmmjleoaaKyOrd
import Derived.Test.YtgbicdbmmjleoaaGround
import Derived.Lib.SmallJoins
namespace Go.Proofs.Ytgbicdbmmjleoaa
open Go.RowKit Go.Joins Go.ChangeShapes Go.WideShapes

theorem keyCells : Try.prog.cellsOf 24 = 2 := by kernel_rfl
set_option maxRecDepth 100000 in
/-- A key that came in. -/
theorem key_open {W : World} {base : Nat} {v : Value} {H : Type} {enc : TypeId × Value → H} {d : DataW H} {p : List MemPlace} (hv : Value.okWide Try.prog W .any base 24 v)
    (h : DataW.Trod enc Try.prog W 0 (fun _ => true) true 24 v d p) : ∃ (l : List UInt8) (z : Int), v = .agg #[.string ⟨l.toArray⟩, .int .i64 z] ∧ (Lit.int .i64 z).wf = true := by
  obtain ⟨c0, c1, y0, y1, n, rfl, _, _, t0, t1⟩ := open_agg2 Try.underlying24 (by kernel_rfl) keyCells hv h
  obtain ⟨s, e0, _, _⟩ := DataW.trod_string Try.underlying9 t0
  obtain ⟨z, e1, _, w1⟩ := DataW.trod_int Try.underlying3 t1
  simp at e0 e1
  subst e0
  subst e1
  obtain ⟨l, rfl⟩ := bytes_list s
  exact ⟨l, z, rfl, w1⟩

end Go.Proofs.Ytgbicdbmmjleoaa
