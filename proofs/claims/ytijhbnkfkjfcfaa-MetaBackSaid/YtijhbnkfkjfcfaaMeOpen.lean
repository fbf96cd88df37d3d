/-
  A meta that came in, opened.
-/
import Derived.Test.YtijhbnkfkjfcfaaMeIs
import Derived.Lib.SmallJoins
import Derived.ChangeSame
namespace Go.Proofs.Ytijhbnkfkjfcfaa
set_option maxRecDepth 100000
open Go.RowKit Go.Joins Go.ChangeShapes Go.WideShapes

theorem metaCells : Try.prog.cellsOf 24 = 3 := by kernel_rfl
theorem meta_open {W : World} {base : Nat} {v : Value} {H : Type} {enc : TypeId × Value → H} {d : DataW H} {p : List MemPlace} (hv : Value.okWide Try.prog W .any base 24 v)
    (h : DataW.Trod enc Try.prog W 0 (fun _ => true) true 24 v d p) : ∃ (z m : Int) (u : Value) (cs : List Int), v = MV z m u ∧ Ints W u cs ∧ cs.length ≤ maxLen := by
  obtain ⟨cs, rfl, hsz⟩ := okWide_struct Try.underlying24 hv
  obtain ⟨c0, c1, c2, rfl⟩ := array3 (hsz.trans metaCells)
  obtain ⟨fuel, hf⟩ := h
  have k1 : Try.prog.cellsOf 3 = 1 := by kernel_rfl
  have k2 : Try.prog.cellsOf 22 = 1 := by kernel_rfl
  obtain ⟨xs, n, _, _, _, hl, hc⟩ := DataW.trod_struct Try.underlying24 hf
  have h3 : xs.length = 3 := hl
  have g0 := hc 0 _ rfl
  have g1 := hc 1 _ rfl
  have g2 := hc 2 _ rfl
  simp [k1, Value.cells, List.getElem?_eq_getElem (show 0 < xs.length by omega)] at g0
  simp [k1, Value.cells, List.getElem?_eq_getElem (show 1 < xs.length by omega)] at g1
  simp [k2, Value.cells, List.getElem?_eq_getElem (show 2 < xs.length by omega)] at g2
  obtain ⟨z, e0, _, _⟩ := DataW.trod_int Try.underlying3 g0
  obtain ⟨m, e1, _, _⟩ := DataW.trod_int Try.underlying3 g1
  obtain ⟨zs, h1, h2⟩ := ints_trod g2
  simp at e0 e1
  subst e0
  subst e1
  exact ⟨z, m, c2, zs, rfl, h1, h2⟩

end Go.Proofs.Ytijhbnkfkjfcfaa
