/-
  A meta that came in, opened.
-/
import Derived.Test.YtinbeapkhmcifaaDoorMeIs
import Derived.Lib.SmallJoins
import Derived.ChangeSame
namespace Go.Proofs.YtinbeapkhmcifaaDoor
set_option maxRecDepth 100000
open Go.RowKit Go.Joins Go.ChangeShapes Go.WideShapes

theorem metaCells : Tryd.prog.cellsOf 24 = 3 := by kernel_rfl
theorem meta_open_wf {W : World} {base : Nat} {v : Value} {H : Type} {enc : TypeId × Value → H} {d : DataW H} {p : List MemPlace} (hv : Value.okWide Tryd.prog W .any base 24 v)
    (h : DataW.Trod enc Tryd.prog W 0 (fun _ => true) true 24 v d p) : ∃ (z m : Int) (u : Value) (cs : List Int), v = MV z m u ∧ Ints W u cs ∧ cs.length ≤ maxLen ∧ ∀ n ∈ cs, (Lit.int .i64 n).wf = true := by
  obtain ⟨cs, rfl, hsz⟩ := okWide_struct Tryd.underlying24 hv
  obtain ⟨c0, c1, c2, rfl⟩ := array3 (hsz.trans metaCells)
  obtain ⟨fuel, hf⟩ := h
  have k1 : Tryd.prog.cellsOf 3 = 1 := by kernel_rfl
  have k2 : Tryd.prog.cellsOf 22 = 1 := by kernel_rfl
  obtain ⟨xs, n, _, _, _, hl, hc⟩ := DataW.trod_struct Tryd.underlying24 hf
  have h4 : xs.length = 3 := hl
  have g0 := hc 0 _ rfl
  have g1 := hc 1 _ rfl
  have g2 := hc 2 _ rfl
  simp [k1, Value.cells, List.getElem?_eq_getElem (show 0 < xs.length by omega)] at g0
  simp [k1, Value.cells, List.getElem?_eq_getElem (show 1 < xs.length by omega)] at g1
  simp [k2, Value.cells, List.getElem?_eq_getElem (show 2 < xs.length by omega)] at g2
  obtain ⟨z, e0, _, _⟩ := DataW.trod_int Tryd.underlying3 g0
  obtain ⟨m, e1, _, _⟩ := DataW.trod_int Tryd.underlying3 g1
  obtain ⟨zs, h1, h2, h3⟩ := ints_trod_wf g2
  simp at e0 e1
  subst e0
  subst e1
  exact ⟨z, m, c2, zs, rfl, h1, h2, h3⟩
theorem meta_open {W : World} {base : Nat} {v : Value} {H : Type} {enc : TypeId × Value → H} {d : DataW H} {p : List MemPlace} (hv : Value.okWide Tryd.prog W .any base 24 v)
    (h : DataW.Trod enc Tryd.prog W 0 (fun _ => true) true 24 v d p) : ∃ (z m : Int) (u : Value) (cs : List Int), v = MV z m u ∧ Ints W u cs ∧ cs.length ≤ maxLen :=
  let ⟨z, m, u, cs, h1, h2, h3, _⟩ := meta_open_wf hv h
  ⟨z, m, u, cs, h1, h2, h3⟩

end Go.Proofs.YtinbeapkhmcifaaDoor
