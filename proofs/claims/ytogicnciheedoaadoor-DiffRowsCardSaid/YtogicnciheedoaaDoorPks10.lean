/-
  The texts of one folder in one: TrSpec, TrTail.
-/
import Derived.Test.YtogicnciheedoaaDoorPks09

/-
  The plain functions of layer 10 (tree): what Get and From tell of pairs that rise; what a part of a row settles. No program is named here.
-/
namespace Go.Proofs.YtogicnciheedoaaDoor
set_option maxRecDepth 100000

/-! ### A row in three parts -/

theorem placeN_append {a : List Pr} {k : Ky} (h : ∀ x ∈ a, lessK x.1 k = true) (b : List Pr) : placeN (a ++ b) k = a.length + placeN b k := by
  induction a with
  | nil => simp
  | cons x r ih =>
    rw [List.cons_append, placeN, if_pos (h x (by simp)), ih (fun y hy => h y (by simp [hy])), List.length_cons]
    omega
/-! ### What an edit does -/

end Go.Proofs.YtogicnciheedoaaDoor

/-
  What From tells of rows put together. No program is named here.
-/
namespace Go.Proofs.YtogicnciheedoaaDoor
set_option maxRecDepth 100000

theorem placeN_full {l : List Pr} {k : Ky} (h : ∀ x ∈ l, lessK x.1 k = true) : placeN l k = l.length := by
  have := placeN_append h []
  simpa [placeN] using this
end Go.Proofs.YtogicnciheedoaaDoor
