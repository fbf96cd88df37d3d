/-
  Rows of sexton/api.Pin: 2 cells each. No type is named here.
-/
import Derived.Test.YtbphdajhhnhphaaPnSpec
import Derived.Test.YtbphdajhhnhphaaRowOf
namespace Go.Proofs.Ytbphdajhhnhphaa
set_option maxRecDepth 100000
open Go.RowKit

def pncell (x : Pn) : List Value := [.int .i64 x.1, .int .i64 x.2]
theorem pncell_k : CellsK pncell 2 := ⟨by decide, fun _ => rfl⟩
theorem pncell_o : CellsO pncell := fun x u hu => by
  simp [pncell] at hu
  rcases hu with rfl | rfl <;> rfl
abbrev Pns (w : World) (v : Value) (l : List Pn) : Prop := RowOf pncell 2 w v l
theorem pns_at {w : World} {ao : Option Addr} {n cap : Nat} {l : List Pn} (h : Pns w (.slice ao n cap) l) {i : Nat} (hi : i < l.length) :
    ∃ b off, ao = some ⟨b, off, none⟩ ∧ w.cell? ⟨b, off + i * 2, none⟩ = some (.int .i64 l[i].1) ∧ w.cell? ⟨b, off + i * 2 + 1, none⟩ = some (.int .i64 l[i].2) := by
  obtain ⟨b, off, e, hc⟩ := h.at pncell_k hi
  exact ⟨b, off, e, hc 0 _ rfl, hc 1 _ rfl⟩

end Go.Proofs.Ytbphdajhhnhphaa
