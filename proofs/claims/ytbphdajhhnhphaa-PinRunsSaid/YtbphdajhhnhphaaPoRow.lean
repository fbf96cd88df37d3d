/-
  Rows of sexton/sextonlaw17.Op: 3 cells each. No type is named here.
-/
import Derived.Test.YtbphdajhhnhphaaPoSpec
import Derived.Test.YtbphdajhhnhphaaRowOf
namespace Go.Proofs.Ytbphdajhhnhphaa
set_option maxRecDepth 100000
open Go.RowKit

def pocell (x : Po) : List Value := [.int .i64 x.1, .int .i64 x.2.1, .int .i64 x.2.2]
theorem pocell_k : CellsK pocell 3 := ⟨by decide, fun _ => rfl⟩
theorem pocell_o : CellsO pocell := fun x u hu => by
  simp [pocell] at hu
  rcases hu with rfl | rfl | rfl <;> rfl
abbrev Pos (w : World) (v : Value) (l : List Po) : Prop := RowOf pocell 3 w v l
theorem pos_at {w : World} {ao : Option Addr} {n cap : Nat} {l : List Po} (h : Pos w (.slice ao n cap) l) {i : Nat} (hi : i < l.length) :
    ∃ b off, ao = some ⟨b, off, none⟩ ∧ w.cell? ⟨b, off + i * 3, none⟩ = some (.int .i64 l[i].1) ∧ w.cell? ⟨b, off + i * 3 + 1, none⟩ = some (.int .i64 l[i].2.1) ∧ w.cell? ⟨b, off + i * 3 + 2, none⟩ = some (.int .i64 l[i].2.2) := by
  obtain ⟨b, off, e, hc⟩ := h.at pocell_k hi
  exact ⟨b, off, e, hc 0 _ rfl, hc 1 _ rfl, hc 2 _ rfl⟩

end Go.Proofs.Ytbphdajhhnhphaa
