/-
  Rows in a row, one behind the other. No function is named here.
-/
import Derived.Test.YtbphdajhhnhphaaRw
namespace Go.Proofs.Ytbphdajhhnhphaa
set_option maxRecDepth 100000
open Go.RowKit

/-- A row in a row: what it is, how long, its cells. -/
abbrev Rin := Value × Nat × List Value
/-- Rows in a row. -/
def RwsN (w : World) (s : Nat) (v : Value) (R : List Rin) : Prop := Rw w 1 v R.length (R.map (·.1)) ∧ ∀ x ∈ R, Rw w s x.1 x.2.1 x.2.2
def catN (R : List Rin) : Nat := (R.map (·.2.1)).sum
def catC (R : List Rin) : List Value := R.flatMap (·.2.2)
theorem RwsN.below {w w' : World} {s : Nat} {v : Value} {R : List Rin} (h : RwsN w s v R) (hb : Below w.heap.size w w') : RwsN w' s v R := ⟨Rw.below h.1 hb, fun x hx => (h.2 x hx).below hb⟩
theorem RwsN.form {w : World} {s : Nat} {v : Value} {R : List Rin} (h : RwsN w s v R) : ∃ ao cap, v = .slice ao R.length cap := Rw.form h.1
theorem RwsN.at {w : World} {s : Nat} {ao : Option Addr} {n cap : Nat} {R : List Rin} (h : RwsN w s (.slice ao n cap) R) {k : Nat} (hk : k < R.length) : ∃ b off ar cr, ao = some ⟨b, off, none⟩ ∧ w.cell? ⟨b, off + k, none⟩ = some (.slice ar R[k].2.1 cr) ∧ Rw w s (.slice ar R[k].2.1 cr) R[k].2.1 R[k].2.2 := by
  have hx := h.2 _ (List.getElem_mem hk)
  obtain ⟨ar, cr, hv⟩ := hx.form
  obtain ⟨⟨_, ao', cap', he, _, hc⟩, _⟩ := h
  cases he
  rcases hc with h0 | ⟨b, off, rfl, hc⟩
  · omega
  · have := hc k (by simpa using hk)
    rw [List.getElem_map] at this
    exact ⟨b, off, ar, cr, rfl, hv ▸ this, hv ▸ hx⟩
theorem catN_succ {R : List Rin} {k : Nat} (hk : k < R.length) : catN (R.take (k + 1)) = catN (R.take k) + R[k].2.1 := by
  unfold catN
  rw [List.take_succ_eq_append_getElem hk, List.map_append, List.sum_append]
  simp
theorem catC_succ {R : List Rin} {k : Nat} (hk : k < R.length) : catC (R.take (k + 1)) = catC (R.take k) ++ R[k].2.2 := by
  unfold catC
  rw [List.take_succ_eq_append_getElem hk, List.flatMap_append]
  simp
theorem catN_le (R : List Rin) (k : Nat) : catN (R.take k) ≤ catN R := by
  unfold catN
  rw [← List.take_append_drop k R, List.map_append, List.sum_append, List.take_append_drop]
  omega

end Go.Proofs.Ytbphdajhhnhphaa
